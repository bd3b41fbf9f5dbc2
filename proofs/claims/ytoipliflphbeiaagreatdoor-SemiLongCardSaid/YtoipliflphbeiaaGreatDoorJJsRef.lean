/-
  The contracts of laceworkref12's bad, blanks, digits, hex and word: for every string and every place; nothing that was there is changed.
  The contracts of laceworkref12's hex, word and escape: for every string and every place; nothing that was there is changed.
  The contract of laceworkref12's Str: for every string and every place; nothing that was there is changed.
  The contract of laceworkref12's Number: for every string and every place at which no other value begins; nothing that was there is changed.
  What laceworkref12's Value, item and many tell; the contract of Value, if many's is known behind its place.
  The contract of laceworkref12's many, if item's is known from its place on.
  The contract of laceworkref12's item, if Value's is known from its place on; then of Value, for every string and every place.
  The contracts of laceworkref12's Text and Validate: of every string; nothing that was there is changed.
-/
import Derived.Laws.ResultCell
import Derived.Laws.Rows
import Derived.Lib.Builder
import Derived.Test.YtoipliflphbeiaaGreatDoorC00
import Derived.Test.YtoipliflphbeiaaGreatDoorJUt
import Derived.Test.YtoipliflphbeiaaGreatDoorJUtL
namespace Go.Proofs.YtoipliflphbeiaaGreatDoor
open Go.RowKit
/-- What the reference tells: a place, whether all is well ahead of it, how deep it nests. -/
def rv (i : Nat) (o : Bool) (d : Nat) : Value := .agg #[.int .i64 (i : Nat), .bool o, .int .i64 (d : Nat)]
theorem sizeR : (Tryz.prog.info? 95).map (·.size) = some 3 := by kernel_rfl
theorem jBad_any (z : Int) (i : Nat) (w : World) (hz : z = (i : Int)) :
    Calls Tryz.prog 128 #[.int .i64 z] w fun e w' => e = .returned (rv i false 0) ∧ Below w.heap.size w w' := by
  subst hz
  go_enter Tryz.func128, Tryz.ntmps128
  go_wp2_with fail
  refine bodyPost_ret (results_cell_row rfl _ _ w.heap.size 95 #[.int .i64 (i : Nat), .bool false, .int .i64 0] (0, 0) _ rfl ?_ Tryz.underlying95 rfl sizeR) rfl ?_
  · exact heap_alloc_new _ _
  · exact ⟨rfl, (Below.refl _ _).alloc (Nat.le_refl _) _⟩
set_option maxHeartbeats 1000000 in
theorem jBlanks_any (s : ByteArray) (i : Nat) (w : World) (hs : s.size ≤ 1000000) (hi : i ≤ s.size) :
    Calls Tryz.prog 99 #[.string s, .int .i64 (i : Nat)] w fun e w' => (∃ j : Nat, e = .returned (.int .i64 (j : Nat)) ∧ i ≤ j ∧ j ≤ s.size ∧ (∀ hj : j < s.size, Js.isB s[j].toNat = false) ∧ ∀ c, Js.Sp c → Js.T s.data.toList c i = Js.T s.data.toList c j) ∧ w' = w := by
  go_enter Tryz.func99, Tryz.ntmps99
  go_wp2_with fail
  go_loop [1] (fun v => ∃ j : Nat, v = .int .i64 (j : Nat) ∧ i ≤ j ∧ j ≤ s.size ∧ ∀ c, Js.Sp c → Js.T s.data.toList c i = Js.T s.data.toList c j) (fun v => s.size - (intOf v).toNat)
  case atStart => exact ⟨i, rfl, Nat.le_refl _, hi, fun _ _ => rfl⟩
  case round =>
    obtain ⟨j, rfl, hij, hjs, hT⟩ := hrel
    have HT := hidden hT
    clear hT
    by_cases hlt : j < s.size
    · have hb := s[j].toNat_lt
      have hlt2 : decide ((j : Int) < (s.size : Int)) = true := decide_eq_true (by omega)
      have next : Hid (Js.isB s[j].toNat = true → ∀ c, Js.Sp c → Js.T s.data.toList c i = Js.T s.data.toList c (j + 1)) := fun h c hc => (HT.out c hc).trans (Js.T_blank _ c j hc hlt h)
      by_cases h1 : s[j].toNat = 32
      · go_wp2_with fail
        go_round
        case rel => exact ⟨j + 1, by go_num, by omega, hlt, next.out (Js.isB_of _ (.inl h1))⟩
        case measure => simp [intOf]; omega
      by_cases h2 : s[j].toNat = 9
      · clear h1
        go_wp2_with fail
        go_round
        case rel => exact ⟨j + 1, by go_num, by omega, hlt, next.out (Js.isB_of _ (.inr (.inl h2)))⟩
        case measure => simp [intOf]; omega
      by_cases h3 : s[j].toNat = 10
      · clear h1 h2
        go_wp2_with fail
        go_round
        case rel => exact ⟨j + 1, by go_num, by omega, hlt, next.out (Js.isB_of _ (.inr (.inr (.inl h3))))⟩
        case measure => simp [intOf]; omega
      by_cases h4 : s[j].toNat = 13
      · clear h1 h2 h3
        go_wp2_with fail
        go_round
        case rel => exact ⟨j + 1, by go_num, by omega, hlt, next.out (Js.isB_of _ (.inr (.inr (.inr h4))))⟩
        case measure => simp [intOf]; omega
      · have HN := hidden (Js.isB_not _ h1 h2 h3 h4)
        have e1 : (((s[j].toNat : Nat) : Int) == 32) = false := by rw [beq_eq_false_iff_ne]; omega
        have e2 : (((s[j].toNat : Nat) : Int) == 9) = false := by rw [beq_eq_false_iff_ne]; omega
        have e3 : (((s[j].toNat : Nat) : Int) == 10) = false := by rw [beq_eq_false_iff_ne]; omega
        have e4 : (((s[j].toNat : Nat) : Int) == 13) = false := by rw [beq_eq_false_iff_ne]; omega
        clear h1 h2 h3 h4
        go_wp2_with fail
        go_ret
        exact ⟨⟨j, rfl, hij, hjs, fun _ => HN.out, HT.out⟩, rfl⟩
    · have hlt2 : decide ((j : Int) < (s.size : Int)) = false := decide_eq_false (by omega)
      go_wp2_with fail
      go_ret
      exact ⟨⟨j, rfl, hij, hjs, fun h => absurd h hlt, HT.out⟩, rfl⟩
set_option maxHeartbeats 1000000 in
theorem jDigits_any (s : ByteArray) (z : Int) (i : Nat) (w : World) (hz : z = (i : Int)) (hs : s.size ≤ 1000000) (hi : i ≤ s.size) :
    Calls Tryz.prog 166 #[.string s, .int .i64 z] w fun e w' => (∃ n : Nat, e = .returned (.int .i64 (n : Nat)) ∧ i + n ≤ s.size ∧ (∀ hj : i + n < s.size, Js.isD s[i + n].toNat = false) ∧ ∀ j, i ≤ j → j < i + n → ∃ hj : j < s.size, Js.isD s[j].toNat = true) ∧ w' = w := by
  subst hz
  go_enter Tryz.func166, Tryz.ntmps166
  go_wp2_with fail
  go_loop [5] (fun v => ∃ n : Nat, v = .int .i64 (n : Nat) ∧ i + n ≤ s.size ∧ ∀ j, i ≤ j → j < i + n → ∃ hj : j < s.size, Js.isD s[j].toNat = true) (fun v => s.size - (intOf v).toNat)
  case atStart => exact ⟨0, rfl, hi, fun j h1 h2 => by omega⟩
  case round =>
    obtain ⟨n, rfl, hn, hall⟩ := hrel
    have HA := hidden hall
    clear hall
    obtain ⟨p, hp⟩ : ∃ p, p = i + n := ⟨_, rfl⟩
    have hpi : (i : Int) + (n : Int) = (p : Int) := by omega
    by_cases hlt : p < s.size
    · have hb := s[p].toNat_lt
      have HP := hidden hp
      have hpw : IntKind.i64.wrap (p : Int) = (p : Int) := by rw [IntKind.wrap_i64]; omega
      have d0 : decide ((p : Int) < (s.size : Int)) = true := decide_eq_true (by omega)
      have d0n : decide (p < s.size) = true := decide_eq_true hlt
      by_cases h1 : 48 ≤ s[p].toNat
      · have d1 : decide ((48 : Int) ≤ ((s[p].toNat : Nat) : Int)) = true := decide_eq_true (by omega)
        by_cases h2 : s[p].toNat ≤ 57
        · have d2 : decide (((s[p].toNat : Nat) : Int) ≤ 57) = true := decide_eq_true (by omega)
          have HD := hidden ((Js.isD_iff _).2 ⟨h1, h2⟩)
          clear hp h1 h2
          go_wp2_with fail
          go_round
          case rel =>
            refine ⟨n + 1, by go_num, by have := HP.out; omega, fun j h3 h4 => ?_⟩
            by_cases h5 : j < i + n
            · exact HA.out j h3 h5
            · obtain rfl : j = p := by have := HP.out; omega
              exact ⟨hlt, HD.out⟩
          case measure => have := HP.out; simp [intOf]; omega
        · have d2 : decide (((s[p].toNat : Nat) : Int) ≤ 57) = false := decide_eq_false (by omega)
          have HD : Hid (Js.isD s[p].toNat = false) := by
            show _ = _
            cases h3 : Js.isD s[p].toNat with
            | false => rfl
            | true => rw [Js.isD_iff] at h3; omega
          clear hp h1 h2
          go_wp2_with fail
          go_ret
          refine ⟨⟨n, rfl, hn, fun _ => ?_, HA.out⟩, rfl⟩
          have := HD.out
          simp only [HP.out] at this
          exact this
      · have d1 : decide ((48 : Int) ≤ ((s[p].toNat : Nat) : Int)) = false := decide_eq_false (by omega)
        have HD : Hid (Js.isD s[p].toNat = false) := by
          show _ = _
          cases h3 : Js.isD s[p].toNat with
          | false => rfl
          | true => rw [Js.isD_iff] at h3; omega
        clear hp h1
        go_wp2_with fail
        go_ret
        refine ⟨⟨n, rfl, hn, fun _ => ?_, HA.out⟩, rfl⟩
        have := HD.out
        simp only [HP.out] at this
        exact this
    · have d0 : decide ((p : Int) < (s.size : Int)) = false := decide_eq_false (by omega)
      have d0n : decide (p < s.size) = false := decide_eq_false hlt
      have HP := hidden hp
      clear hp
      go_wp2_with fail
      go_ret
      exact ⟨⟨n, rfl, hn, fun h => absurd h (by have := HP.out; omega), HA.out⟩, rfl⟩
end Go.Proofs.YtoipliflphbeiaaGreatDoor
namespace Go.Proofs.YtoipliflphbeiaaGreatDoor
open Go.RowKit
/-- The three cells of an R: that they may be written, and what they are then. -/
structure RvOpen (W : World) (B : Nat) (x0 y0 z0 : Value) : Prop where
  c0 : W.cell? ⟨B, 0, none⟩ = some x0
  f0 : W.frozen? ⟨B, 0, none⟩ = false
  c1 : ∀ v, (W.setCell ⟨B, 0, none⟩ v).cell? ⟨B, 1, none⟩ = some y0
  f1 : ∀ v, (W.setCell ⟨B, 0, none⟩ v).frozen? ⟨B, 1, none⟩ = false
  c2 : ∀ v v', ((W.setCell ⟨B, 0, none⟩ v).setCell ⟨B, 1, none⟩ v').cell? ⟨B, 2, none⟩ = some z0
  f2 : ∀ v v', ((W.setCell ⟨B, 0, none⟩ v).setCell ⟨B, 1, none⟩ v').frozen? ⟨B, 2, none⟩ = false
theorem rv_one {W : World} {B : Nat} {t : TypeId} {x0 y0 z0 : Value} (h : W.heap[B]? = some (.cells #[x0, y0, z0] t (0, 0))) (x : Value) : (W.setCell ⟨B, 0, none⟩ x).heap[B]? = some (.cells #[x, y0, z0] t (0, 0)) := by
  simp [World.setCell, Array.getElem?_modify, h]
theorem rv_two {W : World} {B : Nat} {t : TypeId} {x0 y0 z0 : Value} (h : W.heap[B]? = some (.cells #[x0, y0, z0] t (0, 0))) (x y : Value) : ((W.setCell ⟨B, 0, none⟩ x).setCell ⟨B, 1, none⟩ y).heap[B]? = some (.cells #[x, y, z0] t (0, 0)) := by
  simp [World.setCell, Array.getElem?_modify, h]
theorem rv_cells {W : World} {B : Nat} {t : TypeId} {x0 y0 z0 : Value} (h : W.heap[B]? = some (.cells #[x0, y0, z0] t (0, 0))) (x y z : Value) : (((W.setCell ⟨B, 0, none⟩ x).setCell ⟨B, 1, none⟩ y).setCell ⟨B, 2, none⟩ z).heap[B]? = some (.cells #[x, y, z] t (0, 0)) := by
  simp [World.setCell, Array.getElem?_modify, h]
theorem rv_open {W : World} {B : Nat} {t : TypeId} {x0 y0 z0 : Value} (h : W.heap[B]? = some (.cells #[x0, y0, z0] t (0, 0))) : RvOpen W B x0 y0 z0 :=
  ⟨Lib.cell_of_heap h 0, Lib.frozen_of_heap h 0, fun v => Lib.cell_of_heap (rv_one h v) 1, fun v => Lib.frozen_of_heap (rv_one h v) 1, fun v v' => Lib.cell_of_heap (rv_two h v v') 2, fun v v' => Lib.frozen_of_heap (rv_two h v v') 2⟩
theorem rv_below {B b : Nat} {w W : World} (h : Below B w W) (hb : B ≤ b) (x y z : Value) : Below B w (((W.setCell ⟨b, 0, none⟩ x).setCell ⟨b, 1, none⟩ y).setCell ⟨b, 2, none⟩ z) := ((h.setCell hb x).setCell hb y).setCell hb z
set_option maxHeartbeats 1000000 in
theorem jHex_any (b : Nat) (w : World) :
    Calls Tryz.prog 181 #[.int .u8 (b : Nat)] w fun e w' => e = .returned (.bool (Js.isH b)) ∧ w' = w := by
  rcases (show b < 48 ∨ (48 ≤ b ∧ b ≤ 57) ∨ (57 < b ∧ b < 65) ∨ (65 ≤ b ∧ b ≤ 70) ∨ (70 < b ∧ b < 97) ∨ (97 ≤ b ∧ b ≤ 102) ∨ 102 < b by omega) with h | h | h | h | h | h | h
  · have HR : Hid (Js.isH b = false) := by
      show _ = _
      unfold Js.isH Js.isD
      rw [decide_eq_false (show ¬ 48 ≤ b by omega), decide_eq_false (show ¬ 97 ≤ b by omega), decide_eq_false (show ¬ 65 ≤ b by omega)]
      rfl
    have a1 : ¬ 48 ≤ b := by omega
    have a2 : ¬ 97 ≤ b := by omega
    have a3 : ¬ 65 ≤ b := by omega
    clear h
    go_enter Tryz.func181, Tryz.ntmps181
    go_wp2
    go_ret
    rw [HR.out]
    exact ⟨rfl, rfl⟩
  · have HR : Hid (Js.isH b = true) := by
      show _ = _
      unfold Js.isH Js.isD
      rw [decide_eq_true h.1, decide_eq_true h.2]
      rfl
    obtain ⟨a1, a2⟩ := h
    have d57 : decide ((b : Int) ≤ 57) = true := decide_eq_true (by omega)
    go_enter Tryz.func181, Tryz.ntmps181
    go_wp2
    go_ret
    rw [HR.out]
    exact ⟨rfl, rfl⟩
  · have HR : Hid (Js.isH b = false) := by
      show _ = _
      unfold Js.isH Js.isD
      rw [decide_eq_false (show ¬ b ≤ 57 by omega), decide_eq_false (show ¬ 97 ≤ b by omega), decide_eq_false (show ¬ 65 ≤ b by omega), Bool.and_false]
      rfl
    have a0 : 48 ≤ b := by omega
    have a1 : ¬ b ≤ 57 := by omega
    have d57 : decide ((b : Int) ≤ 57) = false := decide_eq_false (by omega)
    have a2 : ¬ 97 ≤ b := by omega
    have a3 : ¬ 65 ≤ b := by omega
    clear h
    go_enter Tryz.func181, Tryz.ntmps181
    go_wp2
    go_ret
    rw [HR.out]
    exact ⟨rfl, rfl⟩
  · have HR : Hid (Js.isH b = true) := by
      show _ = _
      unfold Js.isH
      rw [decide_eq_true h.1, decide_eq_true h.2, Bool.and_true, Bool.or_true]
    have a0 : 48 ≤ b := by omega
    have a1 : ¬ b ≤ 57 := by omega
    have d57 : decide ((b : Int) ≤ 57) = false := decide_eq_false (by omega)
    have a2 : ¬ 97 ≤ b := by omega
    obtain ⟨a3, a4⟩ := h
    have d70 : decide ((b : Int) ≤ 70) = true := decide_eq_true (by omega)
    go_enter Tryz.func181, Tryz.ntmps181
    go_wp2
    go_ret
    rw [HR.out]
    exact ⟨rfl, rfl⟩
  · have HR : Hid (Js.isH b = false) := by
      show _ = _
      unfold Js.isH Js.isD
      rw [decide_eq_false (show ¬ b ≤ 57 by omega), decide_eq_false (show ¬ 97 ≤ b by omega), decide_eq_false (show ¬ b ≤ 70 by omega), Bool.and_false, Bool.and_false]
      rfl
    have a0 : 48 ≤ b := by omega
    have a1 : ¬ b ≤ 57 := by omega
    have d57 : decide ((b : Int) ≤ 57) = false := decide_eq_false (by omega)
    have a2 : ¬ 97 ≤ b := by omega
    have a3 : 65 ≤ b := by omega
    have a4 : ¬ b ≤ 70 := by omega
    have d70 : decide ((b : Int) ≤ 70) = false := decide_eq_false (by omega)
    clear h
    go_enter Tryz.func181, Tryz.ntmps181
    go_wp2
    go_ret
    rw [HR.out]
    exact ⟨rfl, rfl⟩
  · have HR : Hid (Js.isH b = true) := by
      show _ = _
      unfold Js.isH
      rw [decide_eq_true h.1, decide_eq_true h.2, Bool.and_true, Bool.or_true, Bool.true_or]
    have a0 : 48 ≤ b := by omega
    have a1 : ¬ b ≤ 57 := by omega
    have d57 : decide ((b : Int) ≤ 57) = false := decide_eq_false (by omega)
    obtain ⟨a2, a3⟩ := h
    have d102 : decide ((b : Int) ≤ 102) = true := decide_eq_true (by omega)
    go_enter Tryz.func181, Tryz.ntmps181
    go_wp2
    go_ret
    rw [HR.out]
    exact ⟨rfl, rfl⟩
  · have HR : Hid (Js.isH b = false) := by
      show _ = _
      unfold Js.isH Js.isD
      rw [decide_eq_false (show ¬ b ≤ 57 by omega), decide_eq_false (show ¬ b ≤ 102 by omega), decide_eq_false (show ¬ b ≤ 70 by omega), Bool.and_false, Bool.and_false, Bool.and_false]
      rfl
    have a0 : 48 ≤ b := by omega
    have a1 : ¬ b ≤ 57 := by omega
    have d57 : decide ((b : Int) ≤ 57) = false := decide_eq_false (by omega)
    have a2 : 97 ≤ b := by omega
    have a3 : ¬ b ≤ 102 := by omega
    have d102 : decide ((b : Int) ≤ 102) = false := decide_eq_false (by omega)
    have a4 : 65 ≤ b := by omega
    have a5 : ¬ b ≤ 70 := by omega
    have d70 : decide ((b : Int) ≤ 70) = false := decide_eq_false (by omega)
    clear h
    go_enter Tryz.func181, Tryz.ntmps181
    go_wp2
    go_ret
    rw [HR.out]
    exact ⟨rfl, rfl⟩
/-- A text at a place: all of it, or as far as it is there. -/
def WdPost (s v : ByteArray) (i : Nat) (e : Ending) : Prop :=
  (e = .returned (rv (i + v.size) true 0) ∧ i + v.size ≤ s.size ∧ ∀ j (h : j < v.size), ∃ h2 : i + j < s.size, s[i + j].toNat = v[j].toNat)
  ∨ ∃ j, ∃ h : j < v.size, e = .returned (rv (i + j) false 0) ∧ i + j ≤ s.size ∧ (∀ k (h : k < j), ∃ (h2 : i + k < s.size) (h3 : k < v.size), s[i + k].toNat = v[k].toNat) ∧ ∀ h2 : i + j < s.size, s[i + j].toNat ≠ v[j].toNat
set_option maxHeartbeats 2000000 in
theorem jWord_any (s v : ByteArray) (i : Nat) (w : World) (hs : s.size ≤ 1000000) (hv : v.size ≤ 1000) (hi : i ≤ s.size) :
    Calls Tryz.prog 129 #[.string s, .int .i64 (i : Nat), .string v] w fun e w' => WdPost s v i e ∧ Below w.heap.size w w' := by
  go_enter Tryz.func129, Tryz.ntmps129
  go_wp2_with fail
  go_loopw [7] (fun c wr => ∃ j m : Nat, j ≤ v.size ∧ c = .int .i64 (j : Nat) ∧ wr = (w.alloc (Obj.cells #[.int .i64 0, .bool false, .int .i64 0] 95)).drewN m ∧ i + j ≤ s.size ∧ ∀ k (_ : k < j), ∃ (h2 : i + k < s.size) (h3 : k < v.size), s[i + k].toNat = v[k].toNat) (fun c _ => v.size - (intOf c).toNat)
  case atStart => exact ⟨0, 0, Nat.zero_le _, rfl, rfl, hi, fun k hk => absurd hk (Nat.not_lt_zero _)⟩
  case round =>
    obtain ⟨j, m, hj, rfl, rfl, hij, hall⟩ := hrel
    have HA := hidden hall
    have HB : Hid (∀ n, Below w.heap.size w ((w.alloc (Obj.cells #[.int .i64 0, .bool false, .int .i64 0] 95)).drewN n)) := fun n => (fun {B} {a} {x} (h : Below B a x) (n : Nat) => (⟨h.os, h.tape, h.output, h.size, h.block⟩ : Below B a (x.drewN n))) ((Below.refl _ _).alloc (Nat.le_refl _) _) n
    clear hall
    obtain ⟨p, hp⟩ : ∃ p, p = i + j := ⟨_, rfl⟩
    have hpi : (i : Int) + (j : Int) = (p : Int) := by omega
    have hpw : IntKind.i64.wrap (p : Int) = (p : Int) := by rw [IntKind.wrap_i64]; omega
    have HP := hidden hp
    by_cases hlt : j < v.size
    · have hlt2 : decide ((j : Int) < (v.size : Int)) = true := decide_eq_true (by omega)
      obtain ⟨g, hg⟩ : ∃ g, g = v[j].toNat := ⟨_, rfl⟩
      have hvj : ∀ (h : j < v.size), (v[j]'h).toNat = g := fun h => hg.symm
      by_cases hps : p < s.size
      · have d0 : decide ((s.size : Int) ≤ (p : Int)) = false := decide_eq_false (by omega)
        have d0n : decide (s.size ≤ p) = false := decide_eq_false (by omega)
        have hsp : ((s.size : Int) ≤ (p : Int)) = False := eq_false (by omega)
        obtain ⟨c, hc⟩ : ∃ c, c = s[p].toNat := ⟨_, rfl⟩
        have hcj : ∀ (h : p < s.size), (s[p]'h).toNat = c := fun h => hc.symm
        by_cases heq : c = g
        · have e1 : ((c : Int) != (g : Int)) = false := by rw [heq]; exact bne_self_eq_false _
          have e2 : (c != g) = false := by rw [heq]; exact bne_self_eq_false _
          have HE : Hid (s[p].toNat = v[j].toNat) := hidden (by rw [← hc, ← hg]; exact heq)
          clear hp heq hc hg
          go_wp2_with fail
          go_quiet (fail)
          go_wp2_with fail
          go_roundw
          case rel =>
            refine ⟨j + 1, m + nq, hlt, by go_num, rfl, by have := HP.out; omega, fun k hk => ?_⟩
            by_cases hkj : k < j
            · exact HA.out k hkj
            · obtain rfl : k = j := by omega
              have h5 := HP.out
              subst h5
              exact ⟨hps, hlt, HE.out⟩
          case measure => simp [intOf]; omega
        · have e1 : ((c : Int) != (g : Int)) = true := by rw [bne_iff_ne]; omega
          have e2 : (c != g) = true := by rw [bne_iff_ne]; exact heq
          have HE : Hid (¬ s[p].toNat = v[j].toNat) := hidden (by rw [← hc, ← hg]; exact heq)
          clear hp heq hc hg
          go_wp2_with fail
          go_quiet (fail)
          go_wp2_with fail
          refine (jBad_any (p : Int) p _ rfl).mono ?_
          rintro e w1 ⟨rfl, hb⟩
          have hg1 : w1.heap[w.heap.size]? = some (.cells #[.int .i64 0, .bool false, .int .i64 0] 95 (0, 0)) := (hb.block _ (by simp)).trans (heap_alloc_new _ _)
          obtain ⟨c0, f0, c1, f1, c2, f2⟩ := rv_open hg1
          have HG := hidden hg1
          have HQ := hidden ((HB.out _).trans (hb.mono (HB.out _).size))
          clear hb hg1
          unfold rv
          go_wp2_with fail
          refine bodyPost_ret (results_cell_row rfl _ _ w.heap.size 95 #[.int .i64 (p : Nat), .bool false, .int .i64 0] (0, 0) _ rfl ?_ Tryz.underlying95 rfl sizeR) rfl ?_
          · exact rv_cells HG.out _ _ _
          refine ⟨.inr ⟨j, hlt, by rw [← HP.out]; rfl, hij, HA.out, fun h2 => ?_⟩, rv_below HQ.out (Nat.le_refl _) _ _ _⟩
          have h5 := HP.out
          subst h5
          exact HE.out
      · have d0 : decide ((s.size : Int) ≤ (p : Int)) = true := decide_eq_true (by omega)
        have d0n : decide (s.size ≤ p) = true := decide_eq_true (by omega)
        clear hp hg
        go_wp2_with fail
        go_quiet (fail)
        go_wp2_with fail
        refine (jBad_any (p : Int) p _ rfl).mono ?_
        rintro e w1 ⟨rfl, hb⟩
        have hg1 : w1.heap[w.heap.size]? = some (.cells #[.int .i64 0, .bool false, .int .i64 0] 95 (0, 0)) := (hb.block _ (by simp)).trans (heap_alloc_new _ _)
        obtain ⟨c0, f0, c1, f1, c2, f2⟩ := rv_open hg1
        have HG := hidden hg1
        have HQ := hidden ((HB.out _).trans (hb.mono (HB.out _).size))
        clear hb hg1
        unfold rv
        go_wp2_with fail
        refine bodyPost_ret (results_cell_row rfl _ _ w.heap.size 95 #[.int .i64 (p : Nat), .bool false, .int .i64 0] (0, 0) _ rfl ?_ Tryz.underlying95 rfl sizeR) rfl ?_
        · exact rv_cells HG.out _ _ _
        exact ⟨.inr ⟨j, hlt, by rw [← HP.out]; rfl, hij, HA.out, fun h2 => absurd h2 (by rw [← HP.out]; exact hps)⟩, rv_below HQ.out (Nat.le_refl _) _ _ _⟩
    · obtain rfl : j = v.size := by omega
      have hlt2 : decide ((v.size : Int) < (v.size : Int)) = false := decide_eq_false (by omega)
      clear hp
      go_wp2_with fail
      refine bodyPost_ret (results_cell_row rfl _ _ w.heap.size 95 #[.int .i64 (p : Nat), .bool true, .int .i64 0] (0, 0) _ rfl ?_ Tryz.underlying95 rfl sizeR) rfl ?_
      · exact rv_cells (show ((w.alloc _).drewN m).heap[w.heap.size]? = some (.cells #[.int .i64 0, .bool false, .int .i64 0] 95 (0, 0)) from heap_alloc_new _ _) _ _ _
      · exact ⟨.inl ⟨by rw [← HP.out]; rfl, hij, fun k hk => (HA.out k hk).elim fun h2 h3 => ⟨h2, h3.2⟩⟩, rv_below (HB.out m) (Nat.le_refl _) _ _ _⟩
namespace Js
/-- The eight signs behind 5c. -/
def sgn (j : Nat) : Nat := [34, 92, 47, 98, 102, 110, 114, 116].getD j 0
theorem sgn_at (j : Nat) (hj : j < 8) (h : j < (⟨#[34, 92, 47, 98, 102, 110, 114, 116]⟩ : ByteArray).size) : ((⟨#[34, 92, 47, 98, 102, 110, 114, 116]⟩ : ByteArray)[j]'h).toNat = sgn j := by
  obtain rfl | rfl | rfl | rfl | rfl | rfl | rfl | rfl : j = 0 ∨ j = 1 ∨ j = 2 ∨ j = 3 ∨ j = 4 ∨ j = 5 ∨ j = 6 ∨ j = 7 := by omega
  all_goals rfl
theorem sgn_is (j : Nat) (hj : j < 8) : isS (sgn j) = true := by
  obtain rfl | rfl | rfl | rfl | rfl | rfl | rfl | rfl : j = 0 ∨ j = 1 ∨ j = 2 ∨ j = 3 ∨ j = 4 ∨ j = 5 ∨ j = 6 ∨ j = 7 := by omega
  all_goals rfl
theorem sgn_not (b : Nat) (h : ∀ j, j < 8 → b ≠ sgn j) : isS b = false := by
  have h0 : b ≠ 34 := h 0 (by decide)
  have h1 : b ≠ 92 := h 1 (by decide)
  have h2 : b ≠ 47 := h 2 (by decide)
  have h3 : b ≠ 98 := h 3 (by decide)
  have h4 : b ≠ 102 := h 4 (by decide)
  have h5 : b ≠ 110 := h 5 (by decide)
  have h6 : b ≠ 114 := h 6 (by decide)
  have h7 : b ≠ 116 := h 7 (by decide)
  unfold isS
  simp [h0, h1, h2, h3, h4, h5, h6, h7]
/-- Within a unit, behind it the string again. -/
def cH (t : Nat) (k : Bool) (st : List Bool) (d : Nat) : Cf := if t < 4 then cU t k st d else cS 0 k st d
theorem T_cH (l : List UInt8) (k : Bool) (st : List Bool) (d i t : Nat) (ht : t < 4) (hi : i < l.length) (h : isH (l[i]).toNat = true) : T l (cH t k st d) i = T l (cH (t + 1) k st d) (i + 1) := by
  unfold cH
  rw [if_pos ht]
  by_cases h3 : t = 3
  · subst h3
    rw [if_neg (by omega)]
    exact T_hex_last l k st d i hi h
  · rw [if_pos (by omega)]
    exact T_hex l k st d i t (by omega) hi h
theorem T_noH (l : List UInt8) (k : Bool) (st : List Bool) (d i t : Nat) (ht : t < 4) (hl : i ≤ l.length) (h : ∀ hi : i < l.length, isH (l[i]).toNat = false) : T l (cH t k st d) i = (none, i) := by
  unfold cH
  rw [if_pos ht]
  exact T_nohex l k st d i t hl h
end Js
/-- What stands behind 5c. -/
def XPost (s : ByteArray) (i : Nat) (e : Ending) : Prop :=
  (∃ q : Nat, e = .returned (rv q true 0) ∧ i < q ∧ q ≤ s.size ∧ ∀ k st d, Js.T s.data.toList (Js.cX k st d) i = Js.T s.data.toList (Js.cS 0 k st d) q)
  ∨ ∃ q : Nat, e = .returned (rv q false 0) ∧ ∀ k st d, Js.T s.data.toList (Js.cX k st d) i = (none, q)
set_option maxHeartbeats 2000000 in
theorem jEscape_any (s : ByteArray) (i : Nat) (w : World) (hs : s.size ≤ 1000000) (hi : i ≤ s.size) :
    Calls Tryz.prog 162 #[.string s, .int .i64 (i : Nat)] w fun e w' => XPost s i e ∧ Below w.heap.size w w' := by
  go_enter Tryz.func162, Tryz.ntmps162
  go_wp2_with fail
  go_loopw [6] (fun c wr => ∃ j m : Nat, j ≤ 8 ∧ c = .int .i64 (j : Nat) ∧ wr = (w.alloc (Obj.cells #[.int .i64 0, .bool false, .int .i64 0] 95)).drewN m ∧ (∀ k, k < j → ∀ h : i < s.size, s[i].toNat ≠ Js.sgn k)) (fun c _ => 8 - (intOf c).toNat)
  case atStart => exact ⟨0, 0, Nat.zero_le _, rfl, rfl, fun k hk => absurd hk (Nat.not_lt_zero _)⟩
  case round =>
    obtain ⟨j, m, hj, rfl, rfl, hall⟩ := hrel
    have HA := hidden hall
    have HB : Hid (∀ n, Below w.heap.size w ((w.alloc (Obj.cells #[.int .i64 0, .bool false, .int .i64 0] 95)).drewN n)) := fun n => (fun {B} {a} {x} (h : Below B a x) (n : Nat) => (⟨h.os, h.tape, h.output, h.size, h.block⟩ : Below B a (x.drewN n))) ((Below.refl _ _).alloc (Nat.le_refl _) _) n
    have HC : Hid (∀ n, ((w.alloc (Obj.cells #[.int .i64 0, .bool false, .int .i64 0] 95)).drewN n).heap[w.heap.size]? = some (.cells #[.int .i64 0, .bool false, .int .i64 0] 95 (0, 0))) := fun n => heap_alloc_new _ _
    clear hall
    by_cases hin : i < s.size
    · have d0 : decide ((i : Int) < (s.size : Int)) = true := decide_eq_true (by omega)
      have d1 : decide ((s.size : Int) ≤ (i : Int)) = false := decide_eq_false (by omega)
      have d1n : decide (s.size ≤ i) = false := decide_eq_false (by omega)
      obtain ⟨c, hc⟩ : ∃ c, c = s[i].toNat := ⟨_, rfl⟩
      have hcj : ∀ (h : i < s.size), (s[i]'h).toNat = c := fun h => hc.symm
      by_cases hlt : j < 8
      · have hlti : (j : Int) < 8 := by omega
        obtain ⟨g, hg⟩ : ∃ g, g = Js.sgn j := ⟨_, rfl⟩
        have hsj : ∀ (h : j < (⟨#[34, 92, 47, 98, 102, 110, 114, 116]⟩ : ByteArray).size), ((⟨#[34, 92, 47, 98, 102, 110, 114, 116]⟩ : ByteArray)[j]'h).toNat = g := fun h => by rw [hg]; exact Js.sgn_at j hlt h
        by_cases heq : c = g
        · have e1 : ((c : Int) == (g : Int)) = true := by rw [beq_iff_eq]; omega
          have e2 : (c == g) = true := by rw [beq_iff_eq]; exact heq
          have HS : Hid (Js.isS s[i].toNat = true) := hidden (by rw [← hc, heq, hg]; exact Js.sgn_is j hlt)
          clear heq hc hg
          go_wp2_with fail
          go_quiet (fail)
          go_wp2_with fail
          refine bodyPost_ret (results_cell_row rfl _ _ w.heap.size 95 #[.int .i64 ((i + 1 : Nat) : Int), .bool true, .int .i64 0] (0, 0) _ rfl ?_ Tryz.underlying95 rfl sizeR) rfl ?_
          · exact rv_cells (HC.out _) _ _ _
          · exact ⟨.inl ⟨i + 1, rfl, Nat.lt_succ_self _, hin, fun k st d => Js.T_sign _ k st d i hin HS.out⟩, rv_below (HB.out _) (Nat.le_refl _) _ _ _⟩
        · have e1 : ((c : Int) == (g : Int)) = false := by rw [beq_eq_false_iff_ne]; omega
          have e2 : (c == g) = false := by rw [beq_eq_false_iff_ne]; exact heq
          have HS : Hid (s[i].toNat ≠ Js.sgn j) := hidden (by rw [← hc, ← hg]; exact heq)
          clear heq hc hg
          go_wp2_with fail
          go_quiet (fail)
          go_wp2_with fail
          go_roundw
          case rel =>
            refine ⟨j + 1, m + nq, by omega, by go_num, rfl, fun k hk h => ?_⟩
            by_cases hkj : k < j
            · exact HA.out k hkj h
            · obtain rfl : k = j := by omega
              exact HS.out
          case measure => simp [intOf]; omega
      · have hlti : ¬ (j : Int) < 8 := by omega
        have HNS : Hid (Js.isS s[i].toNat = false) := hidden (Js.sgn_not _ fun k hk => HA.out k (by omega) hin)
        by_cases hu : c = 117
        · have e1 : ((c : Int) != 117) = false := by rw [hu]; rfl
          have HU : Hid (s[i].toNat = 117) := hidden (hc.symm.trans hu)
          clear hu hc
          go_wp2_with fail
          go_loopw [7] (fun c wr => ∃ t : Nat, t ≤ 4 ∧ c = .int .i64 ((t + 1 : Nat) : Int) ∧ wr = (w.alloc (Obj.cells #[.int .i64 0, .bool false, .int .i64 0] 95)).drewN m ∧ i + 1 + t ≤ s.size ∧ ∀ k st d, Js.T s.data.toList (Js.cX k st d) i = Js.T s.data.toList (Js.cH t k st d) (i + 1 + t)) (fun c _ => 5 - (intOf c).toNat)
          case atStart => exact ⟨0, Nat.zero_le _, rfl, rfl, hin, fun k st d => Js.T_u _ k st d i hin HU.out⟩
          case round =>
            obtain ⟨t, ht, rfl, rfl, hit, hT⟩ := hrel
            have HT := hidden hT
            obtain ⟨p, hp⟩ : ∃ p, p = i + 1 + t := ⟨_, rfl⟩
            have hpi : (i : Int) + ((t + 1 : Nat) : Int) = (p : Int) := by omega
            have hpi2 : (i : Int) + ((t : Int) + 1) = (p : Int) := by omega
            have hpw : IntKind.i64.wrap (p : Int) = (p : Int) := by rw [IntKind.wrap_i64]; omega
            rw [← hp] at hit HT
            clear hT
            by_cases ht4 : t < 4
            · have h4 : decide (((t + 1 : Nat) : Int) ≤ 4) = true := decide_eq_true (by omega)
              by_cases hps : p < s.size
              · have a0 : decide ((s.size : Int) ≤ (p : Int)) = false := decide_eq_false (by omega)
                have a0n : decide (s.size ≤ p) = false := decide_eq_false (by omega)
                have HH := hidden (jHex_any s[p].toNat)
                have HP := hidden hp
                cases hx : Js.isH s[p].toNat with
                | true =>
                  rw [hx] at HH
                  have HX : Hid (Js.isH s[p].toNat = true) := hidden hx
                  clear hx hp
                  go_wp2_with fail
                  refine (HH.out _).mono ?_
                  rintro e w1 ⟨rfl, rfl⟩
                  go_wp2_with fail
                  go_roundw
                  case rel =>
                    refine ⟨t + 1, ht4, by go_num, (by first | trivial | rfl), by have := HP.out; omega, fun k st d => (HT.out k st d).trans ?_⟩
                    rw [Js.T_cH _ k st d p t ht4 hps HX.out, show p + 1 = i + 1 + (t + 1) by have := HP.out; omega]
                  case measure => simp [intOf]; omega
                | false =>
                  rw [hx] at HH
                  have HX : Hid (Js.isH s[p].toNat = false) := hidden hx
                  clear hx hp
                  go_wp2_with fail
                  refine (HH.out _).mono ?_
                  rintro e w1 ⟨rfl, rfl⟩
                  go_wp2_with fail
                  refine (jBad_any (p : Int) p _ rfl).mono ?_
                  rintro e w1 ⟨rfl, hb⟩
                  have hg1 : w1.heap[w.heap.size]? = some (.cells #[.int .i64 0, .bool false, .int .i64 0] 95 (0, 0)) := (hb.block _ ((Array.getElem?_eq_some_iff.1 (HC.out _)).1)).trans (HC.out _)
                  obtain ⟨c0, f0, c1, f1, c2, f2⟩ := rv_open hg1
                  have HG := hidden hg1
                  have HQ := hidden ((HB.out _).trans (hb.mono (HB.out _).size))
                  clear hb hg1
                  unfold rv
                  go_wp2_with fail
                  refine bodyPost_ret (results_cell_row rfl _ _ w.heap.size 95 #[.int .i64 (p : Nat), .bool false, .int .i64 0] (0, 0) _ rfl ?_ Tryz.underlying95 rfl sizeR) rfl ?_
                  · exact rv_cells HG.out _ _ _
                  · exact ⟨.inr ⟨p, rfl, fun k st d => (HT.out k st d).trans (Js.T_noH _ k st d p t ht4 hit fun _ => HX.out)⟩, rv_below HQ.out (Nat.le_refl _) _ _ _⟩
              · have a0 : decide ((s.size : Int) ≤ (p : Int)) = true := decide_eq_true (by omega)
                have a0n : decide (s.size ≤ p) = true := decide_eq_true (by omega)
                clear hp
                go_wp2_with fail
                refine (jBad_any (p : Int) p _ rfl).mono ?_
                rintro e w1 ⟨rfl, hb⟩
                have hg1 : w1.heap[w.heap.size]? = some (.cells #[.int .i64 0, .bool false, .int .i64 0] 95 (0, 0)) := (hb.block _ ((Array.getElem?_eq_some_iff.1 (HC.out _)).1)).trans (HC.out _)
                obtain ⟨c0, f0, c1, f1, c2, f2⟩ := rv_open hg1
                have HG := hidden hg1
                have HQ := hidden ((HB.out _).trans (hb.mono (HB.out _).size))
                clear hb hg1
                unfold rv
                go_wp2_with fail
                refine bodyPost_ret (results_cell_row rfl _ _ w.heap.size 95 #[.int .i64 (p : Nat), .bool false, .int .i64 0] (0, 0) _ rfl ?_ Tryz.underlying95 rfl sizeR) rfl ?_
                · exact rv_cells HG.out _ _ _
                · exact ⟨.inr ⟨p, rfl, fun k st d => (HT.out k st d).trans (Js.T_noH _ k st d p t ht4 hit fun h => absurd h hps)⟩, rv_below HQ.out (Nat.le_refl _) _ _ _⟩
            · obtain rfl : t = 4 := by omega
              have HP := hidden hp
              clear hp
              go_wp2_with fail
              refine bodyPost_ret (results_cell_row rfl _ _ w.heap.size 95 #[.int .i64 ((i + 5 : Nat) : Int), .bool true, .int .i64 0] (0, 0) _ rfl ?_ Tryz.underlying95 rfl sizeR) rfl ?_
              · exact rv_cells (HC.out _) _ _ _
              · refine ⟨.inl ⟨i + 5, rfl, by omega, by have := HP.out; omega, fun k st d => (HT.out k st d).trans ?_⟩, rv_below (HB.out _) (Nat.le_refl _) _ _ _⟩
                rw [show p = i + 5 by have := HP.out; omega]
                rfl
        · have e1 : ((c : Int) != 117) = true := by rw [bne_iff_ne]; omega
          have HU : Hid (s[i].toNat ≠ 117) := hidden (by rw [← hc]; exact hu)
          clear hu hc
          go_wp2_with fail
          refine (jBad_any (i : Int) i _ rfl).mono ?_
          rintro e w1 ⟨rfl, hb⟩
          have hg1 : w1.heap[w.heap.size]? = some (.cells #[.int .i64 0, .bool false, .int .i64 0] 95 (0, 0)) := (hb.block _ ((Array.getElem?_eq_some_iff.1 (HC.out _)).1)).trans (HC.out _)
          obtain ⟨c0, f0, c1, f1, c2, f2⟩ := rv_open hg1
          have HG := hidden hg1
          have HQ := hidden ((HB.out _).trans (hb.mono (HB.out _).size))
          clear hb hg1
          unfold rv
          go_wp2_with fail
          refine bodyPost_ret (results_cell_row rfl _ _ w.heap.size 95 #[.int .i64 (i : Nat), .bool false, .int .i64 0] (0, 0) _ rfl ?_ Tryz.underlying95 rfl sizeR) rfl ?_
          · exact rv_cells HG.out _ _ _
          · exact ⟨.inr ⟨i, rfl, fun k st d => Js.T_nosign _ k st d i hi fun _ => ⟨HNS.out, HU.out⟩⟩, rv_below HQ.out (Nat.le_refl _) _ _ _⟩
    · have d0 : decide ((i : Int) < (s.size : Int)) = false := decide_eq_false (by omega)
      have d1 : decide ((s.size : Int) ≤ (i : Int)) = true := decide_eq_true (by omega)
      have d1n : decide (s.size ≤ i) = true := decide_eq_true (by omega)
      have HN := hidden hin
      clear hin
      by_cases hlt : j < 8
      · have hlti : (j : Int) < 8 := by omega
        go_wp2_with fail
        refine (jBad_any (i : Int) i _ rfl).mono ?_
        rintro e w1 ⟨rfl, hb⟩
        have hg1 : w1.heap[w.heap.size]? = some (.cells #[.int .i64 0, .bool false, .int .i64 0] 95 (0, 0)) := (hb.block _ ((Array.getElem?_eq_some_iff.1 (HC.out _)).1)).trans (HC.out _)
        obtain ⟨c0, f0, c1, f1, c2, f2⟩ := rv_open hg1
        have HG := hidden hg1
        have HQ := hidden ((HB.out _).trans (hb.mono (HB.out _).size))
        clear hb hg1
        unfold rv
        go_wp2_with fail
        refine bodyPost_ret (results_cell_row rfl _ _ w.heap.size 95 #[.int .i64 (i : Nat), .bool false, .int .i64 0] (0, 0) _ rfl ?_ Tryz.underlying95 rfl sizeR) rfl ?_
        · exact rv_cells HG.out _ _ _
        · exact ⟨.inr ⟨i, rfl, fun k st d => Js.T_nosign _ k st d i hi fun h => absurd h HN.out⟩, rv_below HQ.out (Nat.le_refl _) _ _ _⟩
      · obtain rfl : j = 8 := by omega
        go_wp2_with fail
        refine (jBad_any (i : Int) i _ rfl).mono ?_
        rintro e w1 ⟨rfl, hb⟩
        have hg1 : w1.heap[w.heap.size]? = some (.cells #[.int .i64 0, .bool false, .int .i64 0] 95 (0, 0)) := (hb.block _ ((Array.getElem?_eq_some_iff.1 (HC.out _)).1)).trans (HC.out _)
        obtain ⟨c0, f0, c1, f1, c2, f2⟩ := rv_open hg1
        have HG := hidden hg1
        have HQ := hidden ((HB.out _).trans (hb.mono (HB.out _).size))
        clear hb hg1
        unfold rv
        go_wp2_with fail
        refine bodyPost_ret (results_cell_row rfl _ _ w.heap.size 95 #[.int .i64 (i : Nat), .bool false, .int .i64 0] (0, 0) _ rfl ?_ Tryz.underlying95 rfl sizeR) rfl ?_
        · exact rv_cells HG.out _ _ _
        · exact ⟨.inr ⟨i, rfl, fun k st d => Js.T_nosign _ k st d i hi fun h => absurd h HN.out⟩, rv_below HQ.out (Nat.le_refl _) _ _ _⟩
end Go.Proofs.YtoipliflphbeiaaGreatDoor
namespace Go.Proofs.YtoipliflphbeiaaGreatDoor
open Go.RowKit
theorem jScalar_from (s : ByteArray) (a b : Nat) (w : World) (hs : s.size ≤ 1000000) (hb : b = s.size) : ∃ F : Nat, 
    Calls Tryz.prog 163 #[.string (s.extract a b)] w fun e w' => e = .returned (.tuple #[.int .i64 (F : Nat), .int .i64 ((Ut.ld 0 (s.data.toList.drop a) : Nat) : Int)]) ∧ Below w.heap.size w w' := by
  subst hb
  have h := rScalar_any (s.extract a s.size) w (by rw [ByteArray.size_extract]; omega)
  rw [Ut.extract_list, Ut.sc_snd, List.take_of_length_le (by rw [List.length_drop]; exact Nat.le_refl _)] at h
  exact ⟨_, h⟩
theorem jLive_from (s : ByteArray) (a b : Nat) (hb : b = min (a + 4) s.size) (ha : a ≤ s.size) (w : World) :
    Calls Tryz.prog 164 #[.string (s.extract a b)] w fun e w' => e = .returned (.int .i64 ((Ut.alive 0 ((s.data.toList.drop a).take 4) : Nat) : Int)) ∧ Below w.heap.size w w' := by
  have h := rLive_any (s.extract a b) w (by rw [ByteArray.size_extract]; omega)
  have hl : s.data.toList.length = s.size := rfl
  rw [Ut.extract_list] at h
  have e : (s.data.toList.drop a).take (b - a) = (s.data.toList.drop a).take 4 := by
    by_cases h4 : a + 4 ≤ s.size
    · rw [show b - a = 4 by omega]
    · rw [List.take_of_length_le (by rw [List.length_drop, hl]; omega), List.take_of_length_le (by rw [List.length_drop, hl]; omega)]
  rw [e] at h
  exact h
/-- A string at a place. -/
def SPost (s : ByteArray) (i : Nat) (e : Ending) : Prop :=
  (∃ q : Nat, e = .returned (rv q true 0) ∧ i < q ∧ q ≤ s.size ∧ Js.Nb s.data.toList q ∧ ∀ k st d, Js.T s.data.toList (Js.cS 0 k st d) (i + 1) = Js.T s.data.toList (Js.aft k st d) q)
  ∨ ∃ q : Nat, e = .returned (rv q false 0) ∧ ∀ k st d, Js.T s.data.toList (Js.cS 0 k st d) (i + 1) = (none, q)
set_option maxHeartbeats 4000000 in
theorem jStr_in (s : ByteArray) (i : Nat) (w : World) (hs : s.size ≤ 1000000) (hi : i < s.size) (h : s[i].toNat = 34) :
    Calls Tryz.prog 130 #[.string s, .int .i64 (i : Nat)] w fun e w' => SPost s i e ∧ Below w.heap.size w w' := by
  have d0 : decide ((s.size : Int) ≤ (i : Int)) = false := decide_eq_false (by omega)
  have d0n : decide (s.size ≤ i) = false := decide_eq_false (by omega)
  have e0 : (((s[i].toNat : Nat) : Int) != 34) = false := by rw [h]; rfl
  clear h
  go_enter Tryz.func130, Tryz.ntmps130
  go_wp2_with fail
  go_loopw [1] (fun v wr => ∃ a : Nat, v = .int .i64 (a : Nat) ∧ i < a ∧ a ≤ s.size ∧ wr.heap[w.heap.size]? = some (.cells #[.int .i64 0, .bool false, .int .i64 0] 95 (0, 0)) ∧ Below w.heap.size w wr ∧ ∀ k st d, Js.T s.data.toList (Js.cS 0 k st d) (i + 1) = Js.T s.data.toList (Js.cS 0 k st d) a) (fun v _ => s.size - (intOf v).toNat)
  case atStart => exact ⟨i + 1, by go_num, Nat.lt_succ_self _, hi, heap_alloc_new _ _, (Below.refl _ _).alloc (Nat.le_refl _) _, fun _ _ _ => rfl⟩
  case round =>
    obtain ⟨a, rfl, hia, has, hg, hb, hT⟩ := hrel
    have HG := hidden hg
    have HB := hidden hb
    have HT := hidden hT
    clear hT hb
    by_cases hlt : a < s.size
    · have l0 : decide ((a : Int) < (s.size : Int)) = true := decide_eq_true (by omega)
      have hc := s[a].toNat_lt
      by_cases h34 : s[a].toNat = 34
      · have e1 : (((s[a].toNat : Nat) : Int) == 34) = true := by rw [h34]; rfl
        have H34 := hidden h34
        obtain ⟨c0, f0, c1, f1, c2, f2⟩ := rv_open hg
        clear h34 hg
        go_wp2_with fail
        refine bodyPost_ret (results_cell_row rfl _ _ w.heap.size 95 #[.int .i64 (a + 1 : Nat), .bool true, .int .i64 0] (0, 0) _ rfl ?_ Tryz.underlying95 rfl sizeR) rfl ?_
        · exact rv_cells HG.out _ _ _
        · exact ⟨.inl ⟨a + 1, rfl, by omega, hlt, Js.nb_byte (l := s.data.toList) hlt (by show Js.isB s[a].toNat = false; rw [H34.out]; rfl), fun k st d => (HT.out k st d).trans (Js.T_close _ k st d a hlt H34.out)⟩, rv_below HB.out (Nat.le_refl _) _ _ _⟩
      have e1 : (((s[a].toNat : Nat) : Int) == 34) = false := by rw [beq_eq_false_iff_ne]; omega
      by_cases h32 : s[a].toNat < 32
      · have e2 : decide (((s[a].toNat : Nat) : Int) < 32) = true := decide_eq_true (by omega)
        have H32 := hidden h32
        clear h34 h32 hg
        go_wp2_with fail
        refine (jBad_any (a : Int) a _ (by omega)).mono ?_
        rintro e w9 ⟨rfl, hb9⟩
        have hg9 : w9.heap[w.heap.size]? = some (.cells #[.int .i64 0, .bool false, .int .i64 0] 95 (0, 0)) := (hb9.block _ ((Array.getElem?_eq_some_iff.1 HG.out).1)).trans HG.out
        obtain ⟨c0, f0, c1, f1, c2, f2⟩ := rv_open hg9
        have HG9 := hidden hg9
        have HQ9 := hidden (HB.out.trans (hb9.mono HB.out.size))
        clear hb9 hg9
        unfold rv
        go_wp2_with fail
        refine bodyPost_ret (results_cell_row rfl _ _ w.heap.size 95 #[.int .i64 (a : Nat), .bool false, .int .i64 0] (0, 0) _ rfl ?_ Tryz.underlying95 rfl sizeR) rfl ?_
        · exact rv_cells HG9.out _ _ _
        · exact ⟨.inr ⟨a, rfl, fun k st d => (HT.out k st d).trans (Js.T_low _ k st d a hlt H32.out)⟩, rv_below HQ9.out (Nat.le_refl _) _ _ _⟩
      have e2 : decide (((s[a].toNat : Nat) : Int) < 32) = false := decide_eq_false (by omega)
      by_cases h92 : s[a].toNat = 92
      · have e3 : (((s[a].toNat : Nat) : Int) == 92) = true := by rw [h92]; rfl
        have H92 := hidden h92
        have HX := hidden (jEscape_any s (a + 1) wr hs hlt)
        have hcast : ((a + 1 : Nat) : Int) = (a : Int) + 1 := by omega
        rw [hcast] at HX
        clear h34 h32 h92 hg
        go_wp2_with fail
        refine HX.out.mono ?_
        rintro e w2 ⟨⟨q, rfl, hq1, hq2, hq3⟩ | ⟨q, rfl, hq3⟩, hb2⟩
        · have HQ3 := hidden hq3
          have hg2 : w2.heap[w.heap.size]? = some (.cells #[.int .i64 0, .bool false, .int .i64 0] 95 (0, 0)) := (hb2.block _ ((Array.getElem?_eq_some_iff.1 HG.out).1)).trans HG.out
          have HG2 := hidden hg2
          have HB2 := hidden (HB.out.trans (hb2.mono HB.out.size))
          have hsz2 := HB2.out.size
          unfold rv
          clear hb2 hq3 hg2
          go_wp2_with fail
          refine ⟨⟨q, rfl, by omega, hq2, ((Below.refl _ w2).alloc (Nat.le_refl _) _).block _ ((Array.getElem?_eq_some_iff.1 HG2.out).1) |>.trans HG2.out, HB2.out.alloc hsz2 _, fun k st d => ?_⟩, by simp [intOf]; omega⟩
          rw [HT.out, Js.T_back _ k st d a hlt H92.out, HQ3.out]
        · have HQ3 := hidden hq3
          have hg2 : w2.heap[w.heap.size]? = some (.cells #[.int .i64 0, .bool false, .int .i64 0] 95 (0, 0)) := (hb2.block _ ((Array.getElem?_eq_some_iff.1 HG.out).1)).trans HG.out
          have HG2 := hidden hg2
          have HB2 := hidden (HB.out.trans (hb2.mono HB.out.size))
          have hsz2 := HB2.out.size
          have hg9 : (w2.alloc (Obj.cells #[.int .i64 (q : Nat), .bool false, .int .i64 0] 95)).heap[w.heap.size]? = some (.cells #[.int .i64 0, .bool false, .int .i64 0] 95 (0, 0)) := (((Below.refl _ w2).alloc (Nat.le_refl _) _).block _ ((Array.getElem?_eq_some_iff.1 hg2).1)).trans hg2
          obtain ⟨c0, f0, c1, f1, c2, f2⟩ := rv_open hg9
          have HG9 := hidden hg9
          unfold rv
          clear hb2 hq3 hg2 hg9
          go_wp2_with fail
          refine bodyPost_ret (results_cell_row rfl _ _ w.heap.size 95 #[.int .i64 (q : Nat), .bool false, .int .i64 0] (0, 0) _ rfl ?_ Tryz.underlying95 rfl sizeR) rfl ?_
          · exact rv_cells HG9.out _ _ _
          · exact ⟨.inr ⟨q, rfl, fun k st d => (HT.out k st d).trans ((Js.T_back _ k st d a hlt H92.out).trans (HQ3.out k st d))⟩, rv_below (HB2.out.alloc hsz2 _) (Nat.le_refl _) _ _ _⟩
      · have e3 : (((s[a].toNat : Nat) : Int) == 92) = false := by rw [beq_eq_false_iff_ne]; omega
        obtain ⟨F, hF⟩ := jScalar_from s a s.size wr (by omega) rfl
        have HF := hidden hF
        have H32 : Hid (32 ≤ s[a].toNat) := hidden (by omega)
        have H34 := hidden h34
        have H92 := hidden h92
        have hle : a + Ut.ld 0 (s.data.toList.drop a) ≤ s.size := by
          have h3 := Ut.ld_le 0 (s.data.toList.drop a)
          rw [List.length_drop] at h3
          have h4 : s.data.toList.length = s.size := rfl
          omega
        clear hF h34 h32 h92 hg
        obtain ⟨G, hG⟩ : ∃ G, G = Ut.ld 0 (s.data.toList.drop a) := ⟨_, rfl⟩
        rw [← hG] at HF hle
        have HGG := hidden hG
        by_cases h0 : G = 0
        · have hg0 : ((G : Int) == 0) = true := by rw [h0]; rfl
          have HZ : Hid (Ut.ld 0 (s.data.toList.drop a) = 0) := hidden (by rw [← hG]; exact h0)
          have hV3 : Ut.alive 0 ((s.data.toList.drop a).take 4) ≤ 3 := by
            rw [Js.alive_four _ HZ.out]
            exact Js.alive_three _ HZ.out
          obtain ⟨V, hV⟩ : ∃ V, V = Ut.alive 0 ((s.data.toList.drop a).take 4) := ⟨_, rfl⟩
          have HLV : Hid (∀ b w, b = min (a + 4) s.size → Calls Tryz.prog 164 #[.string (s.extract a b)] w fun e w' => e = .returned (.int .i64 ((V : Nat) : Int)) ∧ Below w.heap.size w w') := hidden fun b w hb => by
            rw [hV]
            exact jLive_from s a b hb (by omega) w
          rw [← hV] at hV3
          have HV := hidden hV
          clear hG h0 hV
          go_wp2_with fail
          refine HF.out.mono ?_
          rintro e w1 ⟨rfl, hq⟩
          have hg1 : w1.heap[w.heap.size]? = some (.cells #[.int .i64 0, .bool false, .int .i64 0] 95 (0, 0)) := (hq.block _ ((Array.getElem?_eq_some_iff.1 HG.out).1)).trans HG.out
          have HG1 := hidden hg1
          have HB1 := hidden (HB.out.trans (hq.mono HB.out.size))
          clear hq hg1
          go_wp2_with fail
          all_goals
            refine (HLV.out _ _ (by omega)).mono ?_
            rintro e w2 ⟨rfl, hq⟩
            have hg2 : w2.heap[w.heap.size]? = some (.cells #[.int .i64 0, .bool false, .int .i64 0] 95 (0, 0)) := (hq.block _ ((Array.getElem?_eq_some_iff.1 HG1.out).1)).trans HG1.out
            have HG2 := hidden hg2
            have HB2 := hidden (HB1.out.trans (hq.mono HB1.out.size))
            clear hq hg2
            go_wp2_with fail
            refine (jBad_any ((a : Int) + (V : Int)) (a + V) _ (by omega)).mono ?_
            rintro e w9 ⟨rfl, hb9⟩
            have hg9 : w9.heap[w.heap.size]? = some (.cells #[.int .i64 0, .bool false, .int .i64 0] 95 (0, 0)) := (hb9.block _ ((Array.getElem?_eq_some_iff.1 HG2.out).1)).trans HG2.out
            obtain ⟨c0, f0, c1, f1, c2, f2⟩ := rv_open hg9
            have HG9 := hidden hg9
            have HQ9 := hidden (HB2.out.trans (hb9.mono HB2.out.size))
            clear hb9 hg9
            unfold rv
            go_wp2_with fail
            refine bodyPost_ret (results_cell_row rfl _ _ w.heap.size 95 #[.int .i64 ((a + V) : Nat), .bool false, .int .i64 0] (0, 0) _ rfl ?_ Tryz.underlying95 rfl sizeR) rfl ?_
            · exact rv_cells HG9.out _ _ _
            · exact ⟨.inr ⟨a + V, rfl, fun k st d => (HT.out k st d).trans ((Js.T_odd _ k st d a hlt H32.out H34.out H92.out HZ.out).trans (by rw [HV.out]))⟩, rv_below HQ9.out (Nat.le_refl _) _ _ _⟩
        · have hg0 : ((G : Int) == 0) = false := by rw [beq_eq_false_iff_ne]; omega
          have HZ : Hid (Ut.ld 0 (s.data.toList.drop a) ≠ 0) := hidden (by rw [← hG]; exact h0)
          clear hG
          go_wp2_with fail
          refine HF.out.mono ?_
          rintro e w1 ⟨rfl, hq⟩
          have hg1 : w1.heap[w.heap.size]? = some (.cells #[.int .i64 0, .bool false, .int .i64 0] 95 (0, 0)) := (hq.block _ ((Array.getElem?_eq_some_iff.1 HG.out).1)).trans HG.out
          have HG1 := hidden hg1
          have HB1 := hidden (HB.out.trans (hq.mono HB.out.size))
          clear hq hg1
          go_wp2_with fail
          go_roundw
          case rel =>
            refine ⟨a + G, by go_num, by omega, hle, HG1.out, HB1.out, fun k st d => ?_⟩
            rw [HT.out, Js.T_scalar _ k st d a hlt H32.out H34.out H92.out HZ.out, ← HGG.out]
          case measure => simp [intOf]; omega
    · obtain rfl : a = s.size := by omega
      clear hg
      go_wp2_with fail
      refine (jBad_any (s.size : Int) s.size _ (by omega)).mono ?_
      rintro e w9 ⟨rfl, hb9⟩
      have hg9 : w9.heap[w.heap.size]? = some (.cells #[.int .i64 0, .bool false, .int .i64 0] 95 (0, 0)) := (hb9.block _ ((Array.getElem?_eq_some_iff.1 HG.out).1)).trans HG.out
      obtain ⟨c0, f0, c1, f1, c2, f2⟩ := rv_open hg9
      have HG9 := hidden hg9
      have HQ9 := hidden (HB.out.trans (hb9.mono HB.out.size))
      clear hb9 hg9
      unfold rv
      go_wp2_with fail
      refine bodyPost_ret (results_cell_row rfl _ _ w.heap.size 95 #[.int .i64 (s.size : Nat), .bool false, .int .i64 0] (0, 0) _ rfl ?_ Tryz.underlying95 rfl sizeR) rfl ?_
      · exact rv_cells HG9.out _ _ _
      · exact ⟨.inr ⟨s.size, rfl, fun k st d => (HT.out k st d).trans (Js.T_live _ _ _ rfl rfl)⟩, rv_below HQ9.out (Nat.le_refl _) _ _ _⟩
theorem jStr_no (s : ByteArray) (i : Nat) (w : World) (hi : i ≤ s.size) (h : ∀ hi : i < s.size, s[i].toNat ≠ 34) :
    Calls Tryz.prog 130 #[.string s, .int .i64 (i : Nat)] w fun e w' => e = .returned (rv i false 0) ∧ Below w.heap.size w w' := by
  have HG : Hid ((w.alloc (Obj.cells #[.int .i64 0, .bool false, .int .i64 0] 95)).heap[w.heap.size]? = some (.cells #[.int .i64 0, .bool false, .int .i64 0] 95 (0, 0))) := heap_alloc_new _ _
  have HB : Hid (Below w.heap.size w (w.alloc (Obj.cells #[.int .i64 0, .bool false, .int .i64 0] 95))) := (Below.refl _ _).alloc (Nat.le_refl _) _
  by_cases hlt : i < s.size
  · have d0 : decide ((s.size : Int) ≤ (i : Int)) = false := decide_eq_false (by omega)
    have d0n : decide (s.size ≤ i) = false := decide_eq_false (by omega)
    have h34 := h hlt
    have e0 : (((s[i].toNat : Nat) : Int) != 34) = true := by rw [bne_iff_ne]; omega
    clear h h34
    go_enter Tryz.func130, Tryz.ntmps130
    go_wp2_with fail
    refine (jBad_any (i : Int) i _ (by omega)).mono ?_
    rintro e w9 ⟨rfl, hb9⟩
    have hg9 : w9.heap[w.heap.size]? = some (.cells #[.int .i64 0, .bool false, .int .i64 0] 95 (0, 0)) := (hb9.block _ ((Array.getElem?_eq_some_iff.1 HG.out).1)).trans HG.out
    obtain ⟨c0, f0, c1, f1, c2, f2⟩ := rv_open hg9
    have HG9 := hidden hg9
    have HQ9 := hidden (HB.out.trans (hb9.mono HB.out.size))
    clear hb9 hg9
    unfold rv
    go_wp2_with fail
    refine bodyPost_ret (results_cell_row rfl _ _ w.heap.size 95 #[.int .i64 (i : Nat), .bool false, .int .i64 0] (0, 0) _ rfl ?_ Tryz.underlying95 rfl sizeR) rfl ?_
    · exact rv_cells HG9.out _ _ _
    · exact ⟨rfl, rv_below HQ9.out (Nat.le_refl _) _ _ _⟩
  · have d0 : decide ((s.size : Int) ≤ (i : Int)) = true := decide_eq_true (by omega)
    have d0n : decide (s.size ≤ i) = true := decide_eq_true (by omega)
    clear h
    go_enter Tryz.func130, Tryz.ntmps130
    go_wp2_with fail
    refine (jBad_any (i : Int) i _ (by omega)).mono ?_
    rintro e w9 ⟨rfl, hb9⟩
    have hg9 : w9.heap[w.heap.size]? = some (.cells #[.int .i64 0, .bool false, .int .i64 0] 95 (0, 0)) := (hb9.block _ ((Array.getElem?_eq_some_iff.1 HG.out).1)).trans HG.out
    obtain ⟨c0, f0, c1, f1, c2, f2⟩ := rv_open hg9
    have HG9 := hidden hg9
    have HQ9 := hidden (HB.out.trans (hb9.mono HB.out.size))
    clear hb9 hg9
    unfold rv
    go_wp2_with fail
    refine bodyPost_ret (results_cell_row rfl _ _ w.heap.size 95 #[.int .i64 (i : Nat), .bool false, .int .i64 0] (0, 0) _ rfl ?_ Tryz.underlying95 rfl sizeR) rfl ?_
    · exact rv_cells HG9.out _ _ _
    · exact ⟨rfl, rv_below HQ9.out (Nat.le_refl _) _ _ _⟩
end Go.Proofs.YtoipliflphbeiaaGreatDoor
namespace Go.Proofs.YtoipliflphbeiaaGreatDoor
open Go.RowKit
/-- Number's frame at its joints: what is in the slots from 5 on is free. -/
def frN (S A P : Value) (u : Nat → Value) : Array Value := #[S, A, undef, undef, P, u 5, u 6, u 7, u 8, u 9, u 10, u 11, u 12, u 13, u 14, u 15, u 16, u 17, u 18, u 19, u 20, u 21, u 22, u 23, u 24, u 25, u 26, u 27, u 28, u 29, u 30, u 31, u 32, u 33, u 34, u 35, u 36, u 37, u 38, u 39, u 40, u 41, u 42, u 43, u 44, u 45, u 46, u 47, u 48, u 49, u 50, u 51, u 52, u 53, u 54, u 55, u 56, u 57, u 58, u 59, u 60, u 61, u 62, u 63, u 64, u 65, u 66, u 67, u 68, u 69, u 70, u 71, u 72, u 73, u 74, u 75, u 76, u 77, u 78, u 79, u 80, u 81, u 82, u 83, u 84, u 85, u 86, u 87, u 88, u 89, u 90, u 91, u 92, u 93, u 94, u 95, u 96, u 97, u 98, u 99, u 100, u 101, u 102]
theorem frN_mk (S A P t5 t6 t7 t8 t9 t10 t11 t12 t13 t14 t15 t16 t17 t18 t19 t20 t21 t22 t23 t24 t25 t26 t27 t28 t29 t30 t31 t32 t33 t34 t35 t36 t37 t38 t39 t40 t41 t42 t43 t44 t45 t46 t47 t48 t49 t50 t51 t52 t53 t54 t55 t56 t57 t58 t59 t60 t61 t62 t63 t64 t65 t66 t67 t68 t69 t70 t71 t72 t73 t74 t75 t76 t77 t78 t79 t80 t81 t82 t83 t84 t85 t86 t87 t88 t89 t90 t91 t92 t93 t94 t95 t96 t97 t98 t99 t100 t101 t102 : Value) : (#[S, A, undef, undef, P, t5, t6, t7, t8, t9, t10, t11, t12, t13, t14, t15, t16, t17, t18, t19, t20, t21, t22, t23, t24, t25, t26, t27, t28, t29, t30, t31, t32, t33, t34, t35, t36, t37, t38, t39, t40, t41, t42, t43, t44, t45, t46, t47, t48, t49, t50, t51, t52, t53, t54, t55, t56, t57, t58, t59, t60, t61, t62, t63, t64, t65, t66, t67, t68, t69, t70, t71, t72, t73, t74, t75, t76, t77, t78, t79, t80, t81, t82, t83, t84, t85, t86, t87, t88, t89, t90, t91, t92, t93, t94, t95, t96, t97, t98, t99, t100, t101, t102] : Array Value) = frN S A P (fun j => [t5, t6, t7, t8, t9, t10, t11, t12, t13, t14, t15, t16, t17, t18, t19, t20, t21, t22, t23, t24, t25, t26, t27, t28, t29, t30, t31, t32, t33, t34, t35, t36, t37, t38, t39, t40, t41, t42, t43, t44, t45, t46, t47, t48, t49, t50, t51, t52, t53, t54, t55, t56, t57, t58, t59, t60, t61, t62, t63, t64, t65, t66, t67, t68, t69, t70, t71, t72, t73, t74, t75, t76, t77, t78, t79, t80, t81, t82, t83, t84, t85, t86, t87, t88, t89, t90, t91, t92, t93, t94, t95, t96, t97, t98, t99, t100, t101, t102].getD (j - 5) undef) := rfl
/-- A number at a place. -/
def NPost (s : ByteArray) (i : Nat) (e : Ending) : Prop :=
  (∃ q : Nat, e = .returned (rv q true 0) ∧ i < q ∧ q ≤ s.size ∧ Js.Ends s.data.toList i q)
  ∨ ∃ q : Nat, e = .returned (rv q false 0) ∧ ∀ st d, Js.T s.data.toList (Js.cV st d) i = (none, q)
set_option maxRecDepth 100000 in
set_option maxHeartbeats 8000000 in
theorem jNumber_any (s : ByteArray) (i : Nat) (w : World) (hs : s.size ≤ 1000000) (hi : i < s.size) (hpl : Js.plain s[i].toNat) :
    Calls Tryz.prog 132 #[.string s, .int .i64 (i : Nat)] w fun e w' => NPost s i e ∧ Below w.heap.size w w' := by
  have HG : Hid ((w.alloc (Obj.cells #[.int .i64 0, .bool false, .int .i64 0] 95)).heap[w.heap.size]? = some (.cells #[.int .i64 0, .bool false, .int .i64 0] 95 (0, 0))) := heap_alloc_new _ _
  have HB : Hid (Below w.heap.size w (w.alloc (Obj.cells #[.int .i64 0, .bool false, .int .i64 0] 95))) := (Below.refl _ _).alloc (Nat.le_refl _) _
  have HL : Hid (s.data.toList.length = s.size) := hidden rfl
  have HPL := hidden hpl
  clear hpl
  go_enter Tryz.func132, Tryz.ntmps132
  refine wp_seq_k fun K0 h0 => ?_
  have H0 := hidden h0
  clear h0
  go_wp2_with fail
  refine H0.out _ _ ?_
  clear H0
  generalize w.alloc (Obj.cells #[.int .i64 0, .bool false, .int .i64 0] 95) = W at *
  refine wp_seq_k fun KJ1 hKJ1 => ?_
  have HJ1 : ∀ (u : Nat → Value) (A : Value) (a : Nat), A = .int .i64 (a : Nat) → i ≤ a → a ≤ s.size → Js.Begun s.data.toList i a → KJ1 { tmps := frN (.string s) A (.pointer (some ⟨w.heap.size, 0, none⟩)) u, defers := [] } W := by
    intro u A a hA hia has hbeg
    subst hA
    refine hKJ1 _ _ ?_
    unfold frN
    have HBG := hidden hbeg
    clear hbeg hKJ1
    refine wp_seq_k fun K0 h0 => ?_
    have H0 := hidden h0
    clear h0
    go_wp2_with fail
    refine (jDigits_any s (a : Int) (a) W (by omega) hs (by omega)).mono ?_
    rintro e w1 ⟨⟨n, rfl, hn, hr, hd⟩, hw⟩
    have hw := hw.symm
    subst hw
    have HR := hidden hr
    have HD := hidden hd
    clear hr hd
    go_wp2_with fail
    refine H0.out _ _ ?_
    clear H0
    by_cases hn0 : n = 0
    · have e0 : ((n : Int) == 0) = true := by rw [hn0]; rfl
      have HN := hidden hn0
      clear hn0
      go_wp2_with fail
      refine (jBad_any (a : Int) a _ (by omega)).mono ?_
      rintro e w9 ⟨rfl, hb9⟩
      have hg9 : w9.heap[w.heap.size]? = some (.cells #[.int .i64 0, .bool false, .int .i64 0] 95 (0, 0)) := (hb9.block _ ((Array.getElem?_eq_some_iff.1 HG.out).1)).trans HG.out
      obtain ⟨c0, f0, c1, f1, c2, f2⟩ := rv_open hg9
      have HG9 := hidden hg9
      have HQ9 := hidden (HB.out.trans (hb9.mono HB.out.size))
      clear hb9 hg9
      unfold rv
      go_wp2_with fail
      refine bodyPost_ret (results_cell_row rfl _ _ w.heap.size 95 #[.int .i64 (a : Nat), .bool false, .int .i64 0] (0, 0) _ rfl ?_ Tryz.underlying95 rfl sizeR) rfl ?_
      · exact rv_cells HG9.out _ _ _
      · exact ⟨.inr ⟨a, rfl, fun st d => HBG.out.no st d fun h => by have := HR.out (by rw [HN.out]; exact h); simp only [HN.out] at this; exact this⟩, rv_below HQ9.out (Nat.le_refl _) _ _ _⟩
    have e0 : ((n : Int) == 0) = false := by rw [beq_eq_false_iff_ne]; omega
    refine wp_seq_k fun K0 h0 => ?_
    have H0 := hidden h0
    clear h0
    go_wp2_with fail
    refine H0.out _ _ ?_
    clear H0
    have hlt : a < s.size := by omega
    have l1 : decide ((a : Int) < (s.size : Int)) = true := decide_eq_true (by omega)
    refine wp_seq_k fun KJ2 hKJ2 => ?_
    have HJ2 : ∀ (u : Nat → Value) (m q : Nat), u 5 = .int .i64 (m : Nat) → a + m ≤ s.size → Js.Whole s.data.toList i (a + m) q → KJ2 { tmps := frN (.string s) (.int .i64 (a : Nat)) (.pointer (some ⟨w.heap.size, 0, none⟩)) u, defers := [] } W := by
      intro u m q hu ham hwh
      refine hKJ2 _ _ ?_
      unfold frN
      rw [hu]
      clear hu hKJ2 HBG HR HD hn hn0 e0 l1
      obtain ⟨p, hp⟩ : ∃ p, p = a + m := ⟨_, rfl⟩
      have hpi : (a : Int) + (m : Int) = (p : Int) := by omega
      have hpw : IntKind.i64.wrap (p : Int) = (p : Int) := by rw [IntKind.wrap_i64]; omega
      rw [← hp] at hwh ham
      have HW := hidden hwh
      have HP := hidden hp
      clear hp hwh
      refine wp_seq_k fun K0 h0 => ?_
      have H0 := hidden h0
      clear h0
      go_wp2_with fail
      refine H0.out _ _ ?_
      clear H0
      refine wp_seq_k fun KJ3 hKJ3 => ?_
      have HJ3 : ∀ (u : Nat → Value) (A : Value) (p q : Nat), A = .int .i64 (p : Nat) → p ≤ s.size → Js.Frac s.data.toList i p q → KJ3 { tmps := frN (.string s) A (.pointer (some ⟨w.heap.size, 0, none⟩)) u, defers := [] } W := by
        clear ham HW HP hpi hpw
        intro u A p q hA hps hfr
        subst hA
        refine hKJ3 _ _ ?_
        unfold frN
        have HF := hidden hfr
        clear hfr hKJ3
        refine wp_seq_k fun KJ4 hKJ4 => ?_
        have HJ4 : ∀ (u : Nat → Value) (A : Value) (q : Nat), A = .int .i64 (q : Nat) → i < q → q ≤ s.size → Js.Ends s.data.toList i q → KJ4 { tmps := frN (.string s) A (.pointer (some ⟨w.heap.size, 0, none⟩)) u, defers := [] } W := by
          clear HF hps
          intro u A q hA hiq hqs ht
          subst hA
          refine hKJ4 _ _ ?_
          unfold frN
          have HT := hidden ht
          clear ht hKJ4
          obtain ⟨c0, f0, c1, f1, c2, f2⟩ := rv_open HG.out
          go_wp2_with fail
          refine bodyPost_ret (results_cell_row rfl _ _ w.heap.size 95 #[.int .i64 (q : Nat), .bool true, .int .i64 0] (0, 0) _ rfl ?_ Tryz.underlying95 rfl sizeR) rfl ?_
          · exact rv_cells HG.out _ _ _
          · exact ⟨.inl ⟨q, rfl, hiq, hqs, HT.out⟩, rv_below HB.out (Nat.le_refl _) _ _ _⟩
        have HHJ4 := hidden HJ4
        clear HJ4 hKJ4
        by_cases hlp : p < s.size
        · have l1 : decide ((p : Int) < (s.size : Int)) = true := decide_eq_true (by omega)
          have l1n : decide (p < s.size) = true := decide_eq_true (by omega)
          refine wp_seq_k fun KE hKE => ?_
          have HJE : ∀ (u : Nat → Value), u 70 = .bool true → (s[p].toNat = 101 ∨ s[p].toNat = 69) → KE { tmps := frN (.string s) (.int .i64 (p : Nat)) (.pointer (some ⟨w.heap.size, 0, none⟩)) u, defers := [] } W := by
            intro u hu he
            refine hKE _ _ ?_
            unfold frN
            rw [hu]
            have HE := hidden he
            clear hu he hKE
            refine wp_cond_true rfl ?_
            refine wp_seq_k fun K0 h0 => ?_
            have H0 := hidden h0
            clear h0
            go_wp2_with fail
            refine H0.out _ _ ?_
            clear H0
            refine wp_seq_k fun KJ5 hKJ5 => ?_
            have HJ5 : ∀ (u : Nat → Value) (A : Value) (r g : Nat), A = .int .i64 (r : Nat) → r ≤ s.size → Js.Expo s.data.toList i r g → KJ5 { tmps := frN (.string s) A (.pointer (some ⟨w.heap.size, 0, none⟩)) u, defers := [] } W := by
              clear HF hps HE l1 l1n
              intro u A r g hA hrs hex
              subst hA
              refine hKJ5 _ _ ?_
              unfold frN
              have HX := hidden hex
              clear hex hKJ5
              go_wp2_with fail
              refine (jDigits_any s (r : Int) r W rfl hs hrs).mono ?_
              rintro e w1 ⟨⟨n, rfl, hn, hr, hd⟩, hw⟩
              have hw := hw.symm
              subst hw
              have HR := hidden hr
              have HD := hidden hd
              clear hr hd
              by_cases hn0 : n = 0
              · have e0 : ((n : Int) == 0) = true := by rw [hn0]; rfl
                have HN := hidden hn0
                clear hn0
                go_wp2_with fail
                refine (jBad_any (r : Int) r _ (by omega)).mono ?_
                rintro e w9 ⟨rfl, hb9⟩
                have hg9 : w9.heap[w.heap.size]? = some (.cells #[.int .i64 0, .bool false, .int .i64 0] 95 (0, 0)) := (hb9.block _ ((Array.getElem?_eq_some_iff.1 HG.out).1)).trans HG.out
                obtain ⟨c0, f0, c1, f1, c2, f2⟩ := rv_open hg9
                have HG9 := hidden hg9
                have HQ9 := hidden (HB.out.trans (hb9.mono HB.out.size))
                clear hb9 hg9
                unfold rv
                go_wp2_with fail
                refine bodyPost_ret (results_cell_row rfl _ _ w.heap.size 95 #[.int .i64 (r : Nat), .bool false, .int .i64 0] (0, 0) _ rfl ?_ Tryz.underlying95 rfl sizeR) rfl ?_
                · exact rv_cells HG9.out _ _ _
                · exact ⟨.inr ⟨r, rfl, fun st d => Js.expo_no HX.out (fun h => by have := HR.out (by rw [HN.out]; exact h); simp only [HN.out] at this; exact this) st d⟩, rv_below HQ9.out (Nat.le_refl _) _ _ _⟩
              have e0 : ((n : Int) == 0) = false := by rw [beq_eq_false_iff_ne]; omega
              go_wp2_with fail
              rw [frN_mk]
              exact HHJ4.out _ _ (r + n) (by go_num) (by have := HX.out.far; omega) hn (Js.expo_end HX.out (by omega) HD.out HR.out)
            have HHJ5 := hidden HJ5
            clear HJ5 hKJ5
            obtain ⟨r, hr⟩ : ∃ r, r = p + 1 := ⟨_, rfl⟩
            have hrp : (p : Int) + 1 = (r : Int) := by omega
            by_cases hlr : r < s.size
            · have l2 : decide ((r : Int) < (s.size : Int)) = true := decide_eq_true (by omega)
              have l2n : decide (r < s.size) = true := decide_eq_true (by omega)
              by_cases h43 : s[r].toNat = 43
              · have e1 : (((s[r].toNat : Nat) : Int) == 43) = true := by rw [h43]; rfl
                have hexp : Js.Expo s.data.toList i (p + 2) 26 := by
                  subst hr
                  exact Js.expo_sign HF.out hlp HE.out hlr (.inl h43)
                have HX := hidden hexp
                have HRR := hidden hr
                clear h43 hexp hr
                go_wp2_with fail
                rw [frN_mk]
                exact HHJ5.out _ _ (p + 2) 26 (by have := HRR.out; go_num) (by have := HRR.out; omega) HX.out
              have e1 : (((s[r].toNat : Nat) : Int) == 43) = false := by rw [beq_eq_false_iff_ne]; omega
              by_cases h45 : s[r].toNat = 45
              · have e2 : (((s[r].toNat : Nat) : Int) == 45) = true := by rw [h45]; rfl
                have hexp : Js.Expo s.data.toList i (p + 2) 26 := by
                  subst hr
                  exact Js.expo_sign HF.out hlp HE.out hlr (.inr h45)
                have HX := hidden hexp
                have HRR := hidden hr
                clear h43 h45 hexp hr
                go_wp2_with fail
                rw [frN_mk]
                exact HHJ5.out _ _ (p + 2) 26 (by have := HRR.out; go_num) (by have := HRR.out; omega) HX.out
              have e2 : (((s[r].toNat : Nat) : Int) == 45) = false := by rw [beq_eq_false_iff_ne]; omega
              have hexp : Js.Expo s.data.toList i r 25 := by
                subst hr
                exact Js.expo_none HF.out hlp HE.out fun _ => ⟨h43, h45⟩
              have HX := hidden hexp
              clear h43 h45 hexp hr
              go_wp2_with fail
              rw [frN_mk]
              exact HHJ5.out _ _ r 25 (congrArg (Value.int .i64) hrp) (Nat.le_of_lt hlr) HX.out
            · have l2 : decide ((r : Int) < (s.size : Int)) = false := decide_eq_false (by omega)
              have l2n : decide (r < s.size) = false := decide_eq_false (by omega)
              have hexp : Js.Expo s.data.toList i r 25 := by
                subst hr
                exact Js.expo_none HF.out hlp HE.out fun h => absurd h hlr
              have HX := hidden hexp
              have hrs : r ≤ s.size := by omega
              clear hexp hr
              go_wp2_with fail
              rw [frN_mk]
              exact HHJ5.out _ _ r 25 (congrArg (Value.int .i64) hrp) hrs HX.out
          have HHJE := hidden HJE
          by_cases he : s[p].toNat = 101
          · have e1 : (((s[p].toNat : Nat) : Int) == 101) = true := by rw [he]; rfl
            have HE := hidden he
            clear he HJE hKE
            go_wp2_with fail
            rw [frN_mk]
            exact HHJE.out _ rfl (.inl HE.out)
          have e1 : (((s[p].toNat : Nat) : Int) == 101) = false := by rw [beq_eq_false_iff_ne]; omega
          by_cases he2 : s[p].toNat = 69
          · have e2 : (((s[p].toNat : Nat) : Int) == 69) = true := by rw [he2]; rfl
            have HE := hidden he2
            clear he he2 HJE hKE
            go_wp2_with fail
            rw [frN_mk]
            exact HHJE.out _ rfl (.inr HE.out)
          have e2 : (((s[p].toNat : Nat) : Int) == 69) = false := by rw [beq_eq_false_iff_ne]; omega
          have HE := hidden he
          have HE2 := hidden he2
          have HKE := hidden hKE
          clear he he2 HJE HHJE hKE
          go_wp2_with fail
          refine HKE.out _ _ ?_
          clear HKE
          go_wp2_with fail
          rw [frN_mk]
          exact HHJ4.out _ _ p rfl HF.out.far hps (Js.frac_end HF.out (fun _ => ⟨HE.out, HE2.out⟩))
        · have l1 : decide ((p : Int) < (s.size : Int)) = false := decide_eq_false (by omega)
          have l1n : decide (p < s.size) = false := decide_eq_false (by omega)
          go_wp2_with fail
          rw [frN_mk]
          exact HHJ4.out _ _ p rfl HF.out.far hps (Js.frac_end HF.out (fun h => absurd h hlp))
      have HHJ3 := hidden HJ3
      clear HJ3 hKJ3
      by_cases hlp : p < s.size
      · have l1 : decide ((p : Int) < (s.size : Int)) = true := decide_eq_true (by omega)
        have l1n : decide (p < s.size) = true := decide_eq_true (by omega)
        by_cases h46 : s[p].toNat = 46
        · have e1 : (((s[p].toNat : Nat) : Int) == 46) = true := by rw [h46]; rfl
          have H46 := hidden h46
          clear h46
          go_wp2_with fail
          refine (jDigits_any s _ (p + 1) W (by omega) hs (by omega)).mono ?_
          rintro e w1 ⟨⟨n, rfl, hn, hr, hd⟩, hw⟩
          have hw := hw.symm
          subst hw
          have HR := hidden hr
          have HD := hidden hd
          clear hr hd
          by_cases hn0 : n = 0
          · have e0 : ((n : Int) == 0) = true := by rw [hn0]; rfl
            have HN := hidden hn0
            clear hn0
            go_wp2_with fail
            refine (jBad_any ((p : Int) + 1) (p + 1) _ (by omega)).mono ?_
            rintro e w9 ⟨rfl, hb9⟩
            have hg9 : w9.heap[w.heap.size]? = some (.cells #[.int .i64 0, .bool false, .int .i64 0] 95 (0, 0)) := (hb9.block _ ((Array.getElem?_eq_some_iff.1 HG.out).1)).trans HG.out
            obtain ⟨c0, f0, c1, f1, c2, f2⟩ := rv_open hg9
            have HG9 := hidden hg9
            have HQ9 := hidden (HB.out.trans (hb9.mono HB.out.size))
            clear hb9 hg9
            unfold rv
            go_wp2_with fail
            refine bodyPost_ret (results_cell_row rfl _ _ w.heap.size 95 #[.int .i64 ((p + 1) : Nat), .bool false, .int .i64 0] (0, 0) _ rfl ?_ Tryz.underlying95 rfl sizeR) rfl ?_
            · exact rv_cells HG9.out _ _ _
            · exact ⟨.inr ⟨p + 1, rfl, fun st d => Js.frac_no HW.out hlp H46.out (fun h => by have := HR.out (by rw [HN.out]; exact h); simp only [HN.out] at this; exact this) st d⟩, rv_below HQ9.out (Nat.le_refl _) _ _ _⟩
          · have e0 : ((n : Int) == 0) = false := by rw [beq_eq_false_iff_ne]; omega
            go_wp2_with fail
            rw [frN_mk]
            exact HHJ3.out _ _ (p + 1 + n) 24 (by go_num) hn (Js.frac_some HW.out hlp H46.out (by omega) (by rw [HL.out]; exact hn) HD.out HR.out)
        · have e1 : (((s[p].toNat : Nat) : Int) == 46) = false := by rw [beq_eq_false_iff_ne]; omega
          have H46 := hidden h46
          clear h46
          go_wp2_with fail
          rw [frN_mk]
          exact HHJ3.out _ _ p q rfl ham (Js.frac_none HW.out fun _ => H46.out)
      · have l1 : decide ((p : Int) < (s.size : Int)) = false := decide_eq_false (by omega)
        have l1n : decide (p < s.size) = false := decide_eq_false (by omega)
        go_wp2_with fail
        rw [frN_mk]
        exact HHJ3.out _ _ p q rfl ham (Js.frac_none HW.out fun h => absurd h hlp)
    have HHJ2 := hidden HJ2
    clear HJ2 hKJ2
    by_cases h48 : s[a].toNat = 48
    · have e1 : (((s[a].toNat : Nat) : Int) == 48) = true := by rw [h48]; rfl
      have HWH := hidden (Js.whole_zero HBG.out hia hlt h48)
      clear h48
      go_wp2_with fail
      rw [frN_mk]
      exact HHJ2.out _ 1 21 rfl hlt HWH.out
    · have e1 : (((s[a].toNat : Nat) : Int) == 48) = false := by rw [beq_eq_false_iff_ne]; omega
      have HWH := hidden (Js.whole_digits (n := n) HBG.out hia (by omega) (by rw [HL.out]; exact hn) HD.out HR.out fun _ => h48)
      clear h48
      go_wp2_with fail
      rw [frN_mk]
      exact HHJ2.out _ n 22 rfl hn HWH.out
  have HHJ1 := hidden HJ1
  clear HJ1 hKJ1
  by_cases h45 : s[i].toNat = 45
  · have e1 : (((s[i].toNat : Nat) : Int) == 45) = true := by rw [h45]; rfl
    have l0 : decide ((i : Int) < (s.size : Int)) = true := decide_eq_true (by omega)
    have HBM := hidden (Js.begun_minus s.data.toList i hi h45)
    clear h45
    go_wp2_with fail
    rw [frN_mk]
    exact HHJ1.out _ _ (i + 1) (by go_num) (by omega) hi HBM.out
  · have e1 : (((s[i].toNat : Nat) : Int) == 45) = false := by rw [beq_eq_false_iff_ne]; omega
    have l0 : decide ((i : Int) < (s.size : Int)) = true := decide_eq_true (by omega)
    have HBM := hidden (Js.begun_plain s.data.toList i hi HPL.out h45)
    clear h45
    go_wp2_with fail
    rw [frN_mk]
    exact HHJ1.out _ _ i rfl (Nat.le_refl _) (Nat.le_of_lt hi) HBM.out
end Go.Proofs.YtoipliflphbeiaaGreatDoor
namespace Go.Proofs.YtoipliflphbeiaaGreatDoor
open Go.RowKit
/-- A value at a place: where it ends and how deep it nests, or where it goes wrong. -/
def VPost (s : ByteArray) (i : Nat) (e : Ending) : Prop :=
  (∃ q D : Nat, e = .returned (rv q true D) ∧ i < q ∧ q ≤ s.size ∧ D + i ≤ q ∧ Js.Nb s.data.toList q ∧ ∀ st d, st.length ≤ d → Js.T s.data.toList (Js.cV st d) i = Js.T s.data.toList (Js.cE st (max d (st.length + D))) q)
  ∨ ∃ q : Nat, e = .returned (rv q false 0) ∧ ∀ st d, st.length ≤ d → Js.T s.data.toList (Js.cV st d) i = (none, q)
/-- An array or an object behind its first bracket. -/
def MPost (s : ByteArray) (b : Bool) (i : Nat) (e : Ending) : Prop :=
  (∃ q D : Nat, e = .returned (rv q true D) ∧ i < q ∧ q ≤ s.size ∧ 1 ≤ D ∧ D + i ≤ q ∧ Js.Nb s.data.toList q ∧ ∀ st d, st.length + 1 ≤ d → Js.T s.data.toList (Js.cB b (b :: st) d) i = Js.T s.data.toList (Js.cE st (max d (st.length + D))) q)
  ∨ ∃ q : Nat, e = .returned (rv q false 0) ∧ ∀ st d, st.length + 1 ≤ d → Js.T s.data.toList (Js.cB b (b :: st) d) i = (none, q)
/-- What an array or an object is made of. -/
def IPost (s : ByteArray) (b : Bool) (i : Nat) (e : Ending) : Prop :=
  (∃ q D : Nat, e = .returned (rv q true D) ∧ i < q ∧ q ≤ s.size ∧ D + i ≤ q ∧ Js.Nb s.data.toList q ∧ ∀ st d, st.length ≤ d → Js.T s.data.toList (Js.cI b st d) i = Js.T s.data.toList (Js.cE st (max d (st.length + D))) q)
  ∨ ∃ q : Nat, e = .returned (rv q false 0) ∧ ∀ st d, st.length ≤ d → Js.T s.data.toList (Js.cI b st d) i = (none, q)
theorem VPost.rv {s : ByteArray} {i : Nat} {e : Ending} (h : VPost s i e) : ∃ q ok D, e = .returned (rv q ok D) := by
  rcases h with ⟨q, D, h, _⟩ | ⟨q, h, _⟩
  · exact ⟨q, true, D, h⟩
  · exact ⟨q, false, 0, h⟩
theorem MPost.rv {s : ByteArray} {b : Bool} {i : Nat} {e : Ending} (h : MPost s b i e) : ∃ q ok D, e = .returned (rv q ok D) := by
  rcases h with ⟨q, D, h, _⟩ | ⟨q, h, _⟩
  · exact ⟨q, true, D, h⟩
  · exact ⟨q, false, 0, h⟩
theorem IPost.rv {s : ByteArray} {b : Bool} {i : Nat} {e : Ending} (h : IPost s b i e) : ∃ q ok D, e = .returned (rv q ok D) := by
  rcases h with ⟨q, D, h, _⟩ | ⟨q, h, _⟩
  · exact ⟨q, true, D, h⟩
  · exact ⟨q, false, 0, h⟩
/-- Behind blanks. -/
theorem VPost.from {s : ByteArray} {i j : Nat} {e : Ending} (h : VPost s j e) (hij : i ≤ j) (ht : ∀ c, Js.Sp c → Js.T s.data.toList c i = Js.T s.data.toList c j) : VPost s i e := by
  rcases h with ⟨q, D, h1, h2, h3, h4, hn, h5⟩ | ⟨q, h1, h2⟩
  · exact .inl ⟨q, D, h1, by omega, h3, by omega, hn, fun st d hd => (ht _ (Js.sp_V st d)).trans (h5 st d hd)⟩
  · exact .inr ⟨q, h1, fun st d hd => (ht _ (Js.sp_V st d)).trans (h2 st d hd)⟩
theorem NPost.value {s : ByteArray} {i : Nat} {e : Ending} (h : NPost s i e) : VPost s i e := by
  rcases h with ⟨q, h1, h2, h3, hn, h4⟩ | ⟨q, h1, h2⟩
  · refine .inl ⟨q, 0, h1, h2, h3, by omega, hn, fun st d hd => ?_⟩
    rw [h4, Nat.add_zero, Nat.max_eq_left hd]
  · exact .inr ⟨q, h1, fun st d _ => h2 st d⟩
theorem SPost.value {s : ByteArray} {i : Nat} {e : Ending} (h : SPost s i e) (hi : i < s.size) (h34 : s[i].toNat = 34) : VPost s i e := by
  rcases h with ⟨q, h1, h2, h3, hn, h4⟩ | ⟨q, h1, h2⟩
  · refine .inl ⟨q, 0, h1, h2, h3, by omega, hn, fun st d hd => ?_⟩
    rw [Js.T_V_str _ st d i hi h34, h4, Nat.add_zero, Nat.max_eq_left hd]
    rfl
  · exact .inr ⟨q, h1, fun st d _ => (Js.T_V_str _ st d i hi h34).trans (h2 false st d)⟩
theorem MPost.value {s : ByteArray} {b : Bool} {i : Nat} {e : Ending} (h : MPost s b (i + 1) e) (hi : i < s.size) (hb : s[i].toNat = Js.gO b) : VPost s i e := by
  rcases h with ⟨q, D, h1, h2, h3, h4, h5, hn, h6⟩ | ⟨q, h1, h2⟩
  · refine .inl ⟨q, D, h1, by omega, h3, by omega, hn, fun st d hd => ?_⟩
    rw [Js.T_V_open _ b st d i hi hb, h6 st _ (by omega), show max (max d (st.length + 1)) (st.length + D) = max d (st.length + D) by omega]
  · exact .inr ⟨q, h1, fun st d _ => (Js.T_V_open _ b st d i hi hb).trans (h2 st _ (by omega))⟩
theorem WdPost.value {s v : ByteArray} {i : Nat} {e : Ending} (h : WdPost s v i e) (hw : Js.isW v.data.toList) (hi : i < s.size) (h0 : s[i].toNat = (v.data.toList.getD 0 0).toNat) : VPost s i e := by
  have hg : ∀ k (hk : k < v.size), v.data.toList.getD k 0 = v[k] := fun k hk => by
    rw [List.getD_eq_getElem?_getD, List.getElem?_eq_getElem (show k < v.data.toList.length from hk)]
    rfl
  have hl : v.data.toList.length = v.size := rfl
  rcases h with ⟨h1, h2, h3⟩ | ⟨j, hj, h1, h2, h3, h4⟩
  · have h3l : 3 ≤ v.size := by
      rw [← hl]
      rcases hw with h | h | h <;> rw [h] <;> decide
    refine .inl ⟨i + v.size, 0, h1, by omega, h2, by omega, Js.nb_word (l := s.data.toList) hw (fun k hk => by obtain ⟨h5, h6⟩ := h3 k hk; exact ⟨h5, by rw [hg k hk]; exact h6⟩), fun st d hd => ?_⟩
    rw [Js.T_W_all _ v.data.toList st d i hw (fun k hk => ?_), Nat.add_zero, Nat.max_eq_left hd]
    · rfl
    · obtain ⟨h5, h6⟩ := h3 k hk
      exact ⟨h5, by rw [hg k hk]; exact h6⟩
  · have hj0 : 0 < j := by
      rcases Nat.eq_zero_or_pos j with h | h
      · subst h
        exact absurd (by rw [← hg 0 hj]; exact h0) (h4 hi)
      · exact h
    refine .inr ⟨i + j, h1, fun st d hd => ?_⟩
    exact Js.T_W_no _ v.data.toList st d i j hw hj h2 hj0 (fun k hk => by obtain ⟨h5, h6, h7⟩ := h3 k hk; exact ⟨h5, by rw [hg k h6]; exact h7⟩) (fun h => by rw [hg j hj]; exact h4 h)
set_option maxHeartbeats 4000000 in
theorem jValue_step (s : ByteArray) (i : Nat) (w : World) (hs : s.size ≤ 1000000) (hi : i ≤ s.size)
    (hM : ∀ b i' w, i < i' → i' ≤ s.size → Calls Tryz.prog 131 #[.string s, .int .i64 ((i' : Nat) : Int), .int .u8 ((Js.gE b : Nat) : Int)] w fun e w' => MPost s b i' e ∧ Below w.heap.size w w') :
    Calls Tryz.prog 98 #[.string s, .int .i64 (i : Nat)] w fun e w' => VPost s i e ∧ Below w.heap.size w w' := by
  have HG : Hid ((w.alloc (Obj.cells #[.int .i64 0, .bool false, .int .i64 0] 95)).heap[w.heap.size]? = some (.cells #[.int .i64 0, .bool false, .int .i64 0] 95 (0, 0))) := heap_alloc_new _ _
  have HB : Hid (Below w.heap.size w (w.alloc (Obj.cells #[.int .i64 0, .bool false, .int .i64 0] 95))) := (Below.refl _ _).alloc (Nat.le_refl _) _
  have HM := hidden hM
  clear hM
  go_enter Tryz.func98, Tryz.ntmps98
  go_wp2_with fail
  refine (jBlanks_any s i _ hs hi).mono ?_
  rintro e w1 ⟨⟨j, rfl, hij, hjs, hbl, hT⟩, hw⟩
  have hw := hw.symm
  subst hw
  have HT := hidden hT
  have HBL := hidden hbl
  clear hT hbl
  by_cases hlt : j < s.size
  · have l0 : decide ((s.size : Int) ≤ (j : Int)) = false := decide_eq_false (by omega)
    have l0n : decide (s.size ≤ j) = false := decide_eq_false (by omega)
    have hbj := HBL.out hlt
    have HNB := hidden hbj
    clear hbj
    by_cases h110 : s[j].toNat = 110
    · have e110 : (((s[j].toNat : Nat) : Int) == 110) = true := by rw [h110]; rfl
      have H110 := hidden h110
      clear h110
      go_wp2_with fail
      refine (jWord_any s ⟨#[110, 117, 108, 108]⟩ j _ hs (by decide) hjs).mono ?_
      rintro e w9 ⟨hp, hb9⟩
      have hv : VPost s i e := VPost.from (WdPost.value hp (.inl rfl) hlt (H110.out.trans rfl)) hij HT.out
      obtain ⟨q, ok, D, rfl⟩ := hv.rv
      have HV := hidden hv
      have hg9 : w9.heap[w.heap.size]? = some (.cells #[.int .i64 0, .bool false, .int .i64 0] 95 (0, 0)) := (hb9.block _ ((Array.getElem?_eq_some_iff.1 HG.out).1)).trans HG.out
      obtain ⟨c0, f0, c1, f1, c2, f2⟩ := rv_open hg9
      have HG9 := hidden hg9
      have HQ9 := hidden (HB.out.trans (hb9.mono HB.out.size))
      clear hp hv hb9 hg9
      unfold rv
      go_wp2_with fail
      refine bodyPost_ret (results_cell_row rfl _ _ w.heap.size 95 #[.int .i64 (q : Nat), .bool ok, .int .i64 (D : Nat)] (0, 0) _ rfl ?_ Tryz.underlying95 rfl sizeR) rfl ?_
      · exact rv_cells HG9.out _ _ _
      · exact ⟨HV.out, rv_below HQ9.out (Nat.le_refl _) _ _ _⟩
    have e110 : (((s[j].toNat : Nat) : Int) == 110) = false := by rw [beq_eq_false_iff_ne]; omega
    have H110 := hidden h110
    clear h110
    by_cases h116 : s[j].toNat = 116
    · have e116 : (((s[j].toNat : Nat) : Int) == 116) = true := by rw [h116]; rfl
      have H116 := hidden h116
      clear h116
      go_wp2_with fail
      refine (jWord_any s ⟨#[116, 114, 117, 101]⟩ j _ hs (by decide) hjs).mono ?_
      rintro e w9 ⟨hp, hb9⟩
      have hv : VPost s i e := VPost.from (WdPost.value hp (.inr (.inl rfl)) hlt (H116.out.trans rfl)) hij HT.out
      obtain ⟨q, ok, D, rfl⟩ := hv.rv
      have HV := hidden hv
      have hg9 : w9.heap[w.heap.size]? = some (.cells #[.int .i64 0, .bool false, .int .i64 0] 95 (0, 0)) := (hb9.block _ ((Array.getElem?_eq_some_iff.1 HG.out).1)).trans HG.out
      obtain ⟨c0, f0, c1, f1, c2, f2⟩ := rv_open hg9
      have HG9 := hidden hg9
      have HQ9 := hidden (HB.out.trans (hb9.mono HB.out.size))
      clear hp hv hb9 hg9
      unfold rv
      go_wp2_with fail
      refine bodyPost_ret (results_cell_row rfl _ _ w.heap.size 95 #[.int .i64 (q : Nat), .bool ok, .int .i64 (D : Nat)] (0, 0) _ rfl ?_ Tryz.underlying95 rfl sizeR) rfl ?_
      · exact rv_cells HG9.out _ _ _
      · exact ⟨HV.out, rv_below HQ9.out (Nat.le_refl _) _ _ _⟩
    have e116 : (((s[j].toNat : Nat) : Int) == 116) = false := by rw [beq_eq_false_iff_ne]; omega
    have H116 := hidden h116
    clear h116
    by_cases h102 : s[j].toNat = 102
    · have e102 : (((s[j].toNat : Nat) : Int) == 102) = true := by rw [h102]; rfl
      have H102 := hidden h102
      clear h102
      go_wp2_with fail
      refine (jWord_any s ⟨#[102, 97, 108, 115, 101]⟩ j _ hs (by decide) hjs).mono ?_
      rintro e w9 ⟨hp, hb9⟩
      have hv : VPost s i e := VPost.from (WdPost.value hp (.inr (.inr rfl)) hlt (H102.out.trans rfl)) hij HT.out
      obtain ⟨q, ok, D, rfl⟩ := hv.rv
      have HV := hidden hv
      have hg9 : w9.heap[w.heap.size]? = some (.cells #[.int .i64 0, .bool false, .int .i64 0] 95 (0, 0)) := (hb9.block _ ((Array.getElem?_eq_some_iff.1 HG.out).1)).trans HG.out
      obtain ⟨c0, f0, c1, f1, c2, f2⟩ := rv_open hg9
      have HG9 := hidden hg9
      have HQ9 := hidden (HB.out.trans (hb9.mono HB.out.size))
      clear hp hv hb9 hg9
      unfold rv
      go_wp2_with fail
      refine bodyPost_ret (results_cell_row rfl _ _ w.heap.size 95 #[.int .i64 (q : Nat), .bool ok, .int .i64 (D : Nat)] (0, 0) _ rfl ?_ Tryz.underlying95 rfl sizeR) rfl ?_
      · exact rv_cells HG9.out _ _ _
      · exact ⟨HV.out, rv_below HQ9.out (Nat.le_refl _) _ _ _⟩
    have e102 : (((s[j].toNat : Nat) : Int) == 102) = false := by rw [beq_eq_false_iff_ne]; omega
    have H102 := hidden h102
    clear h102
    by_cases h34 : s[j].toNat = 34
    · have e34 : (((s[j].toNat : Nat) : Int) == 34) = true := by rw [h34]; rfl
      have H34 := hidden h34
      clear h34
      go_wp2_with fail
      refine (jStr_in s j _ hs hlt H34.out).mono ?_
      rintro e w9 ⟨hp, hb9⟩
      have hv : VPost s i e := VPost.from (SPost.value hp hlt H34.out) hij HT.out
      obtain ⟨q, ok, D, rfl⟩ := hv.rv
      have HV := hidden hv
      have hg9 : w9.heap[w.heap.size]? = some (.cells #[.int .i64 0, .bool false, .int .i64 0] 95 (0, 0)) := (hb9.block _ ((Array.getElem?_eq_some_iff.1 HG.out).1)).trans HG.out
      obtain ⟨c0, f0, c1, f1, c2, f2⟩ := rv_open hg9
      have HG9 := hidden hg9
      have HQ9 := hidden (HB.out.trans (hb9.mono HB.out.size))
      clear hp hv hb9 hg9
      unfold rv
      go_wp2_with fail
      refine bodyPost_ret (results_cell_row rfl _ _ w.heap.size 95 #[.int .i64 (q : Nat), .bool ok, .int .i64 (D : Nat)] (0, 0) _ rfl ?_ Tryz.underlying95 rfl sizeR) rfl ?_
      · exact rv_cells HG9.out _ _ _
      · exact ⟨HV.out, rv_below HQ9.out (Nat.le_refl _) _ _ _⟩
    have e34 : (((s[j].toNat : Nat) : Int) == 34) = false := by rw [beq_eq_false_iff_ne]; omega
    have H34 := hidden h34
    clear h34
    by_cases h91 : s[j].toNat = 91
    · have e91 : (((s[j].toNat : Nat) : Int) == 91) = true := by rw [h91]; rfl
      have H91 := hidden h91
      clear h91
      go_wp2_with fail
      refine (HM.out false (j + 1) _ (by omega) hlt).mono ?_
      rintro e w9 ⟨hp, hb9⟩
      have hv : VPost s i e := VPost.from (MPost.value hp hlt H91.out) hij HT.out
      obtain ⟨q, ok, D, rfl⟩ := hv.rv
      have HV := hidden hv
      have hg9 : w9.heap[w.heap.size]? = some (.cells #[.int .i64 0, .bool false, .int .i64 0] 95 (0, 0)) := (hb9.block _ ((Array.getElem?_eq_some_iff.1 HG.out).1)).trans HG.out
      obtain ⟨c0, f0, c1, f1, c2, f2⟩ := rv_open hg9
      have HG9 := hidden hg9
      have HQ9 := hidden (HB.out.trans (hb9.mono HB.out.size))
      clear hp hv hb9 hg9
      unfold rv
      go_wp2_with fail
      refine bodyPost_ret (results_cell_row rfl _ _ w.heap.size 95 #[.int .i64 (q : Nat), .bool ok, .int .i64 (D : Nat)] (0, 0) _ rfl ?_ Tryz.underlying95 rfl sizeR) rfl ?_
      · exact rv_cells HG9.out _ _ _
      · exact ⟨HV.out, rv_below HQ9.out (Nat.le_refl _) _ _ _⟩
    have e91 : (((s[j].toNat : Nat) : Int) == 91) = false := by rw [beq_eq_false_iff_ne]; omega
    have H91 := hidden h91
    clear h91
    by_cases h123 : s[j].toNat = 123
    · have e123 : (((s[j].toNat : Nat) : Int) == 123) = true := by rw [h123]; rfl
      have H123 := hidden h123
      clear h123
      go_wp2_with fail
      refine (HM.out true (j + 1) _ (by omega) hlt).mono ?_
      rintro e w9 ⟨hp, hb9⟩
      have hv : VPost s i e := VPost.from (MPost.value hp hlt H123.out) hij HT.out
      obtain ⟨q, ok, D, rfl⟩ := hv.rv
      have HV := hidden hv
      have hg9 : w9.heap[w.heap.size]? = some (.cells #[.int .i64 0, .bool false, .int .i64 0] 95 (0, 0)) := (hb9.block _ ((Array.getElem?_eq_some_iff.1 HG.out).1)).trans HG.out
      obtain ⟨c0, f0, c1, f1, c2, f2⟩ := rv_open hg9
      have HG9 := hidden hg9
      have HQ9 := hidden (HB.out.trans (hb9.mono HB.out.size))
      clear hp hv hb9 hg9
      unfold rv
      go_wp2_with fail
      refine bodyPost_ret (results_cell_row rfl _ _ w.heap.size 95 #[.int .i64 (q : Nat), .bool ok, .int .i64 (D : Nat)] (0, 0) _ rfl ?_ Tryz.underlying95 rfl sizeR) rfl ?_
      · exact rv_cells HG9.out _ _ _
      · exact ⟨HV.out, rv_below HQ9.out (Nat.le_refl _) _ _ _⟩
    have e123 : (((s[j].toNat : Nat) : Int) == 123) = false := by rw [beq_eq_false_iff_ne]; omega
    have H123 := hidden h123
    clear h123
    go_wp2_with fail
    refine (jNumber_any s j _ hs hlt ⟨HNB.out, H34.out, H91.out, H123.out, H110.out, H116.out, H102.out⟩).mono ?_
    rintro e w9 ⟨hp, hb9⟩
    have hv : VPost s i e := VPost.from (NPost.value hp) hij HT.out
    obtain ⟨q, ok, D, rfl⟩ := hv.rv
    have HV := hidden hv
    have hg9 : w9.heap[w.heap.size]? = some (.cells #[.int .i64 0, .bool false, .int .i64 0] 95 (0, 0)) := (hb9.block _ ((Array.getElem?_eq_some_iff.1 HG.out).1)).trans HG.out
    obtain ⟨c0, f0, c1, f1, c2, f2⟩ := rv_open hg9
    have HG9 := hidden hg9
    have HQ9 := hidden (HB.out.trans (hb9.mono HB.out.size))
    clear hp hv hb9 hg9
    unfold rv
    go_wp2_with fail
    refine bodyPost_ret (results_cell_row rfl _ _ w.heap.size 95 #[.int .i64 (q : Nat), .bool ok, .int .i64 (D : Nat)] (0, 0) _ rfl ?_ Tryz.underlying95 rfl sizeR) rfl ?_
    · exact rv_cells HG9.out _ _ _
    · exact ⟨HV.out, rv_below HQ9.out (Nat.le_refl _) _ _ _⟩
  · have l0 : decide ((s.size : Int) ≤ (j : Int)) = true := decide_eq_true (by omega)
    have l0n : decide (s.size ≤ j) = true := decide_eq_true (by omega)
    have HV := hidden (show VPost s i (.returned (rv j false 0)) from .inr ⟨j, rfl, fun st d _ => (HT.out _ (Js.sp_V st d)).trans (Js.T_live _ _ _ (show s.size = j by omega) rfl)⟩)
    go_wp2_with fail
    refine (jBad_any (j : Int) j _ rfl).mono ?_
    rintro e w9 ⟨hp, hb9⟩
    have hv : VPost s i e := by rw [hp]; exact HV.out
    obtain ⟨q, ok, D, rfl⟩ := hv.rv
    have HV := hidden hv
    have hg9 : w9.heap[w.heap.size]? = some (.cells #[.int .i64 0, .bool false, .int .i64 0] 95 (0, 0)) := (hb9.block _ ((Array.getElem?_eq_some_iff.1 HG.out).1)).trans HG.out
    obtain ⟨c0, f0, c1, f1, c2, f2⟩ := rv_open hg9
    have HG9 := hidden hg9
    have HQ9 := hidden (HB.out.trans (hb9.mono HB.out.size))
    clear hp hv hb9 hg9
    unfold rv
    go_wp2_with fail
    refine bodyPost_ret (results_cell_row rfl _ _ w.heap.size 95 #[.int .i64 (q : Nat), .bool ok, .int .i64 (D : Nat)] (0, 0) _ rfl ?_ Tryz.underlying95 rfl sizeR) rfl ?_
    · exact rv_cells HG9.out _ _ _
    · exact ⟨HV.out, rv_below HQ9.out (Nat.le_refl _) _ _ _⟩
end Go.Proofs.YtoipliflphbeiaaGreatDoor
namespace Go.Proofs.YtoipliflphbeiaaGreatDoor
open Go.RowKit
namespace Js
/-- Behind an item: the bracket that closes, a comma, or an end. -/
theorem many_end {l : List UInt8} {b : Bool} {i a q j dp D M : Nat} (hT : ∀ st d, st.length + 1 ≤ d → T l (cB b (b :: st) d) i = T l (cI b (b :: st) (max d (st.length + 1 + dp))) a) (h5 : ∀ st d, st.length ≤ d → T l (cI b st d) a = T l (cE st (max d (st.length + D))) q) (hj : ∀ c, Sp c → T l c q = T l c j) (hM : M = max dp D) (st : List Bool) (d : Nat) (hd : st.length + 1 ≤ d) : T l (cB b (b :: st) d) i = T l (cE (b :: st) (max d (st.length + 1 + M))) j := by
  rw [hT st d hd, h5 (b :: st) _ (by show st.length + 1 ≤ _; omega), hj _ (sp_E _ _)]
  show T l (cE (b :: st) (max (max d (st.length + 1 + dp)) (st.length + 1 + D))) j = _
  rw [show max (max d (st.length + 1 + dp)) (st.length + 1 + D) = max d (st.length + 1 + M) by omega]
end Js
set_option maxRecDepth 100000 in
set_option maxHeartbeats 8000000 in
theorem jMany_step (s : ByteArray) (b : Bool) (i g : Nat) (w : World) (hs : s.size ≤ 1000000) (hi : i ≤ s.size) (hg : g = Js.gE b)
    (hI : ∀ a w, i ≤ a → a ≤ s.size → Calls Tryz.prog 165 #[.string s, .int .i64 ((a : Nat) : Int), .int .u8 ((g : Nat) : Int)] w fun e w' => IPost s b a e ∧ Below w.heap.size w w') :
    Calls Tryz.prog 131 #[.string s, .int .i64 (i : Nat), .int .u8 (g : Nat)] w fun e w' => MPost s b i e ∧ Below w.heap.size w w' := by
  have HG : Hid ((w.alloc (Obj.cells #[.int .i64 0, .bool false, .int .i64 0] 95)).heap[w.heap.size]? = some (.cells #[.int .i64 0, .bool false, .int .i64 0] 95 (0, 0))) := heap_alloc_new _ _
  have HB : Hid (Below w.heap.size w (w.alloc (Obj.cells #[.int .i64 0, .bool false, .int .i64 0] 95))) := (Below.refl _ _).alloc (Nat.le_refl _) _
  have HI := hidden hI
  have HGE := hidden hg
  clear hI hg
  go_enter Tryz.func131, Tryz.ntmps131
  refine wp_seq_k fun K0 h0 => ?_
  have H0 := hidden h0
  clear h0
  go_wp2_with fail
  refine H0.out _ _ ?_
  clear H0
  refine wp_seq_k fun K0 h0 => ?_
  have H0 := hidden h0
  clear h0
  go_wp2_with fail
  refine (jBlanks_any s i _ hs hi).mono ?_
  rintro e w1 ⟨⟨j, rfl, hij, hjs, hbl, hT⟩, hw⟩
  have hw := hw.symm
  subst hw
  have HT := hidden hT
  have HBL := hidden hbl
  clear hT hbl
  go_wp2_with fail
  refine H0.out _ _ ?_
  clear H0
  by_cases hend : ∃ h : j < s.size, s[j].toNat = g
  · obtain ⟨hlt, hcg⟩ := hend
    have l0 : decide ((j : Int) < (s.size : Int)) = true := decide_eq_true (by omega)
    have l0n : decide (j < s.size) = true := decide_eq_true (by omega)
    have e1 : (((s[j].toNat : Nat) : Int) == (g : Int)) = true := by rw [hcg]; exact beq_self_eq_true _
    have e2 : (s[j].toNat == g) = true := by rw [hcg]; exact beq_self_eq_true _
    have HC : Hid (s[j].toNat = Js.gE b) := hidden (hcg.trans HGE.out)
    clear hcg
    go_wp2_with fail
    refine bodyPost_ret (results_cell_row rfl _ _ w.heap.size 95 #[.int .i64 (j + 1 : Nat), .bool true, .int .i64 1] (0, 0) _ rfl ?_ Tryz.underlying95 rfl sizeR) rfl ?_
    · exact heap_alloc_new _ _
    · exact ⟨.inl ⟨j + 1, 1, rfl, by omega, hlt, Nat.le_refl _, by omega, Js.nb_close (l := s.data.toList) hlt HC.out, fun st d hd => (HT.out _ (Js.sp_B b _ d)).trans ((Js.T_B_end _ b st d j hlt HC.out).trans (by rw [Nat.max_eq_left hd]))⟩, (Below.refl _ _).alloc (Nat.le_refl _) _⟩
  · have main : Hid (∀ hj : j < s.size, s[j].toNat ≠ g) := hidden fun h1 h2 => hend ⟨h1, h2⟩
    have start : Hid (∀ st d, st.length + 1 ≤ d → Js.T s.data.toList (Js.cB b (b :: st) d) i = Js.T s.data.toList (Js.cI b (b :: st) (max d (st.length + 1 + 0))) j) := hidden fun st d hd => by
      rw [HT.out _ (Js.sp_B b _ d), Js.T_B_item _ b (b :: st) d j (fun h => ⟨HBL.out h, by rw [← HGE.out]; exact main.out h⟩), Nat.add_zero, Nat.max_eq_left hd]
    refine wp_seq_k fun KJ hKJ => ?_
    have HJ : ∀ (f : Act), f = f → True := fun _ _ => trivial
    have HKJ := hidden hKJ
    clear hKJ HJ hend
    by_cases hlt : j < s.size
    · have l0 : decide ((j : Int) < (s.size : Int)) = true := decide_eq_true (by omega)
      have l0n : decide (j < s.size) = true := decide_eq_true (by omega)
      have hcg := main.out hlt
      have e1 : (((s[j].toNat : Nat) : Int) == (g : Int)) = false := by rw [beq_eq_false_iff_ne]; omega
      have e2 : (s[j].toNat == g) = false := by rw [beq_eq_false_iff_ne]; exact hcg
      clear hcg
      go_wp2_with fail
      refine HKJ.out _ _ ?_
      clear HKJ l0 l0n e1 e2
      go_wp2_with fail
      go_loopw [1, 7, 8] (fun v dv kv wr => ∃ a dp k : Nat, v = .int .i64 (a : Nat) ∧ dv = .int .i64 (dp : Nat) ∧ kv = .int .i64 (k : Nat) ∧ i ≤ a ∧ a ≤ s.size ∧ dp + i ≤ a ∧ k ≤ a ∧ wr.heap[w.heap.size]? = some (.cells #[.int .i64 0, .bool false, .int .i64 0] 95 (0, 0)) ∧ Below w.heap.size w wr ∧ ∀ st d, st.length + 1 ≤ d → Js.T s.data.toList (Js.cB b (b :: st) d) i = Js.T s.data.toList (Js.cI b (b :: st) (max d (st.length + 1 + dp))) a) (fun v _ _ _ => s.size - (intOf v).toNat)
      case atStart => exact ⟨j, 0, 0, rfl, rfl, rfl, hij, hjs, by omega, by omega, HG.out, HB.out, start.out⟩
      case round =>
        clear start main HBL HT HG HB hij hjs
        obtain ⟨a, dp, k, rfl, rfl, rfl, hia, has, hdp, hk, hg, hb, hT⟩ := hrel
        have HG := hidden hg
        have HB := hidden hb
        have HT := hidden hT
        clear hg hb hT
        have lk : decide ((k : Int) ≤ (s.size : Int)) = true := decide_eq_true (by omega)
        have lkn : decide (k ≤ s.size) = true := decide_eq_true (by omega)
        go_wp2_with fail
        refine (HI.out a _ hia has).mono ?_
        rintro e w2 ⟨⟨q, D, rfl, h1, h2, h4, -, h5⟩ | ⟨q, rfl, h5⟩, hb2⟩
        · have H5 := hidden h5
          have hg2 : w2.heap[w.heap.size]? = some (.cells #[.int .i64 0, .bool false, .int .i64 0] 95 (0, 0)) := (hb2.block _ ((Array.getElem?_eq_some_iff.1 HG.out).1)).trans HG.out
          have HG2 := hidden hg2
          have HB2 := hidden (HB.out.trans (hb2.mono HB.out.size))
          have hsz2 := HB2.out.size
          have hg3 : (w2.alloc (Obj.cells #[.int .i64 (q : Nat), .bool true, .int .i64 (D : Nat)] 95)).heap[w.heap.size]? = some (.cells #[.int .i64 0, .bool false, .int .i64 0] 95 (0, 0)) := (((Below.refl _ w2).alloc (Nat.le_refl _) _).block _ ((Array.getElem?_eq_some_iff.1 hg2).1)).trans hg2
          have HG3 := hidden hg3
          have HB3 := hidden (HB2.out.alloc hsz2 (Obj.cells #[.int .i64 (q : Nat), .bool true, .int .i64 (D : Nat)] 95))
          obtain ⟨M, hM⟩ : ∃ M, M = max dp D := ⟨_, rfl⟩
          have HMM := hidden hM
          unfold rv
          clear hb2 h5 hg2 hg3
          by_cases hDd : D ≤ dp
          · obtain rfl : M = dp := by omega
            clear hM
            go_wp2_with fail
            refine (jBlanks_any s q _ hs h2).mono ?_
            rintro e w3 ⟨⟨j2, rfl, hqj, hjs2, hbl2, hT2⟩, hw3⟩
            have hw3 := hw3.symm
            subst hw3
            have HT2 := hidden (Js.many_end HT.out H5.out hT2 HMM.out)
            have HBL2 := hidden hbl2
            clear hT2 hbl2
            by_cases hlt : j2 < s.size
            · have l1 : decide ((j2 : Int) < (s.size : Int)) = true := decide_eq_true (by omega)
              have l1n : decide (j2 < s.size) = true := decide_eq_true (by omega)
              have l2 : decide ((s.size : Int) ≤ (j2 : Int)) = false := decide_eq_false (by omega)
              have l2n : decide (s.size ≤ j2) = false := decide_eq_false (by omega)
              by_cases hcg : s[j2].toNat = g
              · have e1 : (((s[j2].toNat : Nat) : Int) == (g : Int)) = true := by rw [hcg]; exact beq_self_eq_true _
                have e2 : (s[j2].toNat == g) = true := by rw [hcg]; exact beq_self_eq_true _
                have HC : Hid (s[j2].toNat = Js.gE b) := hidden (hcg.trans HGE.out)
                obtain ⟨c0, f0, c1, f1, c2, f2⟩ := rv_open HG3.out
                clear hcg
                go_wp2_with fail
                refine bodyPost_ret (results_cell_row rfl _ _ w.heap.size 95 #[.int .i64 (j2 + 1 : Nat), .bool true, .int .i64 ((M + 1 : Nat) : Int)] (0, 0) _ rfl ?_ Tryz.underlying95 rfl sizeR) rfl ?_
                · exact rv_cells HG3.out _ _ _
                · exact ⟨.inl ⟨j2 + 1, M + 1, rfl, by omega, hlt, by omega, by omega, Js.nb_close (l := s.data.toList) hlt HC.out, fun st d hd => (HT2.out st d hd).trans ((Js.T_E_end _ b st _ j2 hlt HC.out).trans (by rw [show st.length + 1 + M = st.length + (M + 1) by omega]))⟩, rv_below HB3.out (Nat.le_refl _) _ _ _⟩
              · have e1 : (((s[j2].toNat : Nat) : Int) == (g : Int)) = false := by rw [beq_eq_false_iff_ne]; omega
                have e2 : (s[j2].toNat == g) = false := by rw [beq_eq_false_iff_ne]; exact hcg
                have HC : Hid (s[j2].toNat ≠ Js.gE b) := hidden (fun h => hcg (h.trans HGE.out.symm))
                clear hcg
                by_cases h44 : s[j2].toNat = 44
                · have e3 : (((s[j2].toNat : Nat) : Int) != 44) = false := by rw [h44]; rfl
                  have H44 := hidden h44
                  clear h44
                  go_wp2_with fail
                  go_roundw
                  case rel => exact ⟨j2 + 1, M, k + 1, by go_num, rfl, by go_num, by omega, hlt, by omega, by omega, HG3.out, HB3.out, fun st d hd => (HT2.out st d hd).trans (Js.T_E_next _ b st _ j2 hlt H44.out)⟩
                  case measure => simp [intOf]; omega
                · have e3 : (((s[j2].toNat : Nat) : Int) != 44) = true := by rw [bne_iff_ne]; omega
                  have H44 := hidden h44
                  clear h44
                  go_wp2_with fail
                  refine (jBad_any (j2 : Int) j2 _ (by omega)).mono ?_
                  rintro e w9 ⟨rfl, hb9⟩
                  have hg9 : w9.heap[w.heap.size]? = some (.cells #[.int .i64 0, .bool false, .int .i64 0] 95 (0, 0)) := (hb9.block _ ((Array.getElem?_eq_some_iff.1 HG3.out).1)).trans HG3.out
                  obtain ⟨c0, f0, c1, f1, c2, f2⟩ := rv_open hg9
                  have HG9 := hidden hg9
                  have HQ9 := hidden (HB3.out.trans (hb9.mono HB3.out.size))
                  clear hb9 hg9
                  unfold rv
                  go_wp2_with fail
                  refine bodyPost_ret (results_cell_row rfl _ _ w.heap.size 95 #[.int .i64 (j2 : Nat), .bool false, .int .i64 0] (0, 0) _ rfl ?_ Tryz.underlying95 rfl sizeR) rfl ?_
                  · exact rv_cells HG9.out _ _ _
                  · exact ⟨.inr ⟨j2, rfl, fun st d hd => (HT2.out st d hd).trans (Js.T_E_no _ b st _ j2 hjs2 fun h => ⟨HBL2.out h, HC.out, H44.out⟩)⟩, rv_below HQ9.out (Nat.le_refl _) _ _ _⟩
            · have l1 : decide ((j2 : Int) < (s.size : Int)) = false := decide_eq_false (by omega)
              have l1n : decide (j2 < s.size) = false := decide_eq_false (by omega)
              have l2 : decide ((s.size : Int) ≤ (j2 : Int)) = true := decide_eq_true (by omega)
              have l2n : decide (s.size ≤ j2) = true := decide_eq_true (by omega)
              go_wp2_with fail
              refine (jBad_any (j2 : Int) j2 _ (by omega)).mono ?_
              rintro e w9 ⟨rfl, hb9⟩
              have hg9 : w9.heap[w.heap.size]? = some (.cells #[.int .i64 0, .bool false, .int .i64 0] 95 (0, 0)) := (hb9.block _ ((Array.getElem?_eq_some_iff.1 HG3.out).1)).trans HG3.out
              obtain ⟨c0, f0, c1, f1, c2, f2⟩ := rv_open hg9
              have HG9 := hidden hg9
              have HQ9 := hidden (HB3.out.trans (hb9.mono HB3.out.size))
              clear hb9 hg9
              unfold rv
              go_wp2_with fail
              refine bodyPost_ret (results_cell_row rfl _ _ w.heap.size 95 #[.int .i64 (j2 : Nat), .bool false, .int .i64 0] (0, 0) _ rfl ?_ Tryz.underlying95 rfl sizeR) rfl ?_
              · exact rv_cells HG9.out _ _ _
              · exact ⟨.inr ⟨j2, rfl, fun st d hd => (HT2.out st d hd).trans (Js.T_E_no _ b st _ j2 hjs2 fun h => absurd h hlt)⟩, rv_below HQ9.out (Nat.le_refl _) _ _ _⟩
          · obtain rfl : M = D := by omega
            clear hM
            go_wp2_with fail
            refine (jBlanks_any s q _ hs h2).mono ?_
            rintro e w3 ⟨⟨j2, rfl, hqj, hjs2, hbl2, hT2⟩, hw3⟩
            have hw3 := hw3.symm
            subst hw3
            have HT2 := hidden (Js.many_end HT.out H5.out hT2 HMM.out)
            have HBL2 := hidden hbl2
            clear hT2 hbl2
            by_cases hlt : j2 < s.size
            · have l1 : decide ((j2 : Int) < (s.size : Int)) = true := decide_eq_true (by omega)
              have l1n : decide (j2 < s.size) = true := decide_eq_true (by omega)
              have l2 : decide ((s.size : Int) ≤ (j2 : Int)) = false := decide_eq_false (by omega)
              have l2n : decide (s.size ≤ j2) = false := decide_eq_false (by omega)
              by_cases hcg : s[j2].toNat = g
              · have e1 : (((s[j2].toNat : Nat) : Int) == (g : Int)) = true := by rw [hcg]; exact beq_self_eq_true _
                have e2 : (s[j2].toNat == g) = true := by rw [hcg]; exact beq_self_eq_true _
                have HC : Hid (s[j2].toNat = Js.gE b) := hidden (hcg.trans HGE.out)
                obtain ⟨c0, f0, c1, f1, c2, f2⟩ := rv_open HG3.out
                clear hcg
                go_wp2_with fail
                refine bodyPost_ret (results_cell_row rfl _ _ w.heap.size 95 #[.int .i64 (j2 + 1 : Nat), .bool true, .int .i64 ((M + 1 : Nat) : Int)] (0, 0) _ rfl ?_ Tryz.underlying95 rfl sizeR) rfl ?_
                · exact rv_cells HG3.out _ _ _
                · exact ⟨.inl ⟨j2 + 1, M + 1, rfl, by omega, hlt, by omega, by omega, Js.nb_close (l := s.data.toList) hlt HC.out, fun st d hd => (HT2.out st d hd).trans ((Js.T_E_end _ b st _ j2 hlt HC.out).trans (by rw [show st.length + 1 + M = st.length + (M + 1) by omega]))⟩, rv_below HB3.out (Nat.le_refl _) _ _ _⟩
              · have e1 : (((s[j2].toNat : Nat) : Int) == (g : Int)) = false := by rw [beq_eq_false_iff_ne]; omega
                have e2 : (s[j2].toNat == g) = false := by rw [beq_eq_false_iff_ne]; exact hcg
                have HC : Hid (s[j2].toNat ≠ Js.gE b) := hidden (fun h => hcg (h.trans HGE.out.symm))
                clear hcg
                by_cases h44 : s[j2].toNat = 44
                · have e3 : (((s[j2].toNat : Nat) : Int) != 44) = false := by rw [h44]; rfl
                  have H44 := hidden h44
                  clear h44
                  go_wp2_with fail
                  go_roundw
                  case rel => exact ⟨j2 + 1, M, k + 1, by go_num, rfl, by go_num, by omega, hlt, by omega, by omega, HG3.out, HB3.out, fun st d hd => (HT2.out st d hd).trans (Js.T_E_next _ b st _ j2 hlt H44.out)⟩
                  case measure => simp [intOf]; omega
                · have e3 : (((s[j2].toNat : Nat) : Int) != 44) = true := by rw [bne_iff_ne]; omega
                  have H44 := hidden h44
                  clear h44
                  go_wp2_with fail
                  refine (jBad_any (j2 : Int) j2 _ (by omega)).mono ?_
                  rintro e w9 ⟨rfl, hb9⟩
                  have hg9 : w9.heap[w.heap.size]? = some (.cells #[.int .i64 0, .bool false, .int .i64 0] 95 (0, 0)) := (hb9.block _ ((Array.getElem?_eq_some_iff.1 HG3.out).1)).trans HG3.out
                  obtain ⟨c0, f0, c1, f1, c2, f2⟩ := rv_open hg9
                  have HG9 := hidden hg9
                  have HQ9 := hidden (HB3.out.trans (hb9.mono HB3.out.size))
                  clear hb9 hg9
                  unfold rv
                  go_wp2_with fail
                  refine bodyPost_ret (results_cell_row rfl _ _ w.heap.size 95 #[.int .i64 (j2 : Nat), .bool false, .int .i64 0] (0, 0) _ rfl ?_ Tryz.underlying95 rfl sizeR) rfl ?_
                  · exact rv_cells HG9.out _ _ _
                  · exact ⟨.inr ⟨j2, rfl, fun st d hd => (HT2.out st d hd).trans (Js.T_E_no _ b st _ j2 hjs2 fun h => ⟨HBL2.out h, HC.out, H44.out⟩)⟩, rv_below HQ9.out (Nat.le_refl _) _ _ _⟩
            · have l1 : decide ((j2 : Int) < (s.size : Int)) = false := decide_eq_false (by omega)
              have l1n : decide (j2 < s.size) = false := decide_eq_false (by omega)
              have l2 : decide ((s.size : Int) ≤ (j2 : Int)) = true := decide_eq_true (by omega)
              have l2n : decide (s.size ≤ j2) = true := decide_eq_true (by omega)
              go_wp2_with fail
              refine (jBad_any (j2 : Int) j2 _ (by omega)).mono ?_
              rintro e w9 ⟨rfl, hb9⟩
              have hg9 : w9.heap[w.heap.size]? = some (.cells #[.int .i64 0, .bool false, .int .i64 0] 95 (0, 0)) := (hb9.block _ ((Array.getElem?_eq_some_iff.1 HG3.out).1)).trans HG3.out
              obtain ⟨c0, f0, c1, f1, c2, f2⟩ := rv_open hg9
              have HG9 := hidden hg9
              have HQ9 := hidden (HB3.out.trans (hb9.mono HB3.out.size))
              clear hb9 hg9
              unfold rv
              go_wp2_with fail
              refine bodyPost_ret (results_cell_row rfl _ _ w.heap.size 95 #[.int .i64 (j2 : Nat), .bool false, .int .i64 0] (0, 0) _ rfl ?_ Tryz.underlying95 rfl sizeR) rfl ?_
              · exact rv_cells HG9.out _ _ _
              · exact ⟨.inr ⟨j2, rfl, fun st d hd => (HT2.out st d hd).trans (Js.T_E_no _ b st _ j2 hjs2 fun h => absurd h hlt)⟩, rv_below HQ9.out (Nat.le_refl _) _ _ _⟩
        · have H5 := hidden h5
          have hg2 : w2.heap[w.heap.size]? = some (.cells #[.int .i64 0, .bool false, .int .i64 0] 95 (0, 0)) := (hb2.block _ ((Array.getElem?_eq_some_iff.1 HG.out).1)).trans HG.out
          have HG2 := hidden hg2
          have HB2 := hidden (HB.out.trans (hb2.mono HB.out.size))
          have hsz2 := HB2.out.size
          have hg9 : (w2.alloc (Obj.cells #[.int .i64 (q : Nat), .bool false, .int .i64 0] 95)).heap[w.heap.size]? = some (.cells #[.int .i64 0, .bool false, .int .i64 0] 95 (0, 0)) := (((Below.refl _ w2).alloc (Nat.le_refl _) _).block _ ((Array.getElem?_eq_some_iff.1 hg2).1)).trans hg2
          obtain ⟨c0, f0, c1, f1, c2, f2⟩ := rv_open hg9
          have HG9 := hidden hg9
          unfold rv
          clear hb2 h5 hg2 hg9
          go_wp2_with fail
          refine bodyPost_ret (results_cell_row rfl _ _ w.heap.size 95 #[.int .i64 (q : Nat), .bool false, .int .i64 0] (0, 0) _ rfl ?_ Tryz.underlying95 rfl sizeR) rfl ?_
          · exact rv_cells HG9.out _ _ _
          · exact ⟨.inr ⟨q, rfl, fun st d hd => (HT.out st d hd).trans (H5.out (b :: st) _ (by show st.length + 1 ≤ _; omega))⟩, rv_below (HB2.out.alloc hsz2 _) (Nat.le_refl _) _ _ _⟩
    · have l0 : decide ((j : Int) < (s.size : Int)) = false := decide_eq_false (by omega)
      have l0n : decide (j < s.size) = false := decide_eq_false (by omega)
      go_wp2_with fail
      refine HKJ.out _ _ ?_
      clear HKJ l0 l0n
      go_wp2_with fail
      go_loopw [1, 7, 8] (fun v dv kv wr => ∃ a dp k : Nat, v = .int .i64 (a : Nat) ∧ dv = .int .i64 (dp : Nat) ∧ kv = .int .i64 (k : Nat) ∧ i ≤ a ∧ a ≤ s.size ∧ dp + i ≤ a ∧ k ≤ a ∧ wr.heap[w.heap.size]? = some (.cells #[.int .i64 0, .bool false, .int .i64 0] 95 (0, 0)) ∧ Below w.heap.size w wr ∧ ∀ st d, st.length + 1 ≤ d → Js.T s.data.toList (Js.cB b (b :: st) d) i = Js.T s.data.toList (Js.cI b (b :: st) (max d (st.length + 1 + dp))) a) (fun v _ _ _ => s.size - (intOf v).toNat)
      case atStart => exact ⟨j, 0, 0, rfl, rfl, rfl, hij, hjs, by omega, by omega, HG.out, HB.out, start.out⟩
      case round =>
        clear start main HBL HT HG HB hij hjs
        obtain ⟨a, dp, k, rfl, rfl, rfl, hia, has, hdp, hk, hg, hb, hT⟩ := hrel
        have HG := hidden hg
        have HB := hidden hb
        have HT := hidden hT
        clear hg hb hT
        have lk : decide ((k : Int) ≤ (s.size : Int)) = true := decide_eq_true (by omega)
        have lkn : decide (k ≤ s.size) = true := decide_eq_true (by omega)
        go_wp2_with fail
        refine (HI.out a _ hia has).mono ?_
        rintro e w2 ⟨⟨q, D, rfl, h1, h2, h4, -, h5⟩ | ⟨q, rfl, h5⟩, hb2⟩
        · have H5 := hidden h5
          have hg2 : w2.heap[w.heap.size]? = some (.cells #[.int .i64 0, .bool false, .int .i64 0] 95 (0, 0)) := (hb2.block _ ((Array.getElem?_eq_some_iff.1 HG.out).1)).trans HG.out
          have HG2 := hidden hg2
          have HB2 := hidden (HB.out.trans (hb2.mono HB.out.size))
          have hsz2 := HB2.out.size
          have hg3 : (w2.alloc (Obj.cells #[.int .i64 (q : Nat), .bool true, .int .i64 (D : Nat)] 95)).heap[w.heap.size]? = some (.cells #[.int .i64 0, .bool false, .int .i64 0] 95 (0, 0)) := (((Below.refl _ w2).alloc (Nat.le_refl _) _).block _ ((Array.getElem?_eq_some_iff.1 hg2).1)).trans hg2
          have HG3 := hidden hg3
          have HB3 := hidden (HB2.out.alloc hsz2 (Obj.cells #[.int .i64 (q : Nat), .bool true, .int .i64 (D : Nat)] 95))
          obtain ⟨M, hM⟩ : ∃ M, M = max dp D := ⟨_, rfl⟩
          have HMM := hidden hM
          unfold rv
          clear hb2 h5 hg2 hg3
          by_cases hDd : D ≤ dp
          · obtain rfl : M = dp := by omega
            clear hM
            go_wp2_with fail
            refine (jBlanks_any s q _ hs h2).mono ?_
            rintro e w3 ⟨⟨j2, rfl, hqj, hjs2, hbl2, hT2⟩, hw3⟩
            have hw3 := hw3.symm
            subst hw3
            have HT2 := hidden (Js.many_end HT.out H5.out hT2 HMM.out)
            have HBL2 := hidden hbl2
            clear hT2 hbl2
            by_cases hlt : j2 < s.size
            · have l1 : decide ((j2 : Int) < (s.size : Int)) = true := decide_eq_true (by omega)
              have l1n : decide (j2 < s.size) = true := decide_eq_true (by omega)
              have l2 : decide ((s.size : Int) ≤ (j2 : Int)) = false := decide_eq_false (by omega)
              have l2n : decide (s.size ≤ j2) = false := decide_eq_false (by omega)
              by_cases hcg : s[j2].toNat = g
              · have e1 : (((s[j2].toNat : Nat) : Int) == (g : Int)) = true := by rw [hcg]; exact beq_self_eq_true _
                have e2 : (s[j2].toNat == g) = true := by rw [hcg]; exact beq_self_eq_true _
                have HC : Hid (s[j2].toNat = Js.gE b) := hidden (hcg.trans HGE.out)
                obtain ⟨c0, f0, c1, f1, c2, f2⟩ := rv_open HG3.out
                clear hcg
                go_wp2_with fail
                refine bodyPost_ret (results_cell_row rfl _ _ w.heap.size 95 #[.int .i64 (j2 + 1 : Nat), .bool true, .int .i64 ((M + 1 : Nat) : Int)] (0, 0) _ rfl ?_ Tryz.underlying95 rfl sizeR) rfl ?_
                · exact rv_cells HG3.out _ _ _
                · exact ⟨.inl ⟨j2 + 1, M + 1, rfl, by omega, hlt, by omega, by omega, Js.nb_close (l := s.data.toList) hlt HC.out, fun st d hd => (HT2.out st d hd).trans ((Js.T_E_end _ b st _ j2 hlt HC.out).trans (by rw [show st.length + 1 + M = st.length + (M + 1) by omega]))⟩, rv_below HB3.out (Nat.le_refl _) _ _ _⟩
              · have e1 : (((s[j2].toNat : Nat) : Int) == (g : Int)) = false := by rw [beq_eq_false_iff_ne]; omega
                have e2 : (s[j2].toNat == g) = false := by rw [beq_eq_false_iff_ne]; exact hcg
                have HC : Hid (s[j2].toNat ≠ Js.gE b) := hidden (fun h => hcg (h.trans HGE.out.symm))
                clear hcg
                by_cases h44 : s[j2].toNat = 44
                · have e3 : (((s[j2].toNat : Nat) : Int) != 44) = false := by rw [h44]; rfl
                  have H44 := hidden h44
                  clear h44
                  go_wp2_with fail
                  go_roundw
                  case rel => exact ⟨j2 + 1, M, k + 1, by go_num, rfl, by go_num, by omega, hlt, by omega, by omega, HG3.out, HB3.out, fun st d hd => (HT2.out st d hd).trans (Js.T_E_next _ b st _ j2 hlt H44.out)⟩
                  case measure => simp [intOf]; omega
                · have e3 : (((s[j2].toNat : Nat) : Int) != 44) = true := by rw [bne_iff_ne]; omega
                  have H44 := hidden h44
                  clear h44
                  go_wp2_with fail
                  refine (jBad_any (j2 : Int) j2 _ (by omega)).mono ?_
                  rintro e w9 ⟨rfl, hb9⟩
                  have hg9 : w9.heap[w.heap.size]? = some (.cells #[.int .i64 0, .bool false, .int .i64 0] 95 (0, 0)) := (hb9.block _ ((Array.getElem?_eq_some_iff.1 HG3.out).1)).trans HG3.out
                  obtain ⟨c0, f0, c1, f1, c2, f2⟩ := rv_open hg9
                  have HG9 := hidden hg9
                  have HQ9 := hidden (HB3.out.trans (hb9.mono HB3.out.size))
                  clear hb9 hg9
                  unfold rv
                  go_wp2_with fail
                  refine bodyPost_ret (results_cell_row rfl _ _ w.heap.size 95 #[.int .i64 (j2 : Nat), .bool false, .int .i64 0] (0, 0) _ rfl ?_ Tryz.underlying95 rfl sizeR) rfl ?_
                  · exact rv_cells HG9.out _ _ _
                  · exact ⟨.inr ⟨j2, rfl, fun st d hd => (HT2.out st d hd).trans (Js.T_E_no _ b st _ j2 hjs2 fun h => ⟨HBL2.out h, HC.out, H44.out⟩)⟩, rv_below HQ9.out (Nat.le_refl _) _ _ _⟩
            · have l1 : decide ((j2 : Int) < (s.size : Int)) = false := decide_eq_false (by omega)
              have l1n : decide (j2 < s.size) = false := decide_eq_false (by omega)
              have l2 : decide ((s.size : Int) ≤ (j2 : Int)) = true := decide_eq_true (by omega)
              have l2n : decide (s.size ≤ j2) = true := decide_eq_true (by omega)
              go_wp2_with fail
              refine (jBad_any (j2 : Int) j2 _ (by omega)).mono ?_
              rintro e w9 ⟨rfl, hb9⟩
              have hg9 : w9.heap[w.heap.size]? = some (.cells #[.int .i64 0, .bool false, .int .i64 0] 95 (0, 0)) := (hb9.block _ ((Array.getElem?_eq_some_iff.1 HG3.out).1)).trans HG3.out
              obtain ⟨c0, f0, c1, f1, c2, f2⟩ := rv_open hg9
              have HG9 := hidden hg9
              have HQ9 := hidden (HB3.out.trans (hb9.mono HB3.out.size))
              clear hb9 hg9
              unfold rv
              go_wp2_with fail
              refine bodyPost_ret (results_cell_row rfl _ _ w.heap.size 95 #[.int .i64 (j2 : Nat), .bool false, .int .i64 0] (0, 0) _ rfl ?_ Tryz.underlying95 rfl sizeR) rfl ?_
              · exact rv_cells HG9.out _ _ _
              · exact ⟨.inr ⟨j2, rfl, fun st d hd => (HT2.out st d hd).trans (Js.T_E_no _ b st _ j2 hjs2 fun h => absurd h hlt)⟩, rv_below HQ9.out (Nat.le_refl _) _ _ _⟩
          · obtain rfl : M = D := by omega
            clear hM
            go_wp2_with fail
            refine (jBlanks_any s q _ hs h2).mono ?_
            rintro e w3 ⟨⟨j2, rfl, hqj, hjs2, hbl2, hT2⟩, hw3⟩
            have hw3 := hw3.symm
            subst hw3
            have HT2 := hidden (Js.many_end HT.out H5.out hT2 HMM.out)
            have HBL2 := hidden hbl2
            clear hT2 hbl2
            by_cases hlt : j2 < s.size
            · have l1 : decide ((j2 : Int) < (s.size : Int)) = true := decide_eq_true (by omega)
              have l1n : decide (j2 < s.size) = true := decide_eq_true (by omega)
              have l2 : decide ((s.size : Int) ≤ (j2 : Int)) = false := decide_eq_false (by omega)
              have l2n : decide (s.size ≤ j2) = false := decide_eq_false (by omega)
              by_cases hcg : s[j2].toNat = g
              · have e1 : (((s[j2].toNat : Nat) : Int) == (g : Int)) = true := by rw [hcg]; exact beq_self_eq_true _
                have e2 : (s[j2].toNat == g) = true := by rw [hcg]; exact beq_self_eq_true _
                have HC : Hid (s[j2].toNat = Js.gE b) := hidden (hcg.trans HGE.out)
                obtain ⟨c0, f0, c1, f1, c2, f2⟩ := rv_open HG3.out
                clear hcg
                go_wp2_with fail
                refine bodyPost_ret (results_cell_row rfl _ _ w.heap.size 95 #[.int .i64 (j2 + 1 : Nat), .bool true, .int .i64 ((M + 1 : Nat) : Int)] (0, 0) _ rfl ?_ Tryz.underlying95 rfl sizeR) rfl ?_
                · exact rv_cells HG3.out _ _ _
                · exact ⟨.inl ⟨j2 + 1, M + 1, rfl, by omega, hlt, by omega, by omega, Js.nb_close (l := s.data.toList) hlt HC.out, fun st d hd => (HT2.out st d hd).trans ((Js.T_E_end _ b st _ j2 hlt HC.out).trans (by rw [show st.length + 1 + M = st.length + (M + 1) by omega]))⟩, rv_below HB3.out (Nat.le_refl _) _ _ _⟩
              · have e1 : (((s[j2].toNat : Nat) : Int) == (g : Int)) = false := by rw [beq_eq_false_iff_ne]; omega
                have e2 : (s[j2].toNat == g) = false := by rw [beq_eq_false_iff_ne]; exact hcg
                have HC : Hid (s[j2].toNat ≠ Js.gE b) := hidden (fun h => hcg (h.trans HGE.out.symm))
                clear hcg
                by_cases h44 : s[j2].toNat = 44
                · have e3 : (((s[j2].toNat : Nat) : Int) != 44) = false := by rw [h44]; rfl
                  have H44 := hidden h44
                  clear h44
                  go_wp2_with fail
                  go_roundw
                  case rel => exact ⟨j2 + 1, M, k + 1, by go_num, rfl, by go_num, by omega, hlt, by omega, by omega, HG3.out, HB3.out, fun st d hd => (HT2.out st d hd).trans (Js.T_E_next _ b st _ j2 hlt H44.out)⟩
                  case measure => simp [intOf]; omega
                · have e3 : (((s[j2].toNat : Nat) : Int) != 44) = true := by rw [bne_iff_ne]; omega
                  have H44 := hidden h44
                  clear h44
                  go_wp2_with fail
                  refine (jBad_any (j2 : Int) j2 _ (by omega)).mono ?_
                  rintro e w9 ⟨rfl, hb9⟩
                  have hg9 : w9.heap[w.heap.size]? = some (.cells #[.int .i64 0, .bool false, .int .i64 0] 95 (0, 0)) := (hb9.block _ ((Array.getElem?_eq_some_iff.1 HG3.out).1)).trans HG3.out
                  obtain ⟨c0, f0, c1, f1, c2, f2⟩ := rv_open hg9
                  have HG9 := hidden hg9
                  have HQ9 := hidden (HB3.out.trans (hb9.mono HB3.out.size))
                  clear hb9 hg9
                  unfold rv
                  go_wp2_with fail
                  refine bodyPost_ret (results_cell_row rfl _ _ w.heap.size 95 #[.int .i64 (j2 : Nat), .bool false, .int .i64 0] (0, 0) _ rfl ?_ Tryz.underlying95 rfl sizeR) rfl ?_
                  · exact rv_cells HG9.out _ _ _
                  · exact ⟨.inr ⟨j2, rfl, fun st d hd => (HT2.out st d hd).trans (Js.T_E_no _ b st _ j2 hjs2 fun h => ⟨HBL2.out h, HC.out, H44.out⟩)⟩, rv_below HQ9.out (Nat.le_refl _) _ _ _⟩
            · have l1 : decide ((j2 : Int) < (s.size : Int)) = false := decide_eq_false (by omega)
              have l1n : decide (j2 < s.size) = false := decide_eq_false (by omega)
              have l2 : decide ((s.size : Int) ≤ (j2 : Int)) = true := decide_eq_true (by omega)
              have l2n : decide (s.size ≤ j2) = true := decide_eq_true (by omega)
              go_wp2_with fail
              refine (jBad_any (j2 : Int) j2 _ (by omega)).mono ?_
              rintro e w9 ⟨rfl, hb9⟩
              have hg9 : w9.heap[w.heap.size]? = some (.cells #[.int .i64 0, .bool false, .int .i64 0] 95 (0, 0)) := (hb9.block _ ((Array.getElem?_eq_some_iff.1 HG3.out).1)).trans HG3.out
              obtain ⟨c0, f0, c1, f1, c2, f2⟩ := rv_open hg9
              have HG9 := hidden hg9
              have HQ9 := hidden (HB3.out.trans (hb9.mono HB3.out.size))
              clear hb9 hg9
              unfold rv
              go_wp2_with fail
              refine bodyPost_ret (results_cell_row rfl _ _ w.heap.size 95 #[.int .i64 (j2 : Nat), .bool false, .int .i64 0] (0, 0) _ rfl ?_ Tryz.underlying95 rfl sizeR) rfl ?_
              · exact rv_cells HG9.out _ _ _
              · exact ⟨.inr ⟨j2, rfl, fun st d hd => (HT2.out st d hd).trans (Js.T_E_no _ b st _ j2 hjs2 fun h => absurd h hlt)⟩, rv_below HQ9.out (Nat.le_refl _) _ _ _⟩
        · have H5 := hidden h5
          have hg2 : w2.heap[w.heap.size]? = some (.cells #[.int .i64 0, .bool false, .int .i64 0] 95 (0, 0)) := (hb2.block _ ((Array.getElem?_eq_some_iff.1 HG.out).1)).trans HG.out
          have HG2 := hidden hg2
          have HB2 := hidden (HB.out.trans (hb2.mono HB.out.size))
          have hsz2 := HB2.out.size
          have hg9 : (w2.alloc (Obj.cells #[.int .i64 (q : Nat), .bool false, .int .i64 0] 95)).heap[w.heap.size]? = some (.cells #[.int .i64 0, .bool false, .int .i64 0] 95 (0, 0)) := (((Below.refl _ w2).alloc (Nat.le_refl _) _).block _ ((Array.getElem?_eq_some_iff.1 hg2).1)).trans hg2
          obtain ⟨c0, f0, c1, f1, c2, f2⟩ := rv_open hg9
          have HG9 := hidden hg9
          unfold rv
          clear hb2 h5 hg2 hg9
          go_wp2_with fail
          refine bodyPost_ret (results_cell_row rfl _ _ w.heap.size 95 #[.int .i64 (q : Nat), .bool false, .int .i64 0] (0, 0) _ rfl ?_ Tryz.underlying95 rfl sizeR) rfl ?_
          · exact rv_cells HG9.out _ _ _
          · exact ⟨.inr ⟨q, rfl, fun st d hd => (HT.out st d hd).trans (H5.out (b :: st) _ (by show st.length + 1 ≤ _; omega))⟩, rv_below (HB2.out.alloc hsz2 _) (Nat.le_refl _) _ _ _⟩
end Go.Proofs.YtoipliflphbeiaaGreatDoor
namespace Go.Proofs.YtoipliflphbeiaaGreatDoor
open Go.RowKit
theorem colon_post {s : ByteArray} {j : Nat} {e : Ending} (h : WdPost s ⟨#[58]⟩ j e) : (e = .returned (rv (j + 1) true 0) ∧ ∃ h : j < s.size, s[j].toNat = 58) ∨ (e = .returned (rv j false 0) ∧ ∀ h : j < s.size, s[j].toNat ≠ 58) := by
  rcases h with ⟨h1, h2, h3⟩ | ⟨k, hk, h1, h2, h3, h4⟩
  · exact .inl ⟨h1, h3 0 (by decide)⟩
  · obtain rfl : k = 0 := by
      have : k < 1 := hk
      omega
    exact .inr ⟨h1, fun h => h4 h⟩
theorem VPost.item {s : ByteArray} {i j : Nat} {e : Ending} (h : VPost s (j + 1) e) (hij : i ≤ j) (hk : ∀ st d, Js.T s.data.toList (Js.cI true st d) i = Js.T s.data.toList (Js.cC st d) j) (hj : j < s.size) (h58 : s[j].toNat = 58) : IPost s true i e := by
  rcases h with ⟨q, D, h1, h2, h3, h4, hn, h5⟩ | ⟨q, h1, h2⟩
  · exact .inl ⟨q, D, h1, by omega, h3, by omega, hn, fun st d hd => (hk st d).trans ((Js.T_C_colon _ st d j hj h58).trans (h5 st d hd))⟩
  · exact .inr ⟨q, h1, fun st d hd => (hk st d).trans ((Js.T_C_colon _ st d j hj h58).trans (h2 st d hd))⟩
set_option maxRecDepth 100000 in
set_option maxHeartbeats 4000000 in
theorem jItem_step (s : ByteArray) (b : Bool) (i g : Nat) (w : World) (hs : s.size ≤ 1000000) (hi : i ≤ s.size) (hg : g = Js.gE b)
    (hV : ∀ a w, i ≤ a → a ≤ s.size → Calls Tryz.prog 98 #[.string s, .int .i64 ((a : Nat) : Int)] w fun e w' => VPost s a e ∧ Below w.heap.size w w') :
    Calls Tryz.prog 165 #[.string s, .int .i64 (i : Nat), .int .u8 (g : Nat)] w fun e w' => IPost s b i e ∧ Below w.heap.size w w' := by
  have HG : Hid ((w.alloc (Obj.cells #[.int .i64 0, .bool false, .int .i64 0] 95)).heap[w.heap.size]? = some (.cells #[.int .i64 0, .bool false, .int .i64 0] 95 (0, 0))) := heap_alloc_new _ _
  have HB : Hid (Below w.heap.size w (w.alloc (Obj.cells #[.int .i64 0, .bool false, .int .i64 0] 95))) := (Below.refl _ _).alloc (Nat.le_refl _) _
  have HVV := hidden hV
  clear hV
  cases b with
  | false =>
    have e0 : ((g : Int) == 93) = true := by rw [hg]; rfl
    have e0n : (g == 93) = true := by rw [hg]; rfl
    clear hg
    go_enter Tryz.func165, Tryz.ntmps165
    go_wp2_with fail
    refine (HVV.out i _ (Nat.le_refl _) hi).mono ?_
    rintro e w9 ⟨hp, hb9⟩
    have hv : VPost s i e := hp
    obtain ⟨q, ok, D, rfl⟩ := hv.rv
    have HV := hidden hv
    have hg9 : w9.heap[w.heap.size]? = some (.cells #[.int .i64 0, .bool false, .int .i64 0] 95 (0, 0)) := (hb9.block _ ((Array.getElem?_eq_some_iff.1 HG.out).1)).trans HG.out
    obtain ⟨c0, f0, c1, f1, c2, f2⟩ := rv_open hg9
    have HG9 := hidden hg9
    have HQ9 := hidden (HB.out.trans (hb9.mono HB.out.size))
    clear hp hv hb9 hg9
    unfold rv
    go_wp2_with fail
    refine bodyPost_ret (results_cell_row rfl _ _ w.heap.size 95 #[.int .i64 (q : Nat), .bool ok, .int .i64 (D : Nat)] (0, 0) _ rfl ?_ Tryz.underlying95 rfl sizeR) rfl ?_
    · exact rv_cells HG9.out _ _ _
    · exact ⟨HV.out, rv_below HQ9.out (Nat.le_refl _) _ _ _⟩
  | true =>
    have e0 : ((g : Int) == 93) = false := by rw [hg]; rfl
    have e0n : (g == 93) = false := by rw [hg]; rfl
    clear hg
    go_enter Tryz.func165, Tryz.ntmps165
    go_wp2_with fail
    refine (jBlanks_any s i _ hs hi).mono ?_
    rintro e w1 ⟨⟨j, rfl, hij, hjs, hbl, hT⟩, hw⟩
    have hw := hw.symm
    subst hw
    have HT := hidden hT
    have HBL := hidden hbl
    clear hT hbl
    by_cases h34 : ∃ h : j < s.size, s[j].toNat = 34
    · obtain ⟨hlt, h34⟩ := h34
      have H34 := hidden h34
      clear h34
      go_wp2_with fail
      refine (jStr_in s j _ hs hlt H34.out).mono ?_
      rintro e w2 ⟨⟨q, rfl, h1, h2, -, h3⟩ | ⟨q, rfl, h3⟩, hb2⟩
      · have H3 := hidden h3
        clear h3
        have hg2 : w2.heap[w.heap.size]? = some (.cells #[.int .i64 0, .bool false, .int .i64 0] 95 (0, 0)) := (hb2.block _ ((Array.getElem?_eq_some_iff.1 HG.out).1)).trans HG.out
        have HB2 := hidden (HB.out.trans (hb2.mono HB.out.size))
        have hsz2 := HB2.out.size
        have hg2a : (w2.alloc (Obj.cells #[.int .i64 (q : Nat), .bool true, .int .i64 0] 95)).heap[w.heap.size]? = some (.cells #[.int .i64 0, .bool false, .int .i64 0] 95 (0, 0)) := (((Below.refl _ w2).alloc (Nat.le_refl _) _).block _ ((Array.getElem?_eq_some_iff.1 hg2).1)).trans hg2
        have HG2a := hidden hg2a
        have HB2a := hidden (HB2.out.alloc hsz2 (Obj.cells #[.int .i64 (q : Nat), .bool true, .int .i64 0] 95))
        unfold rv
        clear hb2 hg2 hg2a
        go_wp2_with fail
        refine (jBlanks_any s q _ hs h2).mono ?_
        rintro e w3 ⟨⟨j2, rfl, hqj, hjs2, hbl2, hT2⟩, hw3⟩
        have hw3 := hw3.symm
        subst hw3
        have HT2 := hidden hT2
        have HBL2 := hidden hbl2
        clear hT2 hbl2
        have HK : Hid (∀ st d, Js.T s.data.toList (Js.cI true st d) i = Js.T s.data.toList (Js.cC st d) j2) := hidden fun st d => (HT.out _ (Js.sp_I true st d)).trans ((Js.T_K_str _ st d j hlt H34.out).trans ((H3.out true st d).trans (HT2.out _ (Js.sp_C st d))))
        go_wp2_with fail
        refine (jWord_any s ⟨#[58]⟩ j2 _ hs (by decide) hjs2).mono ?_
        rintro e w4 ⟨hp, hb4⟩
        rcases colon_post hp with ⟨rfl, hlt2, h58⟩ | ⟨rfl, h58⟩
        · have H58 := hidden h58
          clear hp h58
          have hg4 : w4.heap[w.heap.size]? = some (.cells #[.int .i64 0, .bool false, .int .i64 0] 95 (0, 0)) := (hb4.block _ ((Array.getElem?_eq_some_iff.1 HG2a.out).1)).trans HG2a.out
          have HB4 := hidden (HB2a.out.trans (hb4.mono HB2a.out.size))
          have hsz4 := HB4.out.size
          have hg4a : (w4.alloc (Obj.cells #[.int .i64 ((j2 + 1) : Nat), .bool true, .int .i64 0] 95)).heap[w.heap.size]? = some (.cells #[.int .i64 0, .bool false, .int .i64 0] 95 (0, 0)) := (((Below.refl _ w4).alloc (Nat.le_refl _) _).block _ ((Array.getElem?_eq_some_iff.1 hg4).1)).trans hg4
          have HG4a := hidden hg4a
          have HB4a := hidden (HB4.out.alloc hsz4 (Obj.cells #[.int .i64 ((j2 + 1) : Nat), .bool true, .int .i64 0] 95))
          unfold rv
          clear hb4 hg4 hg4a
          go_wp2_with fail
          refine (HVV.out (j2 + 1) _ (by omega) hlt2).mono ?_
          rintro e w9 ⟨hp, hb9⟩
          have hv : VPost s (j2 + 1) e := hp
          obtain ⟨q, ok, D, rfl⟩ := hv.rv
          have HV := hidden hv
          have hg9 : w9.heap[w.heap.size]? = some (.cells #[.int .i64 0, .bool false, .int .i64 0] 95 (0, 0)) := (hb9.block _ ((Array.getElem?_eq_some_iff.1 HG4a.out).1)).trans HG4a.out
          obtain ⟨c0, f0, c1, f1, c2, f2⟩ := rv_open hg9
          have HG9 := hidden hg9
          have HQ9 := hidden (HB4a.out.trans (hb9.mono HB4a.out.size))
          clear hp hv hb9 hg9
          unfold rv
          go_wp2_with fail
          refine bodyPost_ret (results_cell_row rfl _ _ w.heap.size 95 #[.int .i64 (q : Nat), .bool ok, .int .i64 (D : Nat)] (0, 0) _ rfl ?_ Tryz.underlying95 rfl sizeR) rfl ?_
          · exact rv_cells HG9.out _ _ _
          · exact ⟨VPost.item HV.out (by omega) HK.out hlt2 H58.out, rv_below HQ9.out (Nat.le_refl _) _ _ _⟩
        · have H58 := hidden h58
          clear hp h58
          have hg4 : w4.heap[w.heap.size]? = some (.cells #[.int .i64 0, .bool false, .int .i64 0] 95 (0, 0)) := (hb4.block _ ((Array.getElem?_eq_some_iff.1 HG2a.out).1)).trans HG2a.out
          have HB4 := hidden (HB2a.out.trans (hb4.mono HB2a.out.size))
          have hsz4 := HB4.out.size
          have hg4a : (w4.alloc (Obj.cells #[.int .i64 (j2 : Nat), .bool false, .int .i64 0] 95)).heap[w.heap.size]? = some (.cells #[.int .i64 0, .bool false, .int .i64 0] 95 (0, 0)) := (((Below.refl _ w4).alloc (Nat.le_refl _) _).block _ ((Array.getElem?_eq_some_iff.1 hg4).1)).trans hg4
          have HG4a := hidden hg4a
          have HB4a := hidden (HB4.out.alloc hsz4 (Obj.cells #[.int .i64 (j2 : Nat), .bool false, .int .i64 0] 95))
          unfold rv
          clear hb4 hg4 hg4a
          obtain ⟨c0, f0, c1, f1, c2, f2⟩ := rv_open HG4a.out
          go_wp2_with fail
          refine bodyPost_ret (results_cell_row rfl _ _ w.heap.size 95 #[.int .i64 (j2 : Nat), .bool false, .int .i64 0] (0, 0) _ rfl ?_ Tryz.underlying95 rfl sizeR) rfl ?_
          · exact rv_cells HG4a.out _ _ _
          · exact ⟨.inr ⟨j2, rfl, fun st d hd => (HK.out st d).trans (Js.T_C_no _ st d j2 hjs2 fun h => ⟨HBL2.out h, H58.out h⟩)⟩, rv_below HB4a.out (Nat.le_refl _) _ _ _⟩
      · have H3 := hidden h3
        clear h3
        have hg2 : w2.heap[w.heap.size]? = some (.cells #[.int .i64 0, .bool false, .int .i64 0] 95 (0, 0)) := (hb2.block _ ((Array.getElem?_eq_some_iff.1 HG.out).1)).trans HG.out
        have HB2 := hidden (HB.out.trans (hb2.mono HB.out.size))
        have hsz2 := HB2.out.size
        have hg2a : (w2.alloc (Obj.cells #[.int .i64 (q : Nat), .bool false, .int .i64 0] 95)).heap[w.heap.size]? = some (.cells #[.int .i64 0, .bool false, .int .i64 0] 95 (0, 0)) := (((Below.refl _ w2).alloc (Nat.le_refl _) _).block _ ((Array.getElem?_eq_some_iff.1 hg2).1)).trans hg2
        have HG2a := hidden hg2a
        have HB2a := hidden (HB2.out.alloc hsz2 (Obj.cells #[.int .i64 (q : Nat), .bool false, .int .i64 0] 95))
        unfold rv
        clear hb2 hg2 hg2a
        obtain ⟨c0, f0, c1, f1, c2, f2⟩ := rv_open HG2a.out
        go_wp2_with fail
        refine bodyPost_ret (results_cell_row rfl _ _ w.heap.size 95 #[.int .i64 (q : Nat), .bool false, .int .i64 0] (0, 0) _ rfl ?_ Tryz.underlying95 rfl sizeR) rfl ?_
        · exact rv_cells HG2a.out _ _ _
        · exact ⟨.inr ⟨q, rfl, fun st d hd => (HT.out _ (Js.sp_I true st d)).trans ((Js.T_K_str _ st d j hlt H34.out).trans (H3.out true st d))⟩, rv_below HB2a.out (Nat.le_refl _) _ _ _⟩
    · have HN : Hid (∀ h : j < s.size, s[j].toNat ≠ 34) := hidden fun h1 h2 => h34 ⟨h1, h2⟩
      clear h34
      go_wp2_with fail
      refine (jStr_no s j _ hjs HN.out).mono ?_
      rintro e w2 ⟨rfl, hb2⟩
      have hg2 : w2.heap[w.heap.size]? = some (.cells #[.int .i64 0, .bool false, .int .i64 0] 95 (0, 0)) := (hb2.block _ ((Array.getElem?_eq_some_iff.1 HG.out).1)).trans HG.out
      have HB2 := hidden (HB.out.trans (hb2.mono HB.out.size))
      have hsz2 := HB2.out.size
      have hg2a : (w2.alloc (Obj.cells #[.int .i64 (j : Nat), .bool false, .int .i64 0] 95)).heap[w.heap.size]? = some (.cells #[.int .i64 0, .bool false, .int .i64 0] 95 (0, 0)) := (((Below.refl _ w2).alloc (Nat.le_refl _) _).block _ ((Array.getElem?_eq_some_iff.1 hg2).1)).trans hg2
      have HG2a := hidden hg2a
      have HB2a := hidden (HB2.out.alloc hsz2 (Obj.cells #[.int .i64 (j : Nat), .bool false, .int .i64 0] 95))
      unfold rv
      clear hb2 hg2 hg2a
      obtain ⟨c0, f0, c1, f1, c2, f2⟩ := rv_open HG2a.out
      go_wp2_with fail
      refine bodyPost_ret (results_cell_row rfl _ _ w.heap.size 95 #[.int .i64 (j : Nat), .bool false, .int .i64 0] (0, 0) _ rfl ?_ Tryz.underlying95 rfl sizeR) rfl ?_
      · exact rv_cells HG2a.out _ _ _
      · exact ⟨.inr ⟨j, rfl, fun st d hd => (HT.out _ (Js.sp_I true st d)).trans (Js.T_K_no _ st d j hjs fun h => ⟨HBL.out h, HN.out h⟩)⟩, rv_below HB2a.out (Nat.le_refl _) _ _ _⟩
theorem jValue_upto (s : ByteArray) (hs : s.size ≤ 1000000) (n : Nat) : ∀ i w, i ≤ s.size → s.size - i < n → Calls Tryz.prog 98 #[.string s, .int .i64 (i : Nat)] w fun e w' => VPost s i e ∧ Below w.heap.size w w' := by
  induction n with
  | zero => exact fun i w _ h => absurd h (Nat.not_lt_zero _)
  | succ n ih =>
    intro i w hi hn
    refine jValue_step s i w hs hi fun b i' w hi' hs' => ?_
    refine jMany_step s b i' (Js.gE b) w hs hs' rfl fun a w ha has => ?_
    exact jItem_step s b a (Js.gE b) w hs has rfl fun a2 w h2 h3 => ih a2 w h3 (by omega)
theorem jValue_any (s : ByteArray) (i : Nat) (w : World) (hs : s.size ≤ 1000000) (hi : i ≤ s.size) :
    Calls Tryz.prog 98 #[.string s, .int .i64 (i : Nat)] w fun e w' => VPost s i e ∧ Below w.heap.size w w' :=
  jValue_upto s hs _ i w hi (Nat.lt_succ_self _)
end Go.Proofs.YtoipliflphbeiaaGreatDoor
namespace Go.Proofs.YtoipliflphbeiaaGreatDoor
open Go.RowKit
/-- A whole text. -/
def TPost (s : ByteArray) (e : Ending) : Prop :=
  (∃ q D : Nat, e = .returned (rv q true D) ∧ D ≤ s.size ∧ (Js.out Js.c0 s.data.toList).1 = some D)
  ∨ ∃ q D : Nat, e = .returned (rv q false D) ∧ q ≤ s.size ∧ Js.out Js.c0 s.data.toList = (none, q)
set_option maxHeartbeats 2000000 in
theorem jText_any (s : ByteArray) (w : World) (hs : s.size ≤ 1000000) :
    Calls Tryz.prog 58 #[.string s] w fun e w' => TPost s e ∧ Below w.heap.size w w' := by
  have HG : Hid ((w.alloc (Obj.cells #[.int .i64 0, .bool false, .int .i64 0] 95)).heap[w.heap.size]? = some (.cells #[.int .i64 0, .bool false, .int .i64 0] 95 (0, 0))) := heap_alloc_new _ _
  have HB : Hid (Below w.heap.size w (w.alloc (Obj.cells #[.int .i64 0, .bool false, .int .i64 0] 95))) := (Below.refl _ _).alloc (Nat.le_refl _) _
  have hlen : s.data.toList.length = s.size := rfl
  have HLEN := hidden hlen
  clear hlen
  go_enter Tryz.func58, Tryz.ntmps58
  go_wp2_with fail
  refine (jValue_any s 0 _ hs (Nat.zero_le _)).mono ?_
  rintro e w2 ⟨⟨q, D, rfl, h1, h2, h4, -, h5⟩ | ⟨q, rfl, h5⟩, hb2⟩
  · have H5 : Hid (Js.out Js.c0 s.data.toList = Js.T s.data.toList (Js.cE [] D) q) := hidden (by
      have := h5 [] 0 (Nat.le_refl _)
      rw [show max 0 (([] : List Bool).length + D) = D by show max 0 (0 + D) = D; omega] at this
      exact this)
    clear h5
    have hg2 : w2.heap[w.heap.size]? = some (.cells #[.int .i64 0, .bool false, .int .i64 0] 95 (0, 0)) := (hb2.block _ ((Array.getElem?_eq_some_iff.1 HG.out).1)).trans HG.out
    have HB2 := hidden (HB.out.trans (hb2.mono HB.out.size))
    have hsz2 := HB2.out.size
    have hg2a : (w2.alloc (Obj.cells #[.int .i64 (q : Nat), .bool true, .int .i64 (D : Nat)] 95)).heap[w.heap.size]? = some (.cells #[.int .i64 0, .bool false, .int .i64 0] 95 (0, 0)) := (((Below.refl _ w2).alloc (Nat.le_refl _) _).block _ ((Array.getElem?_eq_some_iff.1 hg2).1)).trans hg2
    have HG2a := hidden hg2a
    have HB2a := hidden (HB2.out.alloc hsz2 (Obj.cells #[.int .i64 (q : Nat), .bool true, .int .i64 (D : Nat)] 95))
    unfold rv
    clear hb2 hg2 hg2a
    go_wp2_with fail
    refine (jBlanks_any s q _ hs h2).mono ?_
    rintro e w3 ⟨⟨j, rfl, hqj, hjs, hbl, hT⟩, hw3⟩
    have hw3 := hw3.symm
    subst hw3
    have HT := hidden (hT _ (Js.sp_E [] D))
    have HBL := hidden hbl
    clear hT hbl
    by_cases hlt : j < s.size
    · have e1 : ((j : Int) == (s.size : Int)) = false := by rw [beq_eq_false_iff_ne]; omega
      have e1n : (j == s.size) = false := by rw [beq_eq_false_iff_ne]; omega
      obtain ⟨c0, f0, c1, f1, c2, f2⟩ := rv_open HG2a.out
      go_wp2_with fail
      refine bodyPost_ret (results_cell_row rfl _ _ w.heap.size 95 #[.int .i64 (j : Nat), .bool false, .int .i64 (D : Nat)] (0, 0) _ rfl ?_ Tryz.underlying95 rfl sizeR) rfl ?_
      · exact rv_cells HG2a.out _ _ _
      · exact ⟨.inr ⟨j, D, rfl, hjs, H5.out.trans (HT.out.trans (Js.text_no _ D j hlt (HBL.out hlt)))⟩, rv_below HB2a.out (Nat.le_refl _) _ _ _⟩
    · have hj : j = s.size := by omega
      have e1 : ((j : Int) == (s.size : Int)) = true := by rw [hj]; exact beq_self_eq_true _
      have e1n : (j == s.size) = true := by rw [hj]; exact beq_self_eq_true _
      have HJ := hidden hj
      clear hj
      obtain ⟨c0, f0, c1, f1, c2, f2⟩ := rv_open HG2a.out
      go_wp2_with fail
      refine bodyPost_ret (results_cell_row rfl _ _ w.heap.size 95 #[.int .i64 (j : Nat), .bool true, .int .i64 (D : Nat)] (0, 0) _ rfl ?_ Tryz.underlying95 rfl sizeR) rfl ?_
      · exact rv_cells HG2a.out _ _ _
      · exact ⟨.inl ⟨j, D, rfl, by omega, by rw [H5.out, HT.out, Js.text_end _ D j (HLEN.out.trans HJ.out.symm)]⟩, rv_below HB2a.out (Nat.le_refl _) _ _ _⟩
  · have H5 : Hid (Js.out Js.c0 s.data.toList = (none, q)) := hidden (h5 [] 0 (Nat.le_refl _))
    have hq : q ≤ s.size := by
      have := Js.out_le s.data.toList Js.c0
      rw [H5.out] at this
      exact this
    clear h5
    have hg2 : w2.heap[w.heap.size]? = some (.cells #[.int .i64 0, .bool false, .int .i64 0] 95 (0, 0)) := (hb2.block _ ((Array.getElem?_eq_some_iff.1 HG.out).1)).trans HG.out
    have HB2 := hidden (HB.out.trans (hb2.mono HB.out.size))
    have hsz2 := HB2.out.size
    have hg2a : (w2.alloc (Obj.cells #[.int .i64 (q : Nat), .bool false, .int .i64 0] 95)).heap[w.heap.size]? = some (.cells #[.int .i64 0, .bool false, .int .i64 0] 95 (0, 0)) := (((Below.refl _ w2).alloc (Nat.le_refl _) _).block _ ((Array.getElem?_eq_some_iff.1 hg2).1)).trans hg2
    have HG2a := hidden hg2a
    have HB2a := hidden (HB2.out.alloc hsz2 (Obj.cells #[.int .i64 (q : Nat), .bool false, .int .i64 0] 95))
    unfold rv
    clear hb2 hg2 hg2a
    obtain ⟨c0, f0, c1, f1, c2, f2⟩ := rv_open HG2a.out
    go_wp2_with fail
    refine bodyPost_ret (results_cell_row rfl _ _ w.heap.size 95 #[.int .i64 (q : Nat), .bool false, .int .i64 0] (0, 0) _ rfl ?_ Tryz.underlying95 rfl sizeR) rfl ?_
    · exact rv_cells HG2a.out _ _ _
    · exact ⟨.inr ⟨q, 0, rfl, hq, H5.out⟩, rv_below HB2a.out (Nat.le_refl _) _ _ _⟩
theorem rv_drewN {B : Nat} {a w : World} (h : Below B a w) (n : Nat) : Below B a (w.drewN n) := ⟨h.os, h.tape, h.output, h.size, h.block⟩
theorem jValidate_long (s : ByteArray) (z : Int) (w : World) (hs : s.size ≤ 9223372036854775807) (h : 65536 < s.size) :
    Calls Tryz.prog 26 #[.string s, .int .i64 z] w fun e w' => e = .returned (.tuple #[.int .i64 (Js.val s.data.toList z).1, .int .i64 (Js.val s.data.toList z).2]) ∧ Below w.heap.size w w' := by
  rw [Js.val_long s.data.toList z h]
  have hlt : (65536 : Int) < (s.size : Int) := by omega
  go_enter Tryz.func26, Tryz.ntmps26
  go_wp2_with fail
  go_ret2
  exact ⟨rfl, Below.refl _ _⟩
set_option maxHeartbeats 2000000 in
theorem jValidate_short (s : ByteArray) (z : Int) (w : World) (h : ¬ 65536 < s.size) :
    Calls Tryz.prog 26 #[.string s, .int .i64 z] w fun e w' => e = .returned (.tuple #[.int .i64 (Js.val s.data.toList z).1, .int .i64 (Js.val s.data.toList z).2]) ∧ Below w.heap.size w w' := by
  have hlt : ¬ (65536 : Int) < (s.size : Int) := by omega
  have HH : Hid (¬ 65536 < s.data.toList.length) := hidden h
  go_enter Tryz.func26, Tryz.ntmps26
  go_wp2_with fail
  refine (jText_any s _ (by omega)).mono ?_
  rintro e w2 ⟨⟨q, D, rfl, h1, ho⟩ | ⟨q, D, rfl, h1, ho⟩, hb2⟩
  · have HB2 := hidden hb2
    have hsz2 := hb2.size
    by_cases hd : z < (D : Int)
    · have HV := hidden (Js.val_deep _ z D HH.out ho hd)
      unfold rv
      clear hb2 ho
      go_wp2_with fail
      go_quiet (fail)
      go_wp2_with fail
      go_ret2
      rw [HV.out]
      exact ⟨rfl, rv_drewN (HB2.out.alloc hsz2 _) _⟩
    · have HV := hidden (Js.val_yes _ z D HH.out ho hd)
      unfold rv
      clear hb2 ho
      go_wp2_with fail
      go_quiet (fail)
      go_wp2_with fail
      go_ret2
      rw [HV.out]
      exact ⟨rfl, rv_drewN (HB2.out.alloc hsz2 _) _⟩
  · have HB2 := hidden hb2
    have hsz2 := hb2.size
    have HV := hidden (Js.val_no _ z q HH.out ho)
    unfold rv
    clear hb2 ho
    go_wp2_with fail
    go_quiet (fail)
    go_wp2_with fail
    go_ret2
    rw [HV.out]
    exact ⟨rfl, rv_drewN (HB2.out.alloc hsz2 _) _⟩
theorem jValidate_any (s : ByteArray) (z : Int) (w : World) (hs : s.size ≤ 9223372036854775807) :
    Calls Tryz.prog 26 #[.string s, .int .i64 z] w fun e w' => e = .returned (.tuple #[.int .i64 (Js.val s.data.toList z).1, .int .i64 (Js.val s.data.toList z).2]) ∧ Below w.heap.size w w' := by
  by_cases h : 65536 < s.size
  · exact jValidate_long s z w hs h
  · exact jValidate_short s z w h
end Go.Proofs.YtoipliflphbeiaaGreatDoor
