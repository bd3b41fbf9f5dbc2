/-
  The contracts of write and (*Row).Bytes: of every row the bytes are told; nothing that was there is changed.
  Mathematics of a row's bytes: the number that bytes make, the least first; a row's bytes, and which bytes are a row's. Of no program.
  The contracts of number, fits and Of: of every string the row whose bytes it is, or that there is none; nothing that was there is changed.
-/
import Derived.Deep.RegionHeldLaw
import Derived.Test.YtoipliflphbeiaaGreatDoorC05
import Derived.Test.YtoipliflphbeiaaGreatDoorJBtList
namespace Go.Proofs.YtoipliflphbeiaaGreatDoor
open Go.RowKit
namespace Bt
/-- A number's eight bytes, the least first. -/
def eightB (v : Nat) : List UInt8 := (List.range 8).map fun i => UInt8.ofNat (v / 2 ^ (8 * i) % 256)
theorem eightB_length (v : Nat) : (eightB v).length = 8 := by simp [eightB]
theorem eightB_next (v k : Nat) (hk : k < 8) : (eightB v).take (k + 1) = (eightB v).take k ++ [UInt8.ofNat (v / 2 ^ (8 * k) % 256)] := by
  rw [List.take_add_one]
  simp [eightB, hk]
/-- The bytes of n, and of the first k words of X. -/
def rowTo (n X k : Nat) : List UInt8 := eightB n ++ (List.range k).flatMap fun j => eightB (wd X j)
theorem rowTo_zero (n X : Nat) : rowTo n X 0 = eightB n := by simp [rowTo]
theorem rowTo_succ (n X k : Nat) : rowTo n X (k + 1) = rowTo n X k ++ eightB (wd X k) := by
  unfold rowTo
  rw [List.range_succ, List.flatMap_append]
  simp
theorem rowTo_length (n X k : Nat) : (rowTo n X k).length = 8 + 8 * k := by
  induction k with
  | zero => rw [rowTo_zero, eightB_length]
  | succ k ih => rw [rowTo_succ, List.length_append, ih, eightB_length]; omega
def rowB (n X : Nat) : List UInt8 := rowTo n X ((n + 63) / 64)
end Bt
theorem cells_snoc (l m : List UInt8) (y : Nat) (c : Int) (hc : c = ((y % 256 : Nat) : Int)) : Lib.byteCells (l ++ m) ++ [Value.int .u8 c] = Lib.byteCells (l ++ (m ++ [UInt8.ofNat (y % 256)])) := by
  rw [← List.append_assoc, Lib.byteCells_append (l ++ m) [_], hc]
  simp [Lib.byteCells]
theorem sGrow_int (B b n : Nat) (z : Int) (w : World) (hB : B ≤ b) (hbk : w.heap[b]? = some (.cells #[.pointer none, .slice none 0 0] 73 (0, 0))) (hBw : B ≤ w.heap.size) (hn : n ≤ 281474976710656) (hz : z = (n : Int)) :
    Calls Tryz.prog 43 #[.pointer (some ⟨b, 0, none⟩), .int .i64 z] w fun e w' => e = .returned (.tuple #[]) ∧ (Lib.IsBuilder 73 5 B b [] w' ∧ Below B w w') := by
  subst hz
  exact sGrow B b n w hB hbk hBw hn
set_option maxHeartbeats 1000000 in
theorem write_any (B b v : Nat) (l : List UInt8) (w : World) (h : Lib.IsBuilder 73 5 B b (Lib.byteCells l) w) (hl : l.length ≤ 70368744177664) (hBw : B ≤ w.heap.size) :
    Calls Tryz.prog 74 #[.pointer (some ⟨b, 0, none⟩), .int .u64 v] w fun e w' => e = .returned (.tuple #[]) ∧ Lib.IsBuilder 73 5 B b (Lib.byteCells (l ++ Bt.eightB v)) w' ∧ Below B w w' := by
  have HH : Hid (Lib.IsBuilder 73 5 B b (Lib.byteCells l) w) := h
  clear h
  go_enter Tryz.func74, Tryz.ntmps74
  go_wp2
  go_loopw [5] (fun i wr => ∃ k : Nat, k ≤ 8 ∧ i = .int .i64 k ∧ Lib.IsBuilder 73 5 B b (Lib.byteCells (l ++ (Bt.eightB v).take k)) wr ∧ Below B w wr) (fun i _ => 8 - (intOf i).toNat)
  case atStart => exact ⟨0, by omega, rfl, by rw [List.take_zero, List.append_nil]; exact HH.out, Below.refl _ _⟩
  case round =>
    obtain ⟨k, hk, rfl, hb, hbel⟩ := hrel
    have hsz := hbel.size
    have HB : Hid (Lib.IsBuilder 73 5 B b (Lib.byteCells (l ++ (Bt.eightB v).take k)) wr) := hb
    have HBL := hidden hbel
    clear hb hbel
    by_cases hlt : k < 8
    · have hlen : (Lib.byteCells (l ++ (Bt.eightB v).take k)).length + 1 ≤ 140737488355328 := by
        rw [Lib.byteCells_length, List.length_append, List.length_take, Bt.eightB_length]
        omega
      go_wp2_with fail
      refine (sWrite B b _ _ _ HB.out hlen (by omega)).mono ?_
      rintro e w1 ⟨rfl, h1, h2⟩
      have HQ1 := hidden h1
      have HQ2 := hidden h2
      clear h1 h2
      go_wp2_with fail
      go_roundw
      case rel =>
        refine ⟨k + 1, by omega, by go_num, ?_, HBL.out.trans HQ2.out⟩
        rw [Bt.eightB_next v k hlt]
        have hq := HQ1.out
        rw [cells_snoc _ _ (v / 2 ^ (8 * k)) _ ?hc] at hq
        · exact hq
        · rw [Wd.div_pow]
          rfl
      case measure => simp [intOf]; omega
    · obtain rfl : k = 8 := by omega
      go_wp2
      go_end0
      have hb := HB.out
      rw [List.take_of_length_le (by rw [Bt.eightB_length]; omega)] at hb
      exact ⟨rfl, hb, HBL.out⟩
set_option maxHeartbeats 1000000 in
theorem Bytes_any (r n X : Nat) (u : Value) (w : World) (h : Rw w r n X u) :
    Calls Tryz.prog 42 #[.pointer (some ⟨r, 0, none⟩)] w fun e w' => e = .returned (.string ⟨(Bt.rowB n X).toArray⟩) ∧ Below w.heap.size w w' := by
  have hl := h.len
  have HH := hidden h
  have c0 := h.cell0
  have c1 := h.cell1
  have hlt := lt_of_block h.cells
  obtain ⟨ao, cap, hu, hcap, hg⟩ := h.form
  subst hu
  obtain ⟨c, hc⟩ : ∃ c, c = (n + 63) / 64 := ⟨_, rfl⟩
  rw [← hc] at c1 hcap hg
  have HC := hidden hc
  have HG := hidden hg
  have hc1 : c ≤ 67108864 := by omega
  have hcn : 0 < c → 0 < n := by omega
  have HCN := hidden hcn
  clear h hc hg hcn
  go_enter Tryz.func42, Tryz.ntmps42
  go_wp2_with fail
  refine (sGrow_int w.heap.size w.heap.size (8 * (1 + c)) _ _ (Nat.le_refl _) (heap_alloc_new w _) (by simp) (by omega) (by omega)).mono ?_
  rintro e w1 ⟨rfl, h1, h2⟩
  have HB1 : Hid (Lib.IsBuilder 73 5 w.heap.size w.heap.size (Lib.byteCells []) w1) := h1
  have HL1 : Hid (Below w.heap.size w w1) := ((Below.refl _ _).alloc (Nat.le_refl _) _).trans h2
  have d0 := (HL1.out.cell (p := ⟨r, 0, none⟩) hlt).trans c0
  clear h1 h2
  go_wp2_with fail
  have hs1 := HL1.out.size
  refine (write_any w.heap.size w.heap.size n [] _ HB1.out (by simp) (by omega)).mono ?_
  rintro e w2 ⟨rfl, h1, h2⟩
  have HB2 : Hid (Lib.IsBuilder 73 5 w.heap.size w.heap.size (Lib.byteCells (Bt.rowTo n X 0)) w2) := by rw [Bt.rowTo_zero]; exact h1
  have HL2 : Hid (Below w.heap.size w w2) := HL1.out.trans h2
  have d1 := (HL2.out.cell (p := ⟨r, 1, none⟩) hlt).trans c1
  clear h1 h2 d0
  go_wp2_with fail
  go_loopw [25] (fun i wr => ∃ k : Nat, k ≤ c ∧ i = .int .i64 k ∧ Lib.IsBuilder 73 5 w.heap.size w.heap.size (Lib.byteCells (Bt.rowTo n X k)) wr ∧ Below w.heap.size w wr) (fun i _ => c - (intOf i).toNat)
  case atStart => exact ⟨0, by omega, rfl, HB2.out, HL2.out⟩
  case round =>
    obtain ⟨k, hk, rfl, hb, hbel⟩ := hrel
    have hsz := hbel.size
    have HB : Hid (Lib.IsBuilder 73 5 w.heap.size w.heap.size (Lib.byteCells (Bt.rowTo n X k)) wr) := hb
    have HBL := hidden hbel
    clear hb hbel
    by_cases hlt2 : k < c
    · obtain ⟨g, hao, hcell⟩ := HG.out (HCN.out (by omega))
      subst hao
      have hgl : g < w.heap.size := World.block_lt_of_cell? _ _ (hcell k hlt2)
      have e0 := (HBL.out.cell (p := ⟨g, k, none⟩) hgl).trans (hcell k hlt2)
      clear hcell
      go_wp2_with fail
      refine (write_any w.heap.size w.heap.size (Bt.wd X k) _ _ HB.out (by rw [Bt.rowTo_length]; omega) (by omega)).mono ?_
      rintro e w3 ⟨rfl, h1, h2⟩
      have HQ1 : Hid (Lib.IsBuilder 73 5 w.heap.size w.heap.size (Lib.byteCells (Bt.rowTo n X (k + 1))) w3) := by rw [Bt.rowTo_succ]; exact h1
      have HQ2 := hidden h2
      clear h1 h2
      go_wp2_with fail
      go_roundw
      case rel => exact ⟨k + 1, by omega, by go_num, HQ1.out, HBL.out.trans HQ2.out⟩
      case measure => simp [intOf]; omega
    · obtain rfl : k = c := by omega
      go_wp2_with fail
      refine (sString w.heap.size w.heap.size (Bt.rowTo n X k) _ HB.out (by omega)).mono ?_
      rintro e w3 ⟨rfl, h1⟩
      have HQ1 := hidden h1
      clear h1
      go_wp2_with fail
      go_ret
      refine ⟨?_, HBL.out.trans HQ1.out⟩
      show Ending.returned (.string ⟨(Bt.rowTo n X k).toArray⟩) = _
      unfold Bt.rowB
      rw [← HC.out]
end Go.Proofs.YtoipliflphbeiaaGreatDoor
namespace Go.Proofs.YtoipliflphbeiaaGreatDoor
namespace Bt
/-- The number that bytes make, the least first. -/
def numB : List UInt8 → Nat
  | [] => 0
  | b :: l => b.toNat + 256 * numB l
theorem numB_append (l m : List UInt8) : numB (l ++ m) = numB l + 2 ^ (8 * l.length) * numB m := by
  induction l with
  | nil => simp [numB]
  | cons b l ih =>
    rw [List.cons_append, numB, ih, numB, List.length_cons, show 8 * (l.length + 1) = 8 + 8 * l.length from by omega, Nat.pow_add, Nat.mul_add, show (2 : Nat) ^ 8 = 256 from rfl, Nat.mul_assoc]
    omega
theorem numB_lt (l : List UInt8) : numB l < 2 ^ (8 * l.length) := by
  induction l with
  | nil => simp [numB]
  | cons b l ih =>
    have hb := b.toNat_lt
    rw [numB, List.length_cons, show 8 * (l.length + 1) = 8 + 8 * l.length from by omega, Nat.pow_add, show (2 : Nat) ^ 8 = 256 from rfl]
    omega
theorem numB_inj : ∀ (l m : List UInt8), l.length = m.length → numB l = numB m → l = m
  | [], [], _, _ => rfl
  | [], _ :: _, h, _ => by simp at h
  | _ :: _, [], h, _ => by simp at h
  | a :: l, b :: m, h, e => by
    simp only [numB] at e
    have ha := a.toNat_lt
    have hb := b.toNat_lt
    have e1 : a.toNat = b.toNat := by omega
    have e2 : numB l = numB m := by omega
    rw [UInt8.toNat_inj.1 e1, numB_inj l m (by simpa using h) e2]
theorem numB_eightTo (v k : Nat) (hk : k ≤ 8) : numB ((eightB v).take k) = v % 2 ^ (8 * k) := by
  induction k with
  | zero => simp [numB, Nat.mod_one]
  | succ k ih =>
    have hl : ((eightB v).take k).length = k := by rw [List.length_take, eightB_length]; omega
    rw [eightB_next v k (by omega), numB_append, ih (by omega), hl, show 8 * (k + 1) = 8 * k + 8 from by omega, Nat.pow_add, Nat.mod_mul]
    simp only [numB, show (2 : Nat) ^ 8 = 256 from rfl]
    have : (UInt8.ofNat (v / 2 ^ (8 * k) % 256)).toNat = v / 2 ^ (8 * k) % 256 := by
      simp [UInt8.toNat_ofNat']
    rw [this, Nat.mul_zero, Nat.add_zero]
theorem numB_eight (v : Nat) (h : v < 2 ^ 64) : numB (eightB v) = v := by
  have := numB_eightTo v 8 (Nat.le_refl _)
  rw [List.take_of_length_le (by rw [eightB_length]; omega), Nat.mod_eq_of_lt h] at this
  exact this
/-- The bytes of the first c words. -/
def wordsB (X c : Nat) : List UInt8 := (List.range c).flatMap fun j => eightB (wd X j)
theorem wordsB_succ (X c : Nat) : wordsB X (c + 1) = wordsB X c ++ eightB (wd X c) := by
  unfold wordsB
  rw [List.range_succ, List.flatMap_append]
  simp
theorem wordsB_length (X c : Nat) : (wordsB X c).length = 8 * c := by
  induction c with
  | zero => simp [wordsB]
  | succ c ih => rw [wordsB_succ, List.length_append, ih, eightB_length]; omega
theorem numB_words (X c : Nat) : numB (wordsB X c) = X % 2 ^ (64 * c) := by
  induction c with
  | zero => simp [wordsB, numB, Nat.mod_one]
  | succ c ih =>
    rw [wordsB_succ, numB_append, ih, wordsB_length, numB_eight _ (wd_lt' X c), show 8 * (8 * c) = 64 * c from by omega, show 64 * (c + 1) = 64 * c + 64 from by omega, Nat.pow_add, Nat.mod_mul]
    rfl
theorem words_numB (l : List UInt8) (c : Nat) (h : l.length = 8 * c) : wordsB (numB l) c = l := by
  apply numB_inj
  · rw [wordsB_length, h]
  · rw [numB_words, Nat.mod_eq_of_lt]
    have := numB_lt l
    rw [h, show 8 * (8 * c) = 64 * c from by omega] at this
    exact this
theorem rowB_eq (n X : Nat) : rowB n X = eightB n ++ wordsB X ((n + 63) / 64) := rfl
/-- Which bytes are a row's. -/
def ofB (l : List UInt8) : Option (Nat × Nat) :=
  if l.length < 8 ∨ l.length % 8 ≠ 0 then none
  else if numB (l.take 8) ≤ 4294967296 ∧ (numB (l.take 8) + 63) / 64 = l.length / 8 - 1 ∧ numB (l.drop 8) < 2 ^ numB (l.take 8) then some (numB (l.take 8), numB (l.drop 8)) else none
theorem ofB_row (n X : Nat) (hn : n ≤ 4294967296) (hX : X < 2 ^ n) : ofB (rowB n X) = some (n, X) := by
  have hlen : (rowB n X).length = 8 + 8 * ((n + 63) / 64) := rowTo_length n X _
  have h1 : (rowB n X).take 8 = eightB n := by rw [rowB_eq, List.take_append_of_le_length (by rw [eightB_length]; omega), List.take_of_length_le (by rw [eightB_length]; omega)]
  have h2 : (rowB n X).drop 8 = wordsB X ((n + 63) / 64) := by
    rw [rowB_eq, List.drop_append, List.drop_of_length_le (by rw [eightB_length]; omega), eightB_length]
    simp
  have e1 : numB ((rowB n X).take 8) = n := by rw [h1, numB_eight n (Nat.lt_of_le_of_lt hn (by decide))]
  have e2 : numB ((rowB n X).drop 8) = X := by
    rw [h2, numB_words, Nat.mod_eq_of_lt]
    exact Nat.lt_of_lt_of_le hX (Nat.pow_le_pow_right (by decide) (by omega))
  unfold ofB
  rw [if_neg (by rw [hlen]; omega), e1, e2, if_pos ⟨hn, by rw [hlen]; omega, hX⟩]
theorem ofB_some {l : List UInt8} {n X : Nat} (h : ofB l = some (n, X)) : n ≤ 4294967296 ∧ X < 2 ^ n ∧ l = rowB n X := by
  unfold ofB at h
  split at h
  · cases h
  · rename_i h0
    split at h
    · rename_i hc
      simp only [Option.some.injEq, Prod.mk.injEq] at h
      obtain ⟨rfl, rfl⟩ := h
      obtain ⟨h1, h2, h3⟩ := hc
      refine ⟨h1, h3, ?_⟩
      have hl8 : (l.take 8).length = 8 := by rw [List.length_take]; omega
      have hd8 : (l.drop 8).length = 8 * (l.length / 8 - 1) := by rw [List.length_drop]; omega
      have e1 : eightB (numB (l.take 8)) = l.take 8 := by
        apply numB_inj
        · rw [eightB_length, hl8]
        · apply numB_eight
          have := numB_lt (l.take 8)
          rw [hl8] at this
          exact this
      rw [rowB_eq, e1, h2, words_numB _ _ hd8, List.take_append_drop]
    · cases h
end Bt
end Go.Proofs.YtoipliflphbeiaaGreatDoor
namespace Go.Proofs.YtoipliflphbeiaaGreatDoor
open Go.RowKit
namespace Bt
/-- The number of the eight bytes from a on. -/
def le8 (s : ByteArray) (a : Nat) : Nat := numB ((s.data.toList.drop a).take 8)
theorem part_next (s : ByteArray) (a k : Nat) (h : a + k < s.size) : (s.data.toList.drop a).take (k + 1) = (s.data.toList.drop a).take k ++ [s[a + k]] := by
  have hl : s.data.toList.length = s.size := rfl
  rw [List.take_add_one, List.getElem?_drop, List.getElem?_eq_getElem (by rw [hl]; exact h)]
  rfl
theorem part_len (s : ByteArray) (a k : Nat) (h : a + k ≤ s.size) : ((s.data.toList.drop a).take k).length = k := by
  have hl : s.data.toList.length = s.size := rfl
  rw [List.length_take, List.length_drop, hl]
  omega
theorem part_num (s : ByteArray) (a k : Nat) (h : a + k < s.size) : numB ((s.data.toList.drop a).take (k + 1)) = numB ((s.data.toList.drop a).take k) + 2 ^ (8 * k) * s[a + k].toNat := by
  rw [part_next s a k h, numB_append, part_len s a k (by omega)]
  simp [numB]
theorem part_lt (s : ByteArray) (a k : Nat) (h : a + k ≤ s.size) : numB ((s.data.toList.drop a).take k) < 2 ^ (8 * k) := by
  have := numB_lt ((s.data.toList.drop a).take k)
  rw [part_len s a k h] at this
  exact this
theorem part_or (s : ByteArray) (a k : Nat) (h : a + k < s.size) (hk : k < 8) : bits BinOp.or IntKind.u64 ((numB ((s.data.toList.drop a).take k) : Nat) : Int) (IntKind.u64.wrap ((s[a + k].toNat : Int) * 2 ^ (8 * k))) = ((numB ((s.data.toList.drop a).take (k + 1)) : Nat) : Int) := by
  have h1 := part_lt s a k (by omega)
  have h2 : 2 ^ (8 * k) ≤ 2 ^ 64 := Nat.pow_le_pow_right (by decide) (by omega)
  have hb := s[a + k].toNat_lt
  have h3 : s[a + k].toNat * 2 ^ (8 * k) < 2 ^ 64 := by
    have : s[a + k].toNat * 2 ^ (8 * k) < 2 ^ 8 * 2 ^ (8 * k) := Nat.mul_lt_mul_of_pos_right hb (Nat.two_pow_pos _)
    rw [← Nat.pow_add] at this
    exact Nat.lt_of_lt_of_le this (Nat.pow_le_pow_right (by decide) (by omega))
  rw [Wd.shl_u64, Nat.mod_eq_of_lt h3, bits_or_u64_nat _ _ (by omega) h3, part_num s a k h, Nat.mul_comm s[a + k].toNat, Nat.or_comm, ← Nat.two_pow_add_eq_or_of_lt h1, Nat.add_comm]
theorem numB_split (l : List UInt8) (a : Nat) (h : a ≤ l.length) : numB l = numB (l.take a) + 2 ^ (8 * a) * numB (l.drop a) ∧ numB (l.take a) < 2 ^ (8 * a) := by
  have hl : (l.take a).length = a := by rw [List.length_take]; omega
  have h1 := numB_append (l.take a) (l.drop a)
  have h2 := numB_lt (l.take a)
  rw [List.take_append_drop, hl] at h1
  rw [hl] at h2
  exact ⟨h1, h2⟩
theorem numB_div (l : List UInt8) (a : Nat) (h : a ≤ l.length) : numB l / 2 ^ (8 * a) = numB (l.drop a) := by
  obtain ⟨h1, h2⟩ := numB_split l a h
  rw [h1, Nat.add_mul_div_left _ _ (Nat.two_pow_pos _), Nat.div_eq_of_lt h2, Nat.zero_add]
theorem numB_mod (l : List UInt8) (a : Nat) (h : a ≤ l.length) : numB l % 2 ^ (8 * a) = numB (l.take a) := by
  obtain ⟨h1, h2⟩ := numB_split l a h
  rw [h1, Nat.add_mul_mod_self_left, Nat.mod_eq_of_lt h2]
/-- The number of all bytes behind the first eight. -/
def restN (s : ByteArray) : Nat := numB (s.data.toList.drop 8)
theorem wd_rest (s : ByteArray) (j : Nat) (h : 8 + 8 * j + 8 ≤ s.size) : wd (restN s) j = le8 s (8 + 8 * j) := by
  have hl : s.data.toList.length = s.size := rfl
  unfold wd restN le8
  rw [show 64 * j = 8 * (8 * j) from by omega, numB_div _ _ (by rw [List.length_drop, hl]; omega), show (2 : Nat) ^ 64 = 2 ^ (8 * 8) from rfl, numB_mod _ _ (by rw [List.length_drop, List.length_drop, hl]; omega), List.drop_drop]
theorem rest_lt (s : ByteArray) (c : Nat) (h : s.size = 8 + 8 * c) : restN s < 2 ^ (64 * c) := by
  have hl : s.data.toList.length = s.size := rfl
  have := numB_lt (s.data.toList.drop 8)
  rw [List.length_drop, hl, show 8 * (s.size - 8) = 64 * c from by omega] at this
  exact this
/-- Whether the bits of the last word fit. -/
theorem fits_last (Y n c : Nat) (hY : Y < 2 ^ (64 * (c + 1))) (hn : (n + 63) / 64 = c + 1) (hu : n % 64 ≠ 0) : Y < 2 ^ n ↔ wd Y c < 2 ^ (n % 64) := by
  have hw : wd Y c = Y / 2 ^ (64 * c) := by
    unfold wd
    apply Nat.mod_eq_of_lt
    rw [Nat.div_lt_iff_lt_mul (Nat.two_pow_pos _), ← Nat.pow_add]
    rw [show 64 + 64 * c = 64 * (c + 1) from by omega]
    exact hY
  rw [hw, Nat.div_lt_iff_lt_mul (Nat.two_pow_pos _), ← Nat.pow_add, show n % 64 + 64 * c = n from by omega]
end Bt
set_option maxHeartbeats 1000000 in
theorem bnumber_any (s : ByteArray) (a : Nat) (w : World) (h : a + 8 ≤ s.size) (hs : s.size ≤ 9223372036854775807) :
    Calls Tryz.prog 133 #[.string s, .int .i64 (a : Nat)] w fun e w' => e = .returned (.int .u64 ((Bt.le8 s a : Nat) : Int)) ∧ w' = w := by
  go_enter Tryz.func133, Tryz.ntmps133
  go_wp2
  go_loop [5, 7] (fun v i => ∃ k : Nat, k ≤ 8 ∧ i = .int .i64 k ∧ v = .int .u64 ((Bt.numB ((s.data.toList.drop a).take k) : Nat) : Int)) (fun _ i => 8 - (intOf i).toNat)
  case atStart => exact ⟨0, by omega, rfl, rfl⟩
  case round =>
    obtain ⟨k, hk, rfl, rfl⟩ := hrel
    by_cases hlt : k < 8
    · have hi : a + k < s.size := by omega
      have hor := hidden (Bt.part_or s a k hi hlt)
      have hb := s[a + k].toNat_lt
      go_wp2
      go_round
      case rel =>
        exact ⟨k + 1, by omega, by go_num, by rw [hor.out]⟩
      case measure => simp [intOf]; omega
    · obtain rfl : k = 8 := by omega
      go_wp2
      go_ret
      exact ⟨rfl, rfl⟩
theorem bnumber_at (s : ByteArray) (a : Nat) (z : Int) (w : World) (hz : z = (a : Int)) (h : a + 8 ≤ s.size) (hs : s.size ≤ 9223372036854775807) :
    Calls Tryz.prog 133 #[.string s, .int .i64 z] w fun e w' => e = .returned (.int .u64 ((Bt.le8 s a : Nat) : Int)) ∧ w' = w := by
  subst hz
  exact bnumber_any s a w h hs
set_option maxHeartbeats 1000000 in
theorem fits_no (n : Nat) (z : Int) (w : World) (h : 4294967296 < n) :
    Calls Tryz.prog 134 #[.int .u64 n, .int .i64 z] w fun e w' => e = .returned (.bool false) ∧ w' = w := by
  go_enter Tryz.func134, Tryz.ntmps134
  go_wp2
  go_ret
  exact ⟨rfl, rfl⟩
set_option maxHeartbeats 1000000 in
theorem fits_yes (n c : Nat) (z : Int) (w : World) (h : n ≤ 4294967296) (hc : c = (n + 63) / 64) :
    Calls Tryz.prog 134 #[.int .u64 n, .int .i64 z] w fun e w' => e = .returned (.bool ((c : Int) == z)) ∧ w' = w := by
  have HC := hidden hc
  clear hc
  go_enter Tryz.func134, Tryz.ntmps134
  go_wp2_with fail
  refine (needed_int _ n c _ (by first | rfl | omega) h HC.out).mono ?_
  rintro e w1 ⟨rfl, rfl⟩
  go_wp2_with fail
  go_ret
  exact ⟨rfl, rfl⟩
set_option maxHeartbeats 1000000 in
theorem Of_odd (s : ByteArray) (w : World) (hs : s.size ≤ 9223372036854775807) (h : s.size < 8 ∨ (8 ≤ s.size ∧ s.size % 8 ≠ 0)) :
    Calls Tryz.prog 100 #[.string s] w fun e w' => e = .returned (.tuple #[.pointer none, .int .i64 3]) ∧ w' = w := by
  rcases h with h | ⟨h, h2⟩
  · go_enter Tryz.func100, Tryz.ntmps100
    go_wp2
    go_ret2
    exact ⟨rfl, rfl⟩
  · have h3 : (((s.size : Int) % 8) != 0) = true := by rw [bne_iff_ne]; omega
    have H2 := hidden h2
    clear h2
    go_enter Tryz.func100, Tryz.ntmps100
    go_wp2
    go_ret2
    exact ⟨rfl, rfl⟩
set_option maxHeartbeats 1000000 in
theorem Of_unfit (s : ByteArray) (w : World) (hs : s.size ≤ 9223372036854775807) (h8 : 8 ≤ s.size) (hm : s.size % 8 = 0) (h : ¬ (Bt.le8 s 0 ≤ 4294967296 ∧ (Bt.le8 s 0 + 63) / 64 = s.size / 8 - 1)) :
    Calls Tryz.prog 100 #[.string s] w fun e w' => e = .returned (.tuple #[.pointer none, .int .i64 3]) ∧ w' = w := by
  have h3 : (((s.size : Int) % 8) != 0) = false := by simp; omega
  have HM := hidden hm
  have HF : Hid (∀ w, Calls Tryz.prog 134 #[.int .u64 ((Bt.le8 s 0 : Nat) : Int), .int .i64 ((s.size : Int) / 8 - 1)] w fun e w' => e = .returned (.bool false) ∧ w' = w) := by
    intro w
    by_cases hn : Bt.le8 s 0 ≤ 4294967296
    · have e : ((((Bt.le8 s 0 + 63) / 64 : Nat) : Int) == ((s.size : Int) / 8 - 1)) = false := by
        rw [beq_eq_false_iff_ne]
        intro e
        apply h
        exact ⟨hn, by omega⟩
      rw [← e]
      exact fits_yes (Bt.le8 s 0) _ _ w hn rfl
    · exact fits_no (Bt.le8 s 0) _ w (by omega)
  clear h hm
  go_enter Tryz.func100, Tryz.ntmps100
  go_wp2_with fail
  refine (bnumber_any s 0 _ (by omega) hs).mono ?_
  rintro e w1 ⟨rfl, rfl⟩
  go_wp2_with fail
  refine (HF.out _).mono ?_
  rintro e w2 ⟨rfl, rfl⟩
  go_wp2_with fail
  go_ret2
  exact ⟨rfl, rfl⟩
/-- What Of leaves of bytes whose length fits. -/
def OfPost (w : World) (n Y : Nat) (e : Ending) (w' : World) : Prop :=
  Below w.heap.size w w' ∧ ((Y < 2 ^ n ∧ ∃ r u, e = .returned (.tuple #[.pointer (some ⟨r, 0, none⟩), .int .i64 0]) ∧ Rw w' r n Y u ∧ w.heap.size ≤ r ∧ ∀ k, u.ownBlock = some k → w.heap.size ≤ k) ∨ (¬ Y < 2 ^ n ∧ e = .returned (.tuple #[.pointer none, .int .i64 3])))
theorem OfPost.ok {w w' : World} {n Y r : Nat} {u : Value} {e : Ending} (hb : Below w.heap.size w w') (hY : Y < 2 ^ n) (he : e = .returned (.tuple #[.pointer (some ⟨r, 0, none⟩), .int .i64 0])) (hr : Rw w' r n Y u) (h1 : w.heap.size ≤ r) (h2 : ∀ k, u.ownBlock = some k → w.heap.size ≤ k) : OfPost w n Y e w' := ⟨hb, .inl ⟨hY, r, u, he, hr, h1, h2⟩⟩
theorem OfPost.bad {w w' : World} {n Y : Nat} {e : Ending} (hb : Below w.heap.size w w') (hY : ¬ Y < 2 ^ n) (he : e = .returned (.tuple #[.pointer none, .int .i64 3])) : OfPost w n Y e w' := ⟨hb, .inr ⟨hY, he⟩⟩
set_option maxHeartbeats 2000000 in
theorem Of_fit (s : ByteArray) (n c : Nat) (w : World) (hs : s.size ≤ 9223372036854775807) (hsz : s.size = 8 + 8 * c) (hn : n = Bt.le8 s 0) (hn1 : n ≤ 4294967296) (hc : c = (n + 63) / 64) :
    Calls Tryz.prog 100 #[.string s] w fun e w' => OfPost w n (Bt.restN s) e w' := by
  have hcb : c ≤ 4294967296 := by omega
  have hmk := mk_words c hcb
  have h3 : (((s.size : Int) % 8) != 0) = false := by simp; omega
  have hcz : ((s.size : Int) / 8 - 1) = (c : Int) := by omega
  have hcc : ((c : Int) == (c : Int)) = true := by simp
  have h8 : 8 ≤ s.size := by omega
  have hy := Bt.rest_lt s c hsz
  have HN := hidden hn
  have HC := hidden hc
  have HSZ := hidden hsz
  have HY := hidden hy
  clear hn hc hsz hy
  go_enter Tryz.func100, Tryz.ntmps100
  go_wp2_with fail
  refine (bnumber_any s 0 _ (by omega) hs).mono ?_
  rintro e w1 ⟨rfl, rfl⟩
  rw [← HN.out]
  go_wp2_with fail
  refine (fits_yes n c _ _ hn1 HC.out).mono ?_
  rintro e w2 ⟨rfl, rfl⟩
  go_wp2_with fail
  go_loopw [35] (fun i wr => ∃ k : Nat, k ≤ c ∧ i = .int .i64 k ∧ wr.heap[w2.heap.size]? = some (.cells (Bt.wds (Bt.restN s) k ++ List.replicate (c - k) (Value.int .u64 0)).toArray 64 (0, 0)) ∧ wr.heap[w2.heap.size + 1]? = some (.cells #[.int .i64 (n : Nat), .slice (some ⟨w2.heap.size, 0, none⟩) c c] 118 (0, 0)) ∧ Below w2.heap.size w2 wr) (fun i _ => c - (intOf i).toNat)
  case atStart =>
    refine ⟨0, by omega, rfl, ?_, heap_new_at (by simp), ((Below.refl _ _).alloc (Nat.le_refl _) _).alloc (by simp) _⟩
    rw [Below.heap_alloc _ _ _ (by simp), heap_alloc_new, show Bt.wds (Bt.restN s) 0 = [] from rfl]
    simp
  case round =>
    obtain ⟨k, hk, rfl, hw, hr, hb⟩ := hrel
    have hsz := hb.size
    by_cases hlt : k < c
    · have hq1 : IntKind.i64.wrap ((k : Int) + 1) = (k : Int) + 1 := by rw [IntKind.wrap_i64]; omega
      have hq2 : IntKind.i64.wrap (((k : Int) + 1) * 8) = ((k : Int) + 1) * 8 := by rw [IntKind.wrap_i64]; omega
      have HV : Hid (Bt.le8 s (8 + 8 * k) = Bt.wd (Bt.restN s) k) := (Bt.wd_rest s k (by have := HSZ.out; omega)).symm
      have d0 : wr.cell? ⟨w2.heap.size + 1, 1, none⟩ = some (.slice (some ⟨w2.heap.size, 0, none⟩) c c) := Lib.cell_of_heap hr 1
      have d1 : wr.cell? ⟨w2.heap.size, k, none⟩ = some (.int .u64 0) := by
        rw [Lib.cell_of_heap hw, words_at _ k c hlt]
      have d2 : wr.frozen? ⟨w2.heap.size, k, none⟩ = false := Lib.frozen_of_heap hw k
      have i0 : (0 : Int) ≤ (k : Int) := by omega
      have i1 : (k : Int) < (c : Int) := by omega
      have HW := hidden hw
      have HR := hidden hr
      have HB := hidden hb
      clear hw hr hb
      go_wp2_with fail
      go_region_held (fun w' => w'.cell? ⟨w2.heap.size + 1, 1, none⟩ = some (.slice (some ⟨w2.heap.size, 0, none⟩) c c)) (go_keep)
        (first
          | (go_at_call 133; refine (bnumber_at s (8 + 8 * k) _ _ (by omega) (by have := HSZ.out; omega) hs).mono ?_; rintro e' w' ⟨rfl, rfl⟩))
      go_wp2_with fail
      go_roundw
      case rel =>
        refine ⟨k + 1, by omega, by go_num, ?_, ?_, (HB.out.setCell (Nat.le_refl _) _).drew⟩
        · show (World.setCell _ _ _).heap[_]? = _
          rw [setCell_heap_same _ _ _ _ _ _ _ HW.out, HV.out, words_next _ k c hlt]
        · show (World.setCell _ _ _).heap[_]? = _
          rw [setCell_heap_other _ _ _ _ (by simp)]
          exact HR.out
      case measure => simp [intOf]; omega
    · obtain rfl : k = c := by omega
      rw [Nat.sub_self, List.replicate_zero, List.append_nil] at hw
      have d0 : wr.cell? ⟨w2.heap.size + 1, 0, none⟩ = some (.int .i64 (n : Nat)) := Lib.cell_of_heap hr 0
      have d1 : wr.cell? ⟨w2.heap.size + 1, 1, none⟩ = some (.slice (some ⟨w2.heap.size, 0, none⟩) k k) := Lib.cell_of_heap hr 1
      have HW := hidden hw
      have HR := hidden hr
      have HB := hidden hb
      have HRW : Hid (Bt.restN s < 2 ^ n → Rw wr (w2.heap.size + 1) n (Bt.restN s) (.slice (some ⟨w2.heap.size, 0, none⟩) k k)) := fun hX => Rw.of_words hn1 hX HC.out hr hw
      by_cases hu : n % 64 = 0
      · have hX : Hid (Bt.restN s < 2 ^ n) := by
          have hy := HY.out
          rw [show 64 * k = n from by have := HC.out; omega] at hy
          exact hy
        have hu1 : (n : Int) % 64 ≤ 0 := by omega
        clear hw hr hb hu
        go_wp2_with fail
        go_ret2
        exact OfPost.ok HB.out hX.out rfl (HRW.out hX.out) (by omega) (fun j hj => by simp [Value.ownBlock] at hj; omega)
      · obtain ⟨q, hq⟩ : ∃ q, k = q + 1 := ⟨k - 1, by have := HC.out; omega⟩
        have d2 : wr.cell? ⟨w2.heap.size, k - 1, none⟩ = some (.int .u64 ((Bt.wd (Bt.restN s) q : Nat) : Int)) := by
          rw [Lib.cell_of_heap hw, hq, Nat.add_sub_cancel, List.getElem?_toArray, Bt.wds_get _ _ _ (by omega)]
        have HL : Hid (Bt.restN s < 2 ^ n ↔ Bt.wd (Bt.restN s) q < 2 ^ (n % 64)) := Bt.fits_last (Bt.restN s) n q (by rw [← hq]; exact HY.out) (by rw [← hq]; exact HC.out.symm) hu
        have hwl := Bt.wd_lt (Bt.restN s) q
        have hu1 : 0 < (n : Int) % 64 := by omega
        have hk1 : 1 ≤ k := by omega
        have HQ := hidden hq
        by_cases hX : Bt.wd (Bt.restN s) q < 2 ^ (n % 64)
        · have hneed : ((Wd.needTo (Bt.wd (Bt.restN s) q) 64 : Nat) : Int) ≤ (n : Int) % 64 := by
            have := (Bt.need_le _ _ hwl).2 hX
            omega
          have HX := hidden hX
          clear hw hr hb hu hX hq
          go_wp2_with fail
          refine (Need_any _ _ hwl).mono ?_
          rintro e' w5 ⟨rfl, rfl⟩
          go_wp2_with fail
          go_ret2
          exact OfPost.ok HB.out (HL.out.2 HX.out) rfl (HRW.out (HL.out.2 HX.out)) (by omega) (fun j hj => by simp [Value.ownBlock] at hj; omega)
        · have hneed : (n : Int) % 64 < ((Wd.needTo (Bt.wd (Bt.restN s) q) 64 : Nat) : Int) := by
            have : ¬ Wd.needTo (Bt.wd (Bt.restN s) q) 64 ≤ n % 64 := fun h => hX ((Bt.need_le _ _ hwl).1 h)
            omega
          have HX := hidden hX
          clear hw hr hb hu hX hq
          go_wp2_with fail
          refine (Need_any _ _ hwl).mono ?_
          rintro e' w5 ⟨rfl, rfl⟩
          go_wp2_with fail
          go_ret2
          exact OfPost.bad HB.out (fun h => HX.out (HL.out.1 h)) rfl
theorem take8 (s : ByteArray) : Bt.numB (s.data.toList.take 8) = Bt.le8 s 0 := by unfold Bt.le8; rw [List.drop_zero]
/-- No row's bytes. -/
theorem Of_none (s : ByteArray) (w : World) (hs : s.size ≤ 9223372036854775807) (h : Bt.ofB s.data.toList = none) :
    Calls Tryz.prog 100 #[.string s] w fun e w' => e = .returned (.tuple #[.pointer none, .int .i64 3]) ∧ Below w.heap.size w w' := by
  have hl : s.data.toList.length = s.size := rfl
  unfold Bt.ofB at h
  rw [hl, take8] at h
  by_cases h1 : s.size < 8 ∨ s.size % 8 ≠ 0
  · refine (Of_odd s w hs (by omega)).mono ?_
    rintro e w' ⟨he, rfl⟩
    exact ⟨he, Below.refl _ _⟩
  · rw [if_neg h1] at h
    by_cases h2 : Bt.le8 s 0 ≤ 4294967296 ∧ (Bt.le8 s 0 + 63) / 64 = s.size / 8 - 1
    · by_cases h3 : Bt.restN s < 2 ^ Bt.le8 s 0
      · rw [if_pos ⟨h2.1, h2.2, h3⟩] at h
        cases h
      · refine (Of_fit s (Bt.le8 s 0) (s.size / 8 - 1) w hs (by omega) rfl h2.1 h2.2.symm).mono ?_
        rintro e w' ⟨hb, ⟨hY, _⟩ | ⟨_, he⟩⟩
        · exact absurd hY h3
        · exact ⟨he, hb⟩
    · refine (Of_unfit s w hs (by omega) (by omega) h2).mono ?_
      rintro e w' ⟨he, rfl⟩
      exact ⟨he, Below.refl _ _⟩
/-- A row's bytes. -/
theorem Of_some (s : ByteArray) (n X : Nat) (w : World) (hs : s.size ≤ 9223372036854775807) (h : Bt.ofB s.data.toList = some (n, X)) :
    Calls Tryz.prog 100 #[.string s] w fun e w' => ∃ r u, e = .returned (.tuple #[.pointer (some ⟨r, 0, none⟩), .int .i64 0]) ∧ Rw w' r n X u ∧ Below w.heap.size w w' ∧ w.heap.size ≤ r ∧ ∀ k, u.ownBlock = some k → w.heap.size ≤ k := by
  have hl : s.data.toList.length = s.size := rfl
  unfold Bt.ofB at h
  rw [hl, take8] at h
  by_cases h1 : s.size < 8 ∨ s.size % 8 ≠ 0
  · rw [if_pos h1] at h
    cases h
  · rw [if_neg h1] at h
    split at h
    · rename_i h2
      simp only [Option.some.injEq, Prod.mk.injEq] at h
      obtain ⟨rfl, rfl⟩ := h
      refine (Of_fit s (Bt.le8 s 0) (s.size / 8 - 1) w hs (by omega) rfl h2.1 h2.2.1.symm).mono ?_
      rintro e w' ⟨hb, ⟨_, r, u, he, hr, h4, h5⟩ | ⟨hY, _⟩⟩
      · exact ⟨r, u, he, hr, hb, h4, h5⟩
      · exact absurd h2.2.2 hY
    · cases h
end Go.Proofs.YtoipliflphbeiaaGreatDoor
