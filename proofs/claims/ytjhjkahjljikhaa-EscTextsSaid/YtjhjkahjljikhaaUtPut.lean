/-
  The contracts of package utf's width, head and Put: for every number; nothing that was there is changed.
-/
import Derived.Laws.IdiomStrings
import Derived.Laws.MakeOwn
import Derived.Lib.Builder
import Derived.Test.YtjhjkahjljikhaaUtScalar
namespace Go.Proofs.Ytjhjkahjljikhaa
open Go.RowKit
theorem Try.infoU8 : (Try.prog.info? 5).map (fun i => (i.zero, i.size, i.bytes)) = some (some (.int .u8 0), 1, 1) := by kernel_rfl
theorem Below.drewN' {B : Nat} {a w : World} (h : Below B a w) (n : Nat) : Below B a (w.drewN n) := ⟨h.os, h.tape, h.output, h.size, h.block⟩
theorem heap_new_at {w : World} {o : Obj} {k : Nat} (hk : k = w.heap.size) : (w.alloc o).heap[k]? = some o := by
  subst hk
  exact heap_alloc_new _ _
theorem setCell_heap_same (w : World) (g j : Nat) (cur : Array Value) (e : TypeId) (fr : Nat × Nat) (u : Value) (h : w.heap[g]? = some (.cells cur e fr)) : (w.setCell ⟨g, j, none⟩ u).heap[g]? = some (.cells (cur.setIfInBounds j u) e fr) := by
  simp [World.setCell, Array.getElem?_modify, h]
namespace Ut
/-- Bytes as cells. -/
def bc (l : List UInt8) : List Value := l.map fun b => .int .u8 (b.toNat : Int)
theorem bc_length (l : List UInt8) : (bc l).length = l.length := List.length_map ..
/-- The bytes of any number. -/
def encz (c : Int) : List UInt8 := if c < 0 then [] else enc c.toNat
theorem encz_nat (c : Nat) : encz (c : Int) = enc c := by
  unfold encz
  rw [if_neg (by omega)]
  rfl
/-- How many bytes any number has. -/
def widz (c : Int) : Nat := if c < 0 ∨ 55296 ≤ c ∧ c < 57344 ∨ 1114111 < c then 0 else wid c.toNat
theorem widz_sc (c : Nat) (h : Sc c) : widz (c : Int) = wid c := by
  have h1 := h.1
  have h2 := h.2
  unfold widz
  rw [if_neg (by omega)]
  rfl
theorem widz_none (c : Int) (h : widz c = 0) : encz c = [] := by
  unfold widz at h
  unfold encz
  split at h
  · rename_i h1
    split
    · rfl
    · refine enc_none _ (fun h2 => ?_)
      have := h2.1
      have := h2.2
      omega
  · have := wid_pos c.toNat
    omega
theorem widz_some (c : Int) (h : widz c ≠ 0) : ∃ d : Nat, c = d ∧ Sc d := by
  unfold widz at h
  split at h
  · exact absurd rfl h
  · refine ⟨c.toNat, by omega, ?_, ?_⟩ <;> omega
end Ut
set_option maxHeartbeats 2000000 in
theorem width_any (c : Int) (w : World) :
    Calls Try.prog 32 #[.int .i64 c] w fun e w' => e = .returned (.int .i64 ((Ut.widz c : Nat) : Int)) ∧ w' = w := by
  unfold Ut.widz
  by_cases h0 : c < 0
  · rw [if_pos (.inl h0)]
    go_enter Try.func32, Try.ntmps32
    go_wp2
    go_ret
    exact ⟨rfl, rfl⟩
  by_cases h1 : 55296 ≤ c
  · by_cases h2 : c < 57344
    · rw [if_pos (.inr (.inl ⟨h1, h2⟩))]
      go_enter Try.func32, Try.ntmps32
      go_wp2
      go_ret
      exact ⟨rfl, rfl⟩
    · by_cases h3 : 1114111 < c
      · rw [if_pos (.inr (.inr h3))]
        go_enter Try.func32, Try.ntmps32
        go_wp2
        go_ret
        exact ⟨rfl, rfl⟩
      · rw [if_neg (by omega)]
        unfold Ut.wid
        rw [if_neg (by omega), if_neg (by omega)]
        by_cases h4 : c < 65536
        · rw [if_pos (by omega)]
          go_enter Try.func32, Try.ntmps32
          go_wp2
          go_ret
          exact ⟨rfl, rfl⟩
        · rw [if_neg (by omega)]
          go_enter Try.func32, Try.ntmps32
          go_wp2
          go_ret
          exact ⟨rfl, rfl⟩
  · rw [if_neg (by omega)]
    unfold Ut.wid
    by_cases h2 : c < 128
    · rw [if_pos (by omega)]
      go_enter Try.func32, Try.ntmps32
      go_wp2
      go_ret
      exact ⟨rfl, rfl⟩
    · rw [if_neg (by omega)]
      by_cases h3 : c < 2048
      · rw [if_pos (by omega)]
        go_enter Try.func32, Try.ntmps32
        go_wp2
        go_ret
        exact ⟨rfl, rfl⟩
      · rw [if_neg (by omega), if_pos (by omega)]
        go_enter Try.func32, Try.ntmps32
        go_wp2
        go_ret
        exact ⟨rfl, rfl⟩
set_option maxHeartbeats 1000000 in
theorem head_any (n : Nat) (w : World) (h0 : 0 < n) (h4 : n ≤ 4) :
    Calls Try.prog 33 #[.int .i64 (n : Nat)] w fun e w' => e = .returned (.int .u8 ((Ut.hd n : Nat) : Int)) ∧ w' = w := by
  obtain rfl | rfl | rfl | rfl : n = 1 ∨ n = 2 ∨ n = 3 ∨ n = 4 := by omega
  · go_enter Try.func33, Try.ntmps33
    go_wp2_with fail
    refine (lengthBits_any 1 _ (by decide) (by decide)).mono ?_
    rintro e w1 ⟨rfl, rfl⟩
    rw [show ((Ut.lb 1 : Nat) : Int) = 1 from rfl]
    go_wp2_with fail
    go_ret
    exact ⟨rfl, rfl⟩
  · go_enter Try.func33, Try.ntmps33
    go_wp2_with fail
    refine (lengthBits_any 2 _ (by decide) (by decide)).mono ?_
    rintro e w1 ⟨rfl, rfl⟩
    rw [show ((Ut.lb 2 : Nat) : Int) = 3 from rfl]
    go_wp2_with fail
    go_ret
    exact ⟨rfl, rfl⟩
  · go_enter Try.func33, Try.ntmps33
    go_wp2_with fail
    refine (lengthBits_any 3 _ (by decide) (by decide)).mono ?_
    rintro e w1 ⟨rfl, rfl⟩
    rw [show ((Ut.lb 3 : Nat) : Int) = 4 from rfl]
    go_wp2_with fail
    go_ret
    exact ⟨rfl, rfl⟩
  · go_enter Try.func33, Try.ntmps33
    go_wp2_with fail
    refine (lengthBits_any 4 _ (by decide) (by decide)).mono ?_
    rintro e w1 ⟨rfl, rfl⟩
    rw [show ((Ut.lb 4 : Nat) : Int) = 5 from rfl]
    go_wp2_with fail
    go_ret
    exact ⟨rfl, rfl⟩
theorem mk_bytes (n : Nat) (hn : n ≤ 4294967296) (u : World) : (Instr.makeSlice 33 (.int .i64 (n : Int)) (.int .i64 (n : Int))).run Try.prog u = .ok (.slice (some ⟨u.heap.size, 0, none⟩) n n) (u.alloc (.cells (Array.replicate n (Value.int .u8 0)) 5)) := by
  obtain ⟨i0, hi, hz0, hz1, hz2⟩ := info_parts Try.infoU8
  have h := run_make (P := Try.prog) u 33 5 i0 (.int .u8 0) Try.underlying33 hi hz0 .i64 .i64 (n : Int) (n : Int) (by omega) (Int.le_refl _) (by rw [hz2]; omega) (by omega)
  have made : ∀ m : Nat, madeCells #[Value.int .u8 0] m = Array.replicate m (Value.int .u8 0) := fun m => by
    apply Array.toList_inj.1
    rw [toList_madeCells_one, Array.toList_replicate]
  rw [← made]
  simpa [hz1, Value.cells] using h
namespace Ut
/-- The cells when k bytes are laid. -/
def putCells (n c k : Nat) : Array Value := (List.replicate (n - k) (Value.int .u8 0) ++ bc (tl c k)).toArray
theorem putCells_size (n c k : Nat) (h : k ≤ n) : (putCells n c k).size = n := by
  unfold putCells
  simp [bc_length, tl_length]
  omega
theorem putCells_zero (n c : Nat) : putCells n c 0 = Array.replicate n (Value.int .u8 0) := by
  unfold putCells
  simp [bc, tl]
theorem set_last (m : Nat) (z x : Value) (l : List Value) : (List.replicate (m + 1) z ++ l).set m x = List.replicate m z ++ x :: l := by
  induction m with
  | zero => rfl
  | succ m ih =>
    rw [List.replicate_succ, List.cons_append, List.set_cons_succ, ih]
    rfl
theorem putCells_set (n c k m : Nat) (h : n = k + m + 1) : (putCells n c k).setIfInBounds m (.int .u8 ((128 + c / 64 ^ k % 64 : Nat) : Int)) = putCells n c (k + 1) := by
  unfold putCells
  rw [show n - k = m + 1 from by omega, show n - (k + 1) = m from by omega, List.setIfInBounds_toArray, set_last]
  rw [show tl c (k + 1) = UInt8.ofNat (128 + c / 64 ^ k % 64) :: tl c k from rfl]
  unfold bc
  rw [List.map_cons, toNat_ofNat _ (by omega)]
theorem or128 (b : Nat) (hb : b < 9223372036854775808) : bits .or .u8 128 (bits .and .i64 (b : Int) 63 % 256) = ((128 + b % 64 : Nat) : Int) := by
  have e0 := and_i64 b 63 hb (by omega)
  rw [and63] at e0
  have e1 : (bits .and .i64 (b : Int) 63 % 256) = ((b % 64 : Nat) : Int) := by
    rw [show (63 : Int) = ((63 : Nat) : Int) from rfl, e0]
    omega
  rw [e1]
  have e := or_u8 128 (b % 64) (by omega) (by omega)
  have := Nat.two_pow_add_eq_or_of_lt (i := 7) (show b % 64 < 2 ^ 7 from by omega) 1
  rw [show (128 : Nat) = 2 ^ 7 * 1 from rfl, ← this] at e
  exact e
theorem or_top (a i d : Nat) (ha : a < 256) (h : a = 2 ^ i * (a / 2 ^ i)) (hd : d < 2 ^ i) (h8 : 2 ^ i ≤ 128) : bits .or .u8 (a : Int) ((d : Int) % 256) = ((a + d : Nat) : Int) := by
  have e := or_u8 a d ha (by omega)
  have := Nat.two_pow_add_eq_or_of_lt hd (a / 2 ^ i)
  rw [← h] at this
  rw [this]
  rw [← e]
  congr 1
  omega
theorem or_hd (c : Nat) (h : Sc c) : bits .or .u8 ((hd (wid c) : Nat) : Int) (((c / 64 ^ (wid c - 1) : Nat) : Int) % 256) = ((hd (wid c) + c / 64 ^ (wid c - 1) : Nat) : Int) := by
  have h1 := h.1
  have hw : wid c = if c < 128 then 1 else if c < 2048 then 2 else if c < 65536 then 3 else 4 := rfl
  by_cases h2 : c < 128
  · rw [if_pos h2] at hw
    rw [hw]
    exact or_top 0 7 _ (by decide) (by decide) (by show c / 1 < 128; omega) (by decide)
  · rw [if_neg h2] at hw
    by_cases h3 : c < 2048
    · rw [if_pos h3] at hw
      rw [hw]
      exact or_top 192 5 _ (by decide) (by decide) (by show c / 64 < 32; omega) (by decide)
    · rw [if_neg h3] at hw
      by_cases h4 : c < 65536
      · rw [if_pos h4] at hw
        rw [hw]
        exact or_top 224 4 _ (by decide) (by decide) (by show c / 4096 < 16; omega) (by decide)
      · rw [if_neg h4] at hw
        rw [hw]
        exact or_top 240 3 _ (by decide) (by decide) (by show c / 262144 < 8; omega) (by decide)
/-- All cells of a scalar's bytes. -/
theorem putCells_all (c : Nat) (h : Sc c) : (putCells (wid c) c (wid c - 1)).setIfInBounds 0 (.int .u8 ((hd (wid c) + c / 64 ^ (wid c - 1) : Nat) : Int)) = (bc (enc c)).toArray := by
  have hp := wid_pos c
  have hlt : hd (wid c) + c / 64 ^ (wid c - 1) < 256 := by
    have h1 := h.1
    have hw : wid c = if c < 128 then 1 else if c < 2048 then 2 else if c < 65536 then 3 else 4 := rfl
    by_cases h2 : c < 128
    · rw [if_pos h2] at hw
      rw [hw]
      show 0 + c / 1 < 256
      omega
    · rw [if_neg h2] at hw
      by_cases h3 : c < 2048
      · rw [if_pos h3] at hw
        rw [hw]
        show 192 + c / 64 < 256
        omega
      · rw [if_neg h3] at hw
        by_cases h4 : c < 65536
        · rw [if_pos h4] at hw
          rw [hw]
          show 224 + c / 4096 < 256
          omega
        · rw [if_neg h4] at hw
          rw [hw]
          show 240 + c / 262144 < 256
          omega
  unfold putCells
  rw [enc_sc c h, show wid c - (wid c - 1) = 0 + 1 from by omega, List.setIfInBounds_toArray, set_last]
  unfold bc
  rw [List.map_cons, toNat_ofNat _ hlt]
  rfl
end Ut
/-- string(b), where b's cells are those bytes. -/
theorem string_of (w : World) (g n cap : Nat) (l : List UInt8) (fr : Nat × Nat) (hn : n = l.length) (h : w.heap[g]? = some (.cells (Ut.bc l).toArray 5 fr)) :
    Sem.run Try.prog (convert 33 9 (.slice (some ⟨g, 0, none⟩) n cap)) w = .ok (.string ⟨l.toArray⟩) w := by
  subst hn
  refine run_convert_bytes_back w 33 9 5 ⟨g, 0, none⟩ cap l Try.underlying33 Try.underlying5 Try.underlying9 ?_
  intro j hj
  have e : (⟨g, 0, none⟩ : Addr).add j = ⟨g, j, none⟩ := by cases j <;> simp [Addr.add]
  rw [e, Lib.cell_of_heap h, List.getElem?_toArray]
  unfold Ut.bc
  rw [List.getElem?_map, List.getElem?_eq_getElem hj]
  rfl
set_option maxHeartbeats 2000000 in
theorem Put_some (c n : Nat) (w : World) (hc : Ut.Sc c) (hn : n = Ut.wid c) :
    Calls Try.prog 21 #[.int .i64 (c : Nat)] w fun e w' => e = .returned (.string ⟨(Ut.enc c).toArray⟩) ∧ Below w.heap.size w w' := by
  have hwz := hidden (Ut.widz_sc c hc)
  have hn0 : 0 < n := by rw [hn]; exact Ut.wid_pos c
  have hn4 : n ≤ 4 := by rw [hn]; exact Ut.wid_le c
  have hnz : ((n : Int) == 0) = false := by rw [beq_eq_false_iff_ne]; omega
  have hmk := mk_bytes n (by omega)
  have HC := hidden hc
  have HN := hidden hn
  clear hn hc
  go_enter Try.func21, Try.ntmps21
  go_wp2_with fail
  refine (width_any c _).mono ?_
  rintro e w1 ⟨rfl, rfl⟩
  rw [hwz.out, ← HN.out]
  go_wp2_with fail
  go_loopw [0, 5] (fun v i wr => ∃ k : Nat, k < n ∧ i = .int .i64 ((n : Int) - 1 - (k : Int)) ∧ v = .int .i64 ((c / 64 ^ k : Nat) : Int) ∧ wr.heap[w1.heap.size]? = some (.cells (Ut.putCells n c k) 5 (0, 0)) ∧ Below w1.heap.size w1 wr) (fun _ i _ => (intOf i).toNat)
  case atStart =>
    refine ⟨0, hn0, by simp, by simp, ?_, (Below.refl _ _).alloc (Nat.le_refl _) _⟩
    rw [heap_alloc_new, Ut.putCells_zero]
  case round =>
    obtain ⟨k, hk, rfl, rfl, hw, hb⟩ := hrel
    have HB := hidden hb
    have HW := hidden hw
    clear hb
    have hcc : c / 64 ^ k ≤ 1114111 := Nat.le_trans (Nat.div_le_self _ _) HC.out.1
    obtain ⟨d, hd⟩ : ∃ d, d = c / 64 ^ k := ⟨_, rfl⟩
    rw [← hd] at hcc ⊢
    have HD := hidden hd
    clear hd
    by_cases hlt : k + 1 < n
    · obtain ⟨m, hm⟩ : ∃ m : Nat, n = k + m + 1 := ⟨n - k - 1, by omega⟩
      have hm1 : (n : Int) - 1 - (k : Int) = (m : Int) := by omega
      have hm0 : 0 < m := by omega
      have d0 : wr.cell? ⟨w1.heap.size, m, none⟩ = some (.int .u8 0) := by
        rw [Lib.cell_of_heap hw]
        unfold Ut.putCells
        rw [List.getElem?_toArray, List.getElem?_append_left (by rw [List.length_replicate]; omega), List.getElem?_replicate, if_pos (by omega)]
      have d1 : wr.frozen? ⟨w1.heap.size, m, none⟩ = false := Lib.frozen_of_heap hw m
      have hor := hidden (Ut.or128 d (by omega))
      rw [hm1]
      clear hw
      have HM := hidden hm
      clear hm
      go_wp2_with fail
      go_roundw
      case rel =>
        refine ⟨k + 1, hlt, by go_num, ?_, ?_, HB.out.setCell (Nat.le_refl _) _⟩
        · rw [Nat.pow_succ, ← Nat.div_div_eq_div_mul, ← HD.out]
          rfl
        · rw [setCell_heap_same _ _ _ _ _ _ _ HW.out, hor.out, HD.out, Ut.putCells_set n c k m HM.out]
      case measure => simp [intOf]; omega
    · obtain rfl : n = k + 1 := by omega
      have hk1 : (((k + 1 : Nat) : Int)) - 1 - (k : Int) = 0 := by omega
      have d0 : wr.cell? ⟨w1.heap.size, 0, none⟩ = some (.int .u8 0) := by
        rw [Lib.cell_of_heap hw]
        unfold Ut.putCells
        rw [List.getElem?_toArray, List.getElem?_append_left (by rw [List.length_replicate]; omega), List.getElem?_replicate, if_pos (by omega)]
      have d1 : wr.frozen? ⟨w1.heap.size, 0, none⟩ = false := Lib.frozen_of_heap hw 0
      rw [hk1]
      have hor : bits .or .u8 ((Ut.hd (k + 1) : Nat) : Int) ((d : Int) % 256) = ((Ut.hd (k + 1) + d : Nat) : Int) := by
        have := Ut.or_hd c HC.out
        rw [← HN.out, Nat.add_sub_cancel, ← HD.out] at this
        exact this
      have hcv : Sem.run Try.prog (convert 33 9 (.slice (some ⟨w1.heap.size, 0, none⟩) (k + 1) (k + 1))) (wr.setCell ⟨w1.heap.size, 0, none⟩ (.int .u8 (bits .or .u8 ((Ut.hd (k + 1) : Nat) : Int) ((d : Int) % 256)))) = .ok (.string ⟨(Ut.enc c).toArray⟩) (wr.setCell ⟨w1.heap.size, 0, none⟩ (.int .u8 (bits .or .u8 ((Ut.hd (k + 1) : Nat) : Int) ((d : Int) % 256)))) := by
        refine string_of _ _ _ _ (Ut.enc c) (0, 0) (by rw [Ut.enc_length c HC.out, HN.out]) ?_
        rw [setCell_heap_same _ _ _ _ _ _ _ HW.out, hor]
        have := Ut.putCells_all c HC.out
        rw [← HN.out, Nat.add_sub_cancel, ← HD.out] at this
        rw [this]
      clear hw hor
      go_wp2_with fail
      refine (head_any (k + 1) _ hn0 hn4).mono ?_
      rintro e w2 ⟨rfl, rfl⟩
      go_wp2_with fail
      go_ret
      exact ⟨rfl, HB.out.setCell (Nat.le_refl _) _⟩
set_option maxHeartbeats 1000000 in
theorem Put_none (c : Int) (w : World) (hc : Ut.widz c = 0) :
    Calls Try.prog 21 #[.int .i64 c] w fun e w' => e = .returned (.string ⟨#[]⟩) ∧ w' = w := by
  have HC := hidden hc
  clear hc
  go_enter Try.func21, Try.ntmps21
  go_wp2_with fail
  refine (width_any c _).mono ?_
  rintro e w1 ⟨rfl, rfl⟩
  rw [HC.out]
  go_wp2_with fail
  go_ret
  exact ⟨rfl, rfl⟩
theorem Put_any (c : Int) (w : World) :
    Calls Try.prog 21 #[.int .i64 c] w fun e w' => e = .returned (.string ⟨(Ut.encz c).toArray⟩) ∧ Below w.heap.size w w' := by
  by_cases h : Ut.widz c = 0
  · rw [Ut.widz_none c h]
    refine (Put_none c w h).mono ?_
    rintro e w' ⟨rfl, rfl⟩
    exact ⟨rfl, Below.refl _ _⟩
  · obtain ⟨d, rfl, hd⟩ := Ut.widz_some c h
    rw [Ut.encz_nat]
    exact Put_some d (Ut.wid d) w hd rfl
end Go.Proofs.Ytjhjkahjljikhaa
