/-
  The contracts of what package num tells of a number's columns: broken, number, against; memory is but made.
-/
import Derived.Lib.Builder
import Derived.Lib.Bytealg
import Derived.Lib.UnsafeStr
import Derived.Laws.Rows
import Derived.Laws.Tables
import Derived.Laws.Externs
import Derived.Laws.ResultCell
import Derived.BigQuiet
import Derived.Test.YthimbaflodphmaaDoorNuText
namespace Go.Proofs.YthimbaflodphmaaDoor
open Go.RowKit
open Nu
namespace Nu
/-- -1, 0, 1: less, as great, greater. -/
def cmp3 (a b : Int) : Int := if a < b then -1 else if b < a then 1 else 0
/-- Columns as bytes. -/
def colB (K : Nat) : List UInt8 := (col K).map UInt8.ofNat
theorem colB_length (K : Nat) : (colB K).length = 21 := by simp [colB, col]
theorem colB_at (K i : Nat) (h : i < (colB K).length) : ((colB K)[i]).toNat = 48 + K / 10 ^ (20 - i) % 10 := by
  rw [colB_length] at h
  simp [colB, col]
  omega
theorem colB_digs (K : Nat) : ∀ c ∈ colB K, dig c = true := by
  intro c hc
  obtain ⟨i, hi, rfl⟩ := List.mem_iff_getElem.1 hc
  have := colB_at K i hi
  unfold dig
  rw [this]
  simp
  omega
theorem num_digits : ∀ (n K : Nat), num ((List.range n).map fun i => UInt8.ofNat (48 + K / 10 ^ (n - 1 - i) % 10)) = K % 10 ^ n := by
  intro n
  induction n with
  | zero => intro K; simp [num_nil, Nat.mod_one]
  | succ n ih =>
    intro K
    rw [List.range_succ, List.map_append, List.map_singleton, num_snoc]
    have e : (List.range n).map (fun i => UInt8.ofNat (48 + K / 10 ^ (n + 1 - 1 - i) % 10)) = (List.range n).map (fun i => UInt8.ofNat (48 + (K / 10) / 10 ^ (n - 1 - i) % 10)) := by
      apply List.map_congr_left
      intro i hi
      have hi2 : i < n := by simpa using hi
      rw [Nat.div_div_eq_div_mul, ← Nat.pow_succ', show (n - 1 - i).succ = n + 1 - 1 - i by omega]
    rw [e, ih (K / 10)]
    have h1 : (UInt8.ofNat (48 + K / 10 ^ (n + 1 - 1 - n) % 10)).toNat = 48 + K % 10 := by
      rw [show n + 1 - 1 - n = 0 by omega, Nat.pow_zero, Nat.div_one]
      simp
      omega
    rw [h1, Nat.pow_succ', Nat.mod_mul]
    omega
theorem num_colB (K : Nat) (h : K < 10 ^ 21) : num (colB K) = K := by
  have e : colB K = (List.range 21).map fun i => UInt8.ofNat (48 + K / 10 ^ (21 - 1 - i) % 10) := by
    rw [colB, col, List.map_map]
    rfl
  rw [e, num_digits, Nat.mod_eq_of_lt h]
theorem compare_num : ∀ (a b : List UInt8), (∀ c ∈ a, dig c = true) → (∀ c ∈ b, dig c = true) → a.length = b.length → Lib.compareBytes a b = cmp3 (num a) (num b) := by
  intro a
  induction a with
  | nil =>
    intro b _ _ hl
    obtain rfl : b = [] := List.eq_nil_of_length_eq_zero hl.symm
    rfl
  | cons x a ih =>
    intro b ha hb hl
    cases b with
    | nil => simp at hl
    | cons y b =>
      rw [List.length_cons, List.length_cons] at hl
      have hl2 : a.length = b.length := by omega
      have hx := dig_le (ha x (by simp))
      have hy := dig_le (hb y (by simp))
      have h1 := num_lt a (fun c hc => ha c (by simp [hc]))
      have h2 := num_lt b (fun c hc => hb c (by simp [hc]))
      have hi := ih b (fun c hc => ha c (by simp [hc])) (fun c hc => hb c (by simp [hc])) hl2
      rw [Lib.compareBytes, num_cons, num_cons, hl2]
      rw [hl2] at h1
      have hlt : ∀ u v : UInt8, (u < v) ↔ (u.toNat < v.toNat) := fun u v => UInt8.lt_iff_toNat_lt
      by_cases h3 : x.toNat < y.toNat
      · rw [if_pos ((hlt x y).2 h3), cmp3, if_pos]
        have : (x.toNat - 48 + 1) * 10 ^ b.length ≤ (y.toNat - 48) * 10 ^ b.length := Nat.mul_le_mul_right _ (by omega)
        rw [Nat.add_mul] at this
        omega
      · rw [if_neg (fun e => h3 ((hlt x y).1 e))]
        by_cases h4 : y.toNat < x.toNat
        · have : (y.toNat - 48 + 1) * 10 ^ b.length ≤ (x.toNat - 48) * 10 ^ b.length := Nat.mul_le_mul_right _ (by omega)
          rw [Nat.add_mul] at this
          rw [if_pos ((hlt y x).2 h4), cmp3, if_neg (by omega), if_pos (by omega)]
        · rw [if_neg (fun e => h4 ((hlt y x).1 e)), hi, show x.toNat = y.toNat by omega]
          unfold cmp3
          have e1 : (((num a : Nat) : Int) < (num b : Nat)) ↔ ((((y.toNat - 48) * 10 ^ b.length + num a : Nat) : Int) < (((y.toNat - 48) * 10 ^ b.length + num b : Nat) : Int)) := by omega
          have e2 : (((num b : Nat) : Int) < (num a : Nat)) ↔ ((((y.toNat - 48) * 10 ^ b.length + num b : Nat) : Int) < (((y.toNat - 48) * 10 ^ b.length + num a : Nat) : Int)) := by omega
          simp only [e1, e2]
/-- Columns as the program has them. -/
def cv (K : Nat) : Array Value := ((colB K).map fun c => Value.int .u8 (c.toNat : Int)).toArray
theorem cv_size (K : Nat) : (cv K).size = 21 := by rw [cv, List.size_toArray, List.length_map, colB_length]
theorem cv_at (K i : Nat) (h : i < 21) : (cv K)[i]? = some (.int .u8 ((48 + K / 10 ^ (20 - i) % 10 : Nat) : Int)) := by
  have h2 : i < (colB K).length := by rw [colB_length]; exact h
  rw [cv, List.getElem?_toArray, List.getElem?_map, List.getElem?_eq_getElem h2, ← colB_at K i h2]
  rfl
theorem cv_byte (K i : Nat) (x : UInt8) (h : (colB K)[i]? = some x) : (cv K)[i]? = some (.int .u8 x.toNat) := by
  rw [cv, List.getElem?_toArray, List.getElem?_map, h]
  rfl
theorem cv_one (K : Nat) : (cv K).all (·.oneCell') = true := by
  rw [cv, List.all_toArray, List.all_eq_true]
  intro v hv
  obtain ⟨n, _, rfl⟩ := List.mem_map.1 hv
  rfl
theorem heap_alloc_size' (w : World) (o : Obj) : (w.alloc o).heap.size = w.heap.size + 1 := by simp
theorem below_drewN {B : Nat} {a w : World} (h : Below B a w) (n : Nat) : Below B a (w.drewN n) := ⟨h.os, h.tape, h.output, h.size, h.block⟩
theorem run_bytes {P : Program} (w : World) : ∀ (l : List UInt8) (a : Addr) (acc : ByteArray), (∀ j x, l[j]? = some x → w.cell? (a.add j) = some (.int .u8 x.toNat)) →
    (Extern.Bytes.loadBytes a l.length acc).run P w = .ok ⟨acc.data ++ l.toArray⟩ w
  | [], a, acc, _ => by simp [Extern.Bytes.loadBytes]
  | x :: l, a, acc, h => by
    have h0 : w.cell? a = some (.int .u8 x.toNat) := by
      have := h 0 x rfl
      simpa [Addr.add] using this
    have ih := run_bytes (P := P) w l (a.add 1) (acc.push x) (fun j y hy => by
      have := h (j + 1) y (by simpa using hy)
      have e : (a.add 1).add j = a.add (j + 1) := by
        unfold Addr.add
        by_cases hj : j = 0
        · subst hj; simp
        · simp [hj]; omega
      rw [e]; exact this)
    have hx : ((x.toNat : Int).toNat).toUInt8 = x := by simp
    simp only [List.length_cons, Extern.Bytes.loadBytes, Sem.run_bind, run_load, h0, Result.andThen, hx]
    rw [ih]
    congr 1
    apply ByteArray.ext
    simp [ByteArray.push]
theorem sizeCols : (Tryd.prog.info? 40).map (·.size) = some 21 := by kernel_rfl
theorem sizeCv (K : Nat) : (Tryd.prog.info? 40).map (·.size) = some (cv K).size := by rw [cv_size]; exact sizeCols
end Nu
set_option maxHeartbeats 1000000 in
set_option maxRecDepth 100000 in
theorem broken_any (K : Nat) (w : World) :
    Calls Tryd.prog 20 #[.agg (cv K)] w fun e w' => e = .returned (.bool (K % 10 != 0)) ∧ Below w.heap.size w w' := by
  have hc := Lib.cell_of_heap (heap_alloc_new w (.cells (cv K) 40)) 20
  rw [cv_at K 20 (by decide)] at hc
  go_enter Tryd.func20, Tryd.ntmps20
  go_wp2
  go_ret
  refine ⟨ret_bool ?_, (Below.refl _ _).alloc (Nat.le_refl _) _⟩
  rw [Bool.eq_iff_iff, bne_iff_ne, bne_iff_ne]
  omega
set_option maxHeartbeats 1000000 in
set_option maxRecDepth 100000 in
theorem number_any (K : Nat) (hK : K ≤ 90071992547409910) (w : World) :
    Calls Tryd.prog 23 #[.agg (cv K)] w fun e w' => e = .returned (.int .i64 ((K / 10 : Nat) : Int)) ∧ Below w.heap.size w w' := by
  have hc : ∀ i, i < 20 → (w.alloc (.cells (cv K) 40)).cell? ⟨w.heap.size, i, none⟩ = some (.int .u8 ((48 + K / 10 ^ (20 - i) % 10 : Nat) : Int)) := fun i hi => by
    rw [Lib.cell_of_heap (heap_alloc_new w (.cells (cv K) 40)) i]
    exact cv_at K i (by omega)
  have hb : Below w.heap.size w (w.alloc (.cells (cv K) 40)) := (Below.refl _ _).alloc (Nat.le_refl _) _
  have hal : Tryd.prog.arrayLen 40 = 21 := by simp [Program.arrayLen, Tryd.underlying40]
  have HC := hidden hc
  have HB := hidden hb
  clear hc hb
  go_enter Tryd.func23, Tryd.ntmps23
  go_wp2_with fail
  go_loop [3, 8] (fun v i => ∃ k : Nat, k ≤ 20 ∧ i = .int .i64 k ∧ v = .int .i64 ((K / 10 ^ (21 - k) : Nat) : Int)) (fun _ i => 20 - (intOf i).toNat)
  case atStart => exact ⟨0, by omega, rfl, by rw [Nat.sub_zero, Nat.div_eq_of_lt (by omega)]; rfl⟩
  case round =>
    obtain ⟨k, hk, rfl, rfl⟩ := hrel
    by_cases hlt : k < 20
    · have hck := HC.out k hlt
      have he : K / 10 ^ (21 - (k + 1)) = 10 * (K / 10 ^ (21 - k)) + K / 10 ^ (20 - k) % 10 := by
        have : K / 10 ^ (21 - k) = K / 10 ^ (20 - k) / 10 := by rw [show 21 - k = (20 - k) + 1 by omega, Nat.pow_succ, Nat.div_div_eq_div_mul]
        rw [this, show 21 - (k + 1) = 20 - k by omega]
        omega
      have hle : K / 10 ^ (21 - (k + 1)) ≤ 90071992547409910 := Nat.le_trans (Nat.div_le_self _ _) hK
      obtain ⟨d, hd⟩ : ∃ d, d = K / 10 ^ (20 - k) % 10 := ⟨_, rfl⟩
      have hd9 : d ≤ 9 := by omega
      obtain ⟨x, hx⟩ : ∃ x, x = K / 10 ^ (21 - k) := ⟨_, rfl⟩
      obtain ⟨y, hy⟩ : ∃ y, y = K / 10 ^ (21 - (k + 1)) := ⟨_, rfl⟩
      rw [← hd] at hck he
      rw [← hx] at he
      rw [← hy] at he hle
      rw [← hx]
      have HY := hidden hy
      have HE := hidden he
      have hx10 : 10 * x + d ≤ 90071992547409910 := by omega
      clear hx hy hd he hle
      go_wp2_with fail
      go_round
      case rel => exact ⟨k + 1, by omega, by go_num, by rw [← HY.out, HE.out]; go_num⟩
      case measure => simp [intOf]; omega
    · obtain rfl : k = 20 := by omega
      go_wp2_with fail
      go_ret
      exact ⟨rfl, HB.out⟩
set_option maxHeartbeats 1000000 in
set_option maxRecDepth 100000 in
theorem bcmp_any (g h K M : Nat) (hK : K < 10 ^ 21) (hM : M < 10 ^ 21) (w : World) (hg : ∀ j : Nat, w.cell? ⟨g, j, none⟩ = (cv K)[j]?) (hh : ∀ j : Nat, w.cell? ⟨h, j, none⟩ = (cv M)[j]?) :
    Calls Tryd.prog 39 #[.slice (some ⟨g, 0, none⟩) 21 21, .slice (some ⟨h, 0, none⟩) 21 21] w fun e w' => e = .returned (.int .i64 (cmp3 K M)) ∧ w' = w := by
  have hadd : ∀ (b j : Nat), (⟨b, 0, none⟩ : Addr).add j = ⟨b, j, none⟩ := fun b j => by unfold Addr.add; split <;> simp_all
  have e1 := run_bytes (P := Tryd.prog) w (colB K) ⟨g, 0, none⟩ .empty (fun j x hx => by rw [hadd, hg]; exact cv_byte K j x hx)
  have e2 := run_bytes (P := Tryd.prog) w (colB M) ⟨h, 0, none⟩ .empty (fun j x hx => by rw [hadd, hh]; exact cv_byte M j x hx)
  rw [colB_length] at e1 e2
  have hrun : (Extern.BytealgCompare.compare #[.slice (some ⟨g, 0, none⟩) 21 21, .slice (some ⟨h, 0, none⟩) 21 21]).run Tryd.prog w = .ok (.int .i64 (cmp3 K M)) w := by
    change Sem.run Tryd.prog (do pure (goInt (Extern.BytealgCompare.cmp (← Extern.Bytes.bytesOf (.slice (some ⟨g, 0, none⟩) 21 21)) (← Extern.Bytes.bytesOf (.slice (some ⟨h, 0, none⟩) 21 21))))) w = _
    simp only [Extern.Bytes.bytesOf, Sem.run_bind, Sem.run_pure, Result.andThen, e1, e2]
    rw [Lib.cmp_eq]
    have f1 : ∀ l : List UInt8, (ByteArray.mk (ByteArray.empty.data ++ l.toArray)).data.toList = l := fun l => by simp
    rw [f1, f1, compare_num _ _ (colB_digs K) (colB_digs M) (by rw [colB_length, colB_length]), num_colB K hK, num_colB M hM]
    rfl
  clear e1 e2 hadd hg hh
  go_enter Tryd.func39, Tryd.ntmps39
  go_wp2
  rw [run_callFunc_extern Tryd.func47 (by kernel_rfl) (by kernel_rfl) (by kernel_rfl) (e := Extern.BytealgCompare.compare) (by kernel_rfl), hrun]
  simp only [Result.andThen]
  rw [Oper.upon_value]
  go_wp2
  go_ret
  exact ⟨rfl, rfl⟩
set_option maxHeartbeats 1000000 in
set_option maxRecDepth 100000 in
theorem against_any (K M : Nat) (hK : K < 10 ^ 21) (hM : M < 10 ^ 21) (w : World) :
    Calls Tryd.prog 21 #[.agg (cv K), .agg (cv M)] w fun e w' => e = .returned (.int .i64 (cmp3 K M)) ∧ Below w.heap.size w w' := by
  have hg : ∀ j : Nat, ((w.alloc (.cells (cv K) 40)).alloc (.cells (cv M) 40)).cell? ⟨w.heap.size, j, none⟩ = (cv K)[j]? := fun j =>
    Lib.cell_of_heap ((Below.heap_alloc _ _ _ (by simp)).trans (heap_alloc_new w (.cells (cv K) 40))) j
  have hh : ∀ j : Nat, ((w.alloc (.cells (cv K) 40)).alloc (.cells (cv M) 40)).cell? ⟨w.heap.size + 1, j, none⟩ = (cv M)[j]? := fun j =>
    Lib.cell_of_heap (by rw [← heap_alloc_size']; exact heap_alloc_new _ _) j
  have hb : Below w.heap.size w ((w.alloc (.cells (cv K) 40)).alloc (.cells (cv M) 40)) := ((Below.refl _ _).alloc (Nat.le_refl _) _).alloc (by simp) _
  have hal : Tryd.prog.arrayLen 40 = 21 := by simp [Program.arrayLen, Tryd.underlying40]
  have HG := hidden hg
  have HH := hidden hh
  have HB := hidden hb
  clear hg hh hb
  go_enter Tryd.func21, Tryd.ntmps21
  go_wp2_with fail
  generalize hw : (w.alloc (.cells (cv K) 40)).alloc (.cells (cv M) 40) = w1
  rw [hw] at HG HH HB
  clear hw
  go_quiet ((go_at_call 39; exact Calls.quiet_of_same (bcmp_any _ _ K M hK hM _ HG.out HH.out)))
  go_wp2_with fail
  go_ret
  exact ⟨rfl, below_drewN HB.out _⟩
end Go.Proofs.YthimbaflodphmaaDoor
