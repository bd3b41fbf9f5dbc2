/-
  The contracts of package utf's Step, and of what it calls: the state behind a byte; nothing in memory is changed.
  The contracts of package utf's walk, Live, Right and leading: for every string; nothing in memory is changed.
  The contracts of package utf's lengthBits and Scalar: for every string; what was there is not changed.
  The contracts of package utf's width, head and Put: for every number; nothing that was there is changed.
  The contracts of awake and of laceworkref09's Put and Step: for every number; nothing that was there is changed.
  The contract of laceworkref09's Scalar: for every string; nothing that was there is changed.
-/
import Derived.WalkKit
import Derived.WalkSpells
import Derived.WalkLawsBesides
import Derived.BigQuiet
import Derived.Deep.QuietTactic
import Derived.Laws.Bits64b
import Derived.Laws.IdiomStrings
import Derived.Laws.MakeOwn
import Derived.Lib.Builder
import Derived.Laws.BytesArg
import Derived.Lib.QuietBelow
import Derived.Test.YtoipliflphbeiaaGreatDoorC01
import Derived.Test.YtoipliflphbeiaaGreatDoorC00
namespace Go.Proofs.YtoipliflphbeiaaGreatDoor
open Go.RowKit
set_option maxHeartbeats 1000000 in
set_option maxRecDepth 100000 in
theorem begin_any (b : Nat) (w : World) :
    Calls Tryz.prog 185 #[.int .u8 (b : Nat)] w fun e w' => e = .returned (.int .i64 ((Ut.st 0 b : Nat) : Int)) ∧ w' = w := by
  rcases Ut.st0 b with ⟨h3, e⟩ | ⟨h2, h3, e⟩ | ⟨h2, h3, e⟩ | ⟨h3, e⟩ | ⟨h3, e⟩ | ⟨h3, h4, h5, e⟩ | ⟨h3, e⟩ | ⟨h3, h4, e⟩ | ⟨h3, e⟩ | ⟨h3, e⟩
  all_goals rw [e]
  all_goals clear e
  all_goals first | subst h3 | skip
  all_goals go_enter Tryz.func185, Tryz.ntmps185
  all_goals go_wp2
  all_goals go_ret
  all_goals exact ⟨rfl, rfl⟩
set_option maxHeartbeats 1000000 in
theorem uwithin_any (b lo hi : Nat) (q : Int) (w : World) :
    Calls Tryz.prog 186 #[.int .u8 (b : Nat), .int .u8 (lo : Nat), .int .u8 (hi : Nat), .int .i64 q] w fun e w' => e = .returned (.int .i64 (if lo ≤ b ∧ b ≤ hi then q else 8)) ∧ w' = w := by
  by_cases h1 : b < lo
  · rw [if_neg (by omega)]
    go_enter Tryz.func186, Tryz.ntmps186
    go_wp2
    go_ret
    exact ⟨rfl, rfl⟩
  · by_cases h2 : hi < b
    · rw [if_neg (by omega)]
      go_enter Tryz.func186, Tryz.ntmps186
      go_wp2
      go_ret
      exact ⟨rfl, rfl⟩
    · rw [if_pos (by omega)]
      go_enter Tryz.func186, Tryz.ntmps186
      go_wp2
      go_ret
      exact ⟨rfl, rfl⟩
theorem within_at (b : Nat) (lo hi q : Int) (x : Nat) (w : World) (l h p : Nat) (hl : lo = (l : Int)) (hh : hi = (h : Int)) (hq : q = (p : Int)) (hx : x = if l ≤ b ∧ b ≤ h then p else 8) :
    Calls Tryz.prog 186 #[.int .u8 (b : Nat), .int .u8 lo, .int .u8 hi, .int .i64 q] w fun e w' => e = .returned (.int .i64 ((x : Nat) : Int)) ∧ w' = w := by
  subst hl
  subst hh
  subst hq
  refine (uwithin_any b l h p w).mono ?_
  rintro e w' ⟨rfl, rfl⟩
  refine ⟨?_, rfl⟩
  rw [hx]
  apply ret_int
  split <;> rfl
set_option maxHeartbeats 2000000 in
set_option maxRecDepth 100000 in
theorem Step_in (q b : Nat) (hq : q ≤ 7) (w : World) :
    Calls Tryz.prog 173 #[.int .i64 (q : Nat), .int .u8 (b : Nat)] w fun e w' => e = .returned (.int .i64 ((Ut.st q b : Nat) : Int)) ∧ w' = w := by
  obtain rfl | rfl | rfl | rfl | rfl | rfl | rfl | rfl : q = 0 ∨ q = 1 ∨ q = 2 ∨ q = 3 ∨ q = 4 ∨ q = 5 ∨ q = 6 ∨ q = 7 := by omega
  · go_enter Tryz.func173, Tryz.ntmps173
    go_wp2_with fail
    refine (begin_any b _).mono ?_
    rintro e w1 ⟨rfl, rfl⟩
    go_wp2_with fail
    go_ret
    exact ⟨rfl, rfl⟩
  · go_enter Tryz.func173, Tryz.ntmps173
    go_wp2_with fail
    refine (within_at b _ _ _ (Ut.st 1 b) _ 128 191 0 rfl rfl rfl rfl).mono ?_
    rintro e w1 ⟨rfl, rfl⟩
    go_wp2_with fail
    go_ret
    exact ⟨rfl, rfl⟩
  · go_enter Tryz.func173, Tryz.ntmps173
    go_wp2_with fail
    refine (within_at b _ _ _ (Ut.st 2 b) _ 128 191 1 rfl rfl rfl rfl).mono ?_
    rintro e w1 ⟨rfl, rfl⟩
    go_wp2_with fail
    go_ret
    exact ⟨rfl, rfl⟩
  · go_enter Tryz.func173, Tryz.ntmps173
    go_wp2_with fail
    refine (within_at b _ _ _ (Ut.st 3 b) _ 128 191 2 rfl rfl rfl rfl).mono ?_
    rintro e w1 ⟨rfl, rfl⟩
    go_wp2_with fail
    go_ret
    exact ⟨rfl, rfl⟩
  · go_enter Tryz.func173, Tryz.ntmps173
    go_wp2_with fail
    refine (within_at b _ _ _ (Ut.st 4 b) _ 160 191 1 rfl rfl rfl rfl).mono ?_
    rintro e w1 ⟨rfl, rfl⟩
    go_wp2_with fail
    go_ret
    exact ⟨rfl, rfl⟩
  · go_enter Tryz.func173, Tryz.ntmps173
    go_wp2_with fail
    refine (within_at b _ _ _ (Ut.st 5 b) _ 128 159 1 rfl rfl rfl rfl).mono ?_
    rintro e w1 ⟨rfl, rfl⟩
    go_wp2_with fail
    go_ret
    exact ⟨rfl, rfl⟩
  · go_enter Tryz.func173, Tryz.ntmps173
    go_wp2_with fail
    refine (within_at b _ _ _ (Ut.st 6 b) _ 144 191 2 rfl rfl rfl rfl).mono ?_
    rintro e w1 ⟨rfl, rfl⟩
    go_wp2_with fail
    go_ret
    exact ⟨rfl, rfl⟩
  · go_enter Tryz.func173, Tryz.ntmps173
    go_wp2_with fail
    refine (within_at b _ _ _ (Ut.st 7 b) _ 128 143 2 rfl rfl rfl rfl).mono ?_
    rintro e w1 ⟨rfl, rfl⟩
    go_wp2_with fail
    go_ret
    exact ⟨rfl, rfl⟩
set_option maxHeartbeats 1000000 in
set_option maxRecDepth 100000 in
theorem Step_out (z : Int) (b : Nat) (hz : z < 0 ∨ 7 < z) (w : World) :
    Calls Tryz.prog 173 #[.int .i64 z, .int .u8 (b : Nat)] w fun e w' => e = .returned (.int .i64 8) ∧ w' = w := by
  have h0 : (z == 0) = false := by rw [beq_eq_false_iff_ne]; omega
  have h1 : (z == 1) = false := by rw [beq_eq_false_iff_ne]; omega
  have h2 : (z == 2) = false := by rw [beq_eq_false_iff_ne]; omega
  have h3 : (z == 3) = false := by rw [beq_eq_false_iff_ne]; omega
  have h4 : (z == 4) = false := by rw [beq_eq_false_iff_ne]; omega
  have h5 : (z == 5) = false := by rw [beq_eq_false_iff_ne]; omega
  have h6 : (z == 6) = false := by rw [beq_eq_false_iff_ne]; omega
  have h7 : (z == 7) = false := by rw [beq_eq_false_iff_ne]; omega
  clear hz
  go_enter Tryz.func173, Tryz.ntmps173
  go_wp2
  go_ret
  exact ⟨rfl, rfl⟩
theorem Step_any (z : Int) (b : Nat) (w : World) :
    Calls Tryz.prog 173 #[.int .i64 z, .int .u8 (b : Nat)] w fun e w' => e = .returned (.int .i64 ((Ut.stz z b : Nat) : Int)) ∧ w' = w := by
  by_cases hz : z < 0 ∨ 7 < z
  · rw [show Ut.stz z b = 8 from if_pos hz]
    exact Step_out z b hz w
  · obtain ⟨q, rfl⟩ := Int.eq_ofNat_of_zero_le (show 0 ≤ z from by omega)
    rw [Ut.stz_nat q b (by omega)]
    exact Step_in q b (by omega) w
/-- Of a state that a step has told. -/
theorem Step_nat (q b : Nat) (hq : q ≤ 8) (w : World) :
    Calls Tryz.prog 173 #[.int .i64 (q : Nat), .int .u8 (b : Nat)] w fun e w' => e = .returned (.int .i64 ((Ut.st q b : Nat) : Int)) ∧ w' = w := by
  rw [← Ut.stz_nat q b hq]
  exact Step_any q b w
end Go.Proofs.YtoipliflphbeiaaGreatDoor
namespace Go.Proofs.YtoipliflphbeiaaGreatDoor
open Go.RowKit
theorem utake_next (s : ByteArray) (q k : Nat) (h : k < s.size) : Ut.run q (s.data.toList.take (k + 1)) = Ut.st (Ut.run q (s.data.toList.take k)) (s[k]).toNat := Ut.run_take_succ q s.data.toList k h
theorem take_all (s : ByteArray) : s.data.toList.take s.size = s.data.toList := List.take_length
set_option maxHeartbeats 1000000 in
theorem walk_any (s : ByteArray) (w : World) (hs : s.size ≤ 9223372036854775807) :
    Calls Tryz.prog 148 #[.string s] w fun e w' => e = .returned (.tuple #[.int .i64 ((Ut.alive 0 s.data.toList : Nat) : Int), .int .i64 ((Ut.run 0 s.data.toList : Nat) : Int)]) ∧ w' = w := by
  go_enter Tryz.func148, Tryz.ntmps148
  go_wp2_with fail
  go_loop [4, 8] (fun v i => ∃ k : Nat, k ≤ s.size ∧ i = .int .i64 k ∧ v = .int .i64 ((Ut.run 0 (s.data.toList.take k) : Nat) : Int) ∧ Ut.run 0 (s.data.toList.take k) ≤ 7) (fun _ i => s.size - (intOf i).toNat)
  case atStart => exact ⟨0, by omega, rfl, rfl, Nat.zero_le _⟩
  case round =>
    obtain ⟨k, hk, rfl, rfl, h8⟩ := hrel
    by_cases hlt : k < s.size
    · have hn := utake_next s 0 k hlt
      have hd := Ut.died 0 s.data.toList k hlt (by omega)
      obtain ⟨q, hq⟩ : ∃ q, q = Ut.run 0 (s.data.toList.take k) := ⟨_, rfl⟩
      rw [← hq] at hn hd h8
      rw [← hq]
      have hle := Ut.st_le q (s[k]).toNat
      obtain ⟨p, hp⟩ : ∃ p, p = Ut.st q (s[k]).toNat := ⟨_, rfl⟩
      have hd2 : p = 8 → _ := fun e => hd (hp.symm.trans e)
      rw [← hp] at hn hle
      have HN := hidden hn
      have HD := hidden hd2
      have HP := hidden hp
      clear hn hd hd2 hp hq
      by_cases h : p = 8
      · have hD := HD.out h
        have HD2 := hidden hD
        clear hD
        have HH := hidden h
        go_wp2_with fail
        refine (Step_nat q _ (by omega) _).mono ?_
        rintro e w1 ⟨rfl, rfl⟩
        rw [← HP.out, HH.out]
        go_wp2_with fail
        go_ret2
        rw [HD2.out.1, HD2.out.2]
        exact ⟨rfl, rfl⟩
      · have h7 : p ≤ 7 := by omega
        have hb : (((p : Nat) : Int) == 8) = false := by rw [beq_eq_false_iff_ne]; omega
        clear h
        go_wp2_with fail
        refine (Step_nat q _ (by omega) _).mono ?_
        rintro e w1 ⟨rfl, rfl⟩
        rw [← HP.out]
        go_wp2_with fail
        go_round
        case rel => exact ⟨k + 1, by omega, by go_num, by rw [HN.out], by rw [HN.out]; exact h7⟩
        case measure => simp [intOf]; omega
    · obtain rfl : k = s.size := by omega
      rw [take_all] at h8
      rw [take_all]
      have ha := hidden (Ut.alive_all 0 s.data.toList (by omega))
      have HS : Hid (s.data.toList.length = s.size) := hidden rfl
      obtain ⟨q, hq⟩ : ∃ q, q = Ut.run 0 s.data.toList := ⟨_, rfl⟩
      rw [← hq] at h8
      rw [← hq]
      have HQ := hidden hq
      clear hq
      go_wp2_with fail
      go_ret2
      rw [ha.out, HS.out, ← HQ.out]
      exact ⟨rfl, rfl⟩
theorem Live_any (s : ByteArray) (w : World) (hs : s.size ≤ 9223372036854775807) :
    Calls Tryz.prog 121 #[.string s] w fun e w' => e = .returned (.int .i64 ((Ut.alive 0 s.data.toList : Nat) : Int)) ∧ w' = w := by
  go_enter Tryz.func121, Tryz.ntmps121
  go_wp2_with fail
  refine (walk_any s _ hs).mono ?_
  rintro e w1 ⟨rfl, rfl⟩
  go_wp2_with fail
  go_ret
  exact ⟨rfl, rfl⟩
end Go.Proofs.YtoipliflphbeiaaGreatDoor
namespace Go.Proofs.YtoipliflphbeiaaGreatDoor
open Go.RowKit
namespace Ut
theorem top_lt (n b : Nat) : top n b < 128 := by
  unfold top
  repeat' split
  all_goals omega
theorem vl_lt (l : List UInt8) (n k : Nat) : vl l n k < 128 * 64 ^ k := by
  induction k with
  | zero => exact top_lt _ _
  | succ k ih =>
    unfold vl
    rw [Nat.pow_succ]
    omega
theorem vl_zero (s : ByteArray) (n : Nat) (h : 0 < s.size) : top n s[0].toNat = vl s.data.toList n 0 := by
  show _ = top n (s.data.toList.getD 0 0).toNat
  rw [List.getD_eq_getElem?_getD, List.getElem?_eq_getElem (show 0 < s.data.toList.length from h)]
  rfl
theorem vl_next (s : ByteArray) (n k : Nat) (h : k + 1 < s.size) : vl s.data.toList n (k + 1) = vl s.data.toList n k * 64 + s[k + 1].toNat % 64 := by
  show _ + (s.data.toList.getD (k + 1) 0).toNat % 64 = _
  rw [List.getD_eq_getElem?_getD, List.getElem?_eq_getElem (show k + 1 < s.data.toList.length from h)]
  rfl
end Ut
end Go.Proofs.YtoipliflphbeiaaGreatDoor
namespace Go.Proofs.YtoipliflphbeiaaGreatDoor
open Go.RowKit
theorem Tryz.infoU8 : (Tryz.prog.info? 5).map (fun i => (i.zero, i.size, i.bytes)) = some (some (.int .u8 0), 1, 1) := by kernel_rfl
theorem uheap_new_at {w : World} {o : Obj} {k : Nat} (hk : k = w.heap.size) : (w.alloc o).heap[k]? = some o := by
  subst hk
  exact heap_alloc_new _ _
theorem usetCell_heap_same (w : World) (g j : Nat) (cur : Array Value) (e : TypeId) (fr : Nat × Nat) (u : Value) (h : w.heap[g]? = some (.cells cur e fr)) : (w.setCell ⟨g, j, none⟩ u).heap[g]? = some (.cells (cur.setIfInBounds j u) e fr) := by
  simp [World.setCell, Array.getElem?_modify, h]
namespace Ut
/-- Bytes as cells. -/
def bc (l : List UInt8) : List Value := l.map fun b => .int .u8 (b.toNat : Int)
theorem bc_length (l : List UInt8) : (bc l).length = l.length := List.length_map ..
/-- The bytes of any number. -/
def encz (c : Int) : List UInt8 := if c < 0 then [] else enc c.toNat
theorem encz_nat (c : Nat) : encz (c : Int) = enc c := by
  unfold encz
  rw [if_neg (by omega)]
  rfl
/-- How many bytes any number has. -/
def widz (c : Int) : Nat := if c < 0 ∨ 55296 ≤ c ∧ c < 57344 ∨ 1114111 < c then 0 else wid c.toNat
theorem widz_none (c : Int) (h : widz c = 0) : encz c = [] := by
  unfold widz at h
  unfold encz
  split at h
  · rename_i h1
    split
    · rfl
    · refine enc_none _ (fun h2 => ?_)
      have := h2.1
      have := h2.2
      omega
  · have := wid_pos c.toNat
    omega
theorem widz_some (c : Int) (h : widz c ≠ 0) : ∃ d : Nat, c = d ∧ Sc d := by
  unfold widz at h
  split at h
  · exact absurd rfl h
  · refine ⟨c.toNat, by omega, ?_, ?_⟩ <;> omega
end Ut
end Go.Proofs.YtoipliflphbeiaaGreatDoor
namespace Go.Proofs.YtoipliflphbeiaaGreatDoor
open Go.RowKit
theorem bytes_new (xs : List Int) (n : Nat) (cs : Array Value) (hn : xs.length = n) (hcs : cs = (xs.map (Value.int .u8)).toArray) (u : World) :
    Sem.run Tryz.prog (convert 38 9 (.slice (some ⟨u.heap.size, 0, none⟩) n n)) (u.alloc (.cells cs 5)) = .ok (.string (strOfNums xs)) (u.alloc (.cells cs 5)) := by
  subst hcs
  refine run_convert_bytes_arg _ 38 5 Tryz.underlying38 Tryz.underlying5 _ 0 n n xs hn ?_ 9 Tryz.underlying9
  intro i hi
  rw [Nat.zero_add, Lib.cell_of_heap (heap_alloc_new _ _), List.getElem?_toArray, List.getElem?_map, List.getElem?_eq_getElem (by omega), List.getD_eq_getElem?_getD, List.getElem?_eq_getElem (by omega)]
  rfl
theorem ret_nums {xs : List Int} {l : List UInt8} (ns : List Nat) (h1 : xs = ns.map (fun n : Nat => (n : Int))) (h2 : l = ns.map UInt8.ofNat) : Ending.returned (.string (strOfNums xs)) = .returned (.string ⟨l.toArray⟩) := by
  subst h1
  subst h2
  unfold strOfNums
  rw [List.map_map]
  rfl
set_option maxHeartbeats 4000000 in
set_option maxRecDepth 100000 in
theorem rPut_some (z : Int) (c : Nat) (w : World) (hz : z = (c : Int)) (hc : Ut.Sc c) :
    Calls Tryz.prog 182 #[.int .i64 z] w fun e w' => e = .returned (.string ⟨(Ut.enc c).toArray⟩) ∧ Below w.heap.size w w' := by
  have hc0 : 0 ≤ z := by omega
  have hc1 : z ≤ 1114111 := by have := hc.1; omega
  have b1 : ∀ (x : Int) (u : World), _ := fun x u => bytes_new [x] 1 #[.int .u8 x] rfl rfl u
  have b2 : ∀ (x y : Int) (u : World), _ := fun x y u => bytes_new [x, y] 2 #[.int .u8 x, .int .u8 y] rfl rfl u
  have b3 : ∀ (x y z : Int) (u : World), _ := fun x y z u => bytes_new [x, y, z] 3 #[.int .u8 x, .int .u8 y, .int .u8 z] rfl rfl u
  have b4 : ∀ (x y z t : Int) (u : World), _ := fun x y z t u => bytes_new [x, y, z, t] 4 #[.int .u8 x, .int .u8 y, .int .u8 z, .int .u8 t] rfl rfl u
  have HC := hidden hc
  have HZ := hidden hz
  clear hc hz
  by_cases h1 : z < 128
  · clear b2 b3 b4
    have h4 : ¬ 55296 ≤ z := by omega
    go_enter Tryz.func182, Tryz.ntmps182
    go_wp2_with fail
    go_ret
    refine ⟨?_, (Below.refl _ _).alloc (Nat.le_refl _) _⟩
    rw [Ut.enc1 c (by have := HZ.out; omega)]
    refine ret_nums [c] ?_ rfl
    rw [HZ.out]
    rfl
  · by_cases h2 : z < 2048
    · clear b1 b3 b4
      have h4 : ¬ 55296 ≤ z := by omega
      go_enter Tryz.func182, Tryz.ntmps182
      go_wp2_with fail
      go_ret
      refine ⟨?_, (Below.refl _ _).alloc (Nat.le_refl _) _⟩
      rw [Ut.enc2 c (by have := HZ.out; omega) (by have := HZ.out; omega)]
      refine ret_nums [192 + c / 64, 128 + c % 64] ?_ rfl
      rw [HZ.out]
      simp
    · by_cases h3 : z < 65536
      · clear b1 b2 b4
        by_cases h4 : 55296 ≤ z
        · have h6 : ¬ z ≤ 57343 := by have := HC.out.2; have := HZ.out; omega
          go_enter Tryz.func182, Tryz.ntmps182
          go_wp2_with fail
          go_ret
          refine ⟨?_, (Below.refl _ _).alloc (Nat.le_refl _) _⟩
          rw [Ut.enc3 c (by have := HZ.out; omega) (by have := HZ.out; omega) HC.out.2]
          refine ret_nums [224 + c / 4096, 128 + c / 64 % 64, 128 + c % 64] ?_ rfl
          rw [HZ.out]
          simp
        · go_enter Tryz.func182, Tryz.ntmps182
          go_wp2_with fail
          go_ret
          refine ⟨?_, (Below.refl _ _).alloc (Nat.le_refl _) _⟩
          rw [Ut.enc3 c (by have := HZ.out; omega) (by have := HZ.out; omega) HC.out.2]
          refine ret_nums [224 + c / 4096, 128 + c / 64 % 64, 128 + c % 64] ?_ rfl
          rw [HZ.out]
          simp
      · clear b1 b2 b3
        have h4 : 55296 ≤ z := by omega
        have h6 : ¬ z ≤ 57343 := by omega
        go_enter Tryz.func182, Tryz.ntmps182
        go_wp2_with fail
        go_ret
        refine ⟨?_, (Below.refl _ _).alloc (Nat.le_refl _) _⟩
        rw [Ut.enc4 c (by have := HZ.out; omega) HC.out.1]
        refine ret_nums [240 + c / 262144, 128 + c / 4096 % 64, 128 + c / 64 % 64, 128 + c % 64] ?_ rfl
        rw [HZ.out]
        simp
set_option maxHeartbeats 1000000 in
theorem rPut_none (c : Int) (w : World) (hc : Ut.widz c = 0) :
    Calls Tryz.prog 182 #[.int .i64 c] w fun e w' => e = .returned (.string ⟨#[]⟩) ∧ w' = w := by
  have h : c < 0 ∨ 55296 ≤ c ∧ c < 57344 ∨ 1114111 < c := by
    unfold Ut.widz at hc
    split at hc
    · assumption
    · have := Ut.wid_pos c.toNat
      omega
  clear hc
  by_cases h1 : c < 0
  · go_enter Tryz.func182, Tryz.ntmps182
    go_wp2_with fail
    go_ret
    exact ⟨rfl, rfl⟩
  · by_cases h2 : 1114111 < c
    · go_enter Tryz.func182, Tryz.ntmps182
      go_wp2_with fail
      go_ret
      exact ⟨rfl, rfl⟩
    · have h3 : 55296 ≤ c := by omega
      have h4 : c ≤ 57343 := by omega
      clear h
      go_enter Tryz.func182, Tryz.ntmps182
      go_wp2_with fail
      go_ret
      exact ⟨rfl, rfl⟩
theorem urPut_any (c : Int) (w : World) :
    Calls Tryz.prog 182 #[.int .i64 c] w fun e w' => e = .returned (.string ⟨(Ut.encz c).toArray⟩) ∧ Below w.heap.size w w' := by
  by_cases h : Ut.widz c = 0
  · rw [Ut.widz_none c h]
    refine (rPut_none c w h).mono ?_
    rintro e w' ⟨rfl, rfl⟩
    exact ⟨rfl, Below.refl _ _⟩
  · obtain ⟨d, rfl, hd⟩ := Ut.widz_some c h
    rw [Ut.encz_nat]
    exact rPut_some d d w rfl hd
end Go.Proofs.YtoipliflphbeiaaGreatDoor
namespace Go.Proofs.YtoipliflphbeiaaGreatDoor
open Go.RowKit Go.Sort
namespace Ut
theorem extract_list (s : ByteArray) (a b : Nat) : (s.extract a b).data.toList = (s.data.toList.drop a).take (b - a) := by
  obtain ⟨⟨l⟩⟩ := s
  rw [ByteArray.extract_mk]
theorem extract_take (s : ByteArray) (n : Nat) : (s.extract 0 n).data.toList = s.data.toList.take n := by
  rw [extract_list, List.drop_zero, Nat.sub_zero]
theorem first (s : ByteArray) (h : 0 < s.size) : s.data.toList = s[0] :: s.data.toList.tail := by
  obtain ⟨⟨l⟩⟩ := s
  cases l with
  | nil => exact absurd h (by simp [ByteArray.size])
  | cons a l => rfl
theorem sc_nil (s : ByteArray) (h : s.size = 0) : sc s.data.toList = (0, 0) := by
  have : s.data.toList = [] := List.eq_nil_of_length_eq_zero h
  rw [this]
  rfl
theorem sc_byte (s : ByteArray) (h : 0 < s.size) (h2 : s[0].toNat < 128) : sc s.data.toList = (s[0].toNat, 1) := by
  have h1 : ld 0 s.data.toList = 1 := by
    rw [first s h]
    exact ld_byte _ _ h2
  have h3 := vl_zero s 1 h
  unfold sc
  rw [h1, if_neg (by decide), ← h3]
  show (s[0].toNat % 128, 1) = _
  rw [Nat.mod_eq_of_lt h2]
theorem sc_odd (s : ByteArray) (h : 0 < s.size) (h2 : rn s[0].toNat = 0) : sc s.data.toList = (0, 0) := by
  have h1 : ld 0 s.data.toList = 0 := by
    rw [first s h]
    exact ld_odd _ _ h2
  unfold sc
  rw [h1, if_pos rfl]
theorem sc_short (s : ByteArray) (h : 0 < s.size) (h2 : s.size < rn s[0].toNat) : sc s.data.toList = (0, 0) := by
  have hl : s.data.toList.length = s.size := rfl
  have h1 : ld 0 s.data.toList = 0 := by
    rw [first s h]
    refine ld_short _ _ ?_
    rw [List.length_tail, hl]
    omega
  unfold sc
  rw [h1, if_pos rfl]
theorem sc_long (s : ByteArray) (n : Nat) (h : 0 < s.size) (hn : rn s[0].toNat = n) (h0 : n ≠ 0) (h2 : n ≤ s.size) : (enc (vl s.data.toList n (n - 1)) = s.data.toList.take n ∧ sc s.data.toList = (vl s.data.toList n (n - 1), n)) ∨ (enc (vl s.data.toList n (n - 1)) ≠ s.data.toList.take n ∧ sc s.data.toList = (0, 0)) := by
  have hl : s.data.toList.length = s.size := rfl
  have := back_any s[0] s.data.toList.tail (by rw [hn]; exact h0) (by rw [hn, List.length_tail, hl]; omega)
  rw [← first s h, hn] at this
  unfold sc
  rcases this with ⟨h3, h4⟩ | ⟨h3, h4⟩
  · refine .inl ⟨h3, ?_⟩
    rw [h4, if_neg h0]
  · refine .inr ⟨h3, ?_⟩
    rw [h4, if_pos rfl]
end Ut
set_option maxHeartbeats 2000000 in
set_option maxRecDepth 100000 in
theorem rScalar_nil (s : ByteArray) (w : World) (h : s.size = 0) :
    Calls Tryz.prog 163 #[.string s] w fun e w' => e = .returned (.tuple #[.int .i64 0, .int .i64 0]) ∧ w' = w := by
  go_enter Tryz.func163, Tryz.ntmps163
  go_wp2_with fail
  go_ret2
  exact ⟨rfl, rfl⟩
set_option maxHeartbeats 2000000 in
set_option maxRecDepth 100000 in
theorem rScalar_byte (s : ByteArray) (w : World) (h : 0 < s.size) (h2 : s[0].toNat < 128) :
    Calls Tryz.prog 163 #[.string s] w fun e w' => e = .returned (.tuple #[.int .i64 (s[0].toNat : Int), .int .i64 1]) ∧ w' = w := by
  go_enter Tryz.func163, Tryz.ntmps163
  go_wp2_with fail
  go_ret2
  exact ⟨rfl, rfl⟩
set_option maxHeartbeats 2000000 in
set_option maxRecDepth 100000 in
theorem rScalar_odd (s : ByteArray) (w : World) (h : 0 < s.size) (h2 : 128 ≤ s[0].toNat ∧ s[0].toNat < 192 ∨ 248 ≤ s[0].toNat) :
    Calls Tryz.prog 163 #[.string s] w fun e w' => e = .returned (.tuple #[.int .i64 0, .int .i64 0]) ∧ w' = w := by
  have hb := s[0].toNat_lt
  rcases h2 with ⟨h2, h3⟩ | h2
  · go_enter Tryz.func163, Tryz.ntmps163
    go_wp2_with fail
    go_ret2
    exact ⟨rfl, rfl⟩
  · go_enter Tryz.func163, Tryz.ntmps163
    go_wp2_with fail
    go_ret2
    exact ⟨rfl, rfl⟩
set_option maxHeartbeats 2000000 in
set_option maxRecDepth 100000 in
theorem rScalar_short2 (s : ByteArray) (w : World) (hs : s.size ≤ 9223372036854775807) (h : 0 < s.size) (h2 : 192 ≤ s[0].toNat) (h3 : s[0].toNat < 224) (h4 : s.size < 2) :
    Calls Tryz.prog 163 #[.string s] w fun e w' => e = .returned (.tuple #[.int .i64 0, .int .i64 0]) ∧ w' = w := by
  go_enter Tryz.func163, Tryz.ntmps163
  go_wp2_with fail
  go_ret2
  exact ⟨rfl, rfl⟩
set_option maxHeartbeats 2000000 in
set_option maxRecDepth 100000 in
theorem rScalar_short3 (s : ByteArray) (w : World) (hs : s.size ≤ 9223372036854775807) (h : 0 < s.size) (h2 : 224 ≤ s[0].toNat) (h3 : s[0].toNat < 240) (h4 : s.size < 3) :
    Calls Tryz.prog 163 #[.string s] w fun e w' => e = .returned (.tuple #[.int .i64 0, .int .i64 0]) ∧ w' = w := by
  go_enter Tryz.func163, Tryz.ntmps163
  go_wp2_with fail
  go_ret2
  exact ⟨rfl, rfl⟩
set_option maxHeartbeats 2000000 in
set_option maxRecDepth 100000 in
theorem rScalar_short4 (s : ByteArray) (w : World) (hs : s.size ≤ 9223372036854775807) (h : 0 < s.size) (h2 : 240 ≤ s[0].toNat) (h3 : s[0].toNat < 248) (h4 : s.size < 4) :
    Calls Tryz.prog 163 #[.string s] w fun e w' => e = .returned (.tuple #[.int .i64 0, .int .i64 0]) ∧ w' = w := by
  go_enter Tryz.func163, Tryz.ntmps163
  go_wp2_with fail
  go_ret2
  exact ⟨rfl, rfl⟩
set_option maxHeartbeats 4000000 in
set_option maxRecDepth 100000 in
theorem rScalar_long2 (s : ByteArray) (w : World) (hs : s.size ≤ 9223372036854775807) (h : 0 < s.size) (h2 : 192 ≤ s[0].toNat) (h3 : s[0].toNat < 224) (h4 : 2 ≤ s.size) :
    Calls Tryz.prog 163 #[.string s] w fun e w' => e = .returned (.tuple #[.int .i64 ((Ut.sc s.data.toList).1 : Nat), .int .i64 ((Ut.sc s.data.toList).2 : Nat)]) ∧ Below w.heap.size w w' := by
  have hv0 := Ut.vl_zero s 2 h
  have hv1 : ((s[0].toNat : Int) - 192) = ((Ut.vl s.data.toList 2 0 : Nat) : Int) := by
    rw [← hv0]
    show _ = ((s[0].toNat % 32 : Nat) : Int)
    omega
  have HV := hidden hv1
  clear hv0 hv1
  go_enter Tryz.func163, Tryz.ntmps163
  go_wp2_with fail
  rw [HV.out]
  go_loop [5, 6] (fun v i => ∃ k : Nat, k < 2 ∧ i = .int .i64 ((k : Int) + 1) ∧ v = .int .i64 ((Ut.vl s.data.toList 2 k : Nat) : Int)) (fun _ i => 2 - (intOf i).toNat)
  case atStart => exact ⟨0, by decide, rfl, rfl⟩
  case round =>
    obtain ⟨k, hk, rfl, rfl⟩ := hrel
    by_cases hlt : k + 1 < 2
    · have hi : k + 1 < s.size := by omega
      have hn := hidden (Ut.vl_next s 2 k hi)
      have hv := Ut.vl_lt s.data.toList 2 k
      have hv2 : Ut.vl s.data.toList 2 k < 33554432 := by
        refine Nat.lt_of_lt_of_le hv ?_
        obtain rfl | rfl | rfl : k = 0 ∨ k = 1 ∨ k = 2 := by omega
        all_goals decide
      have hb := s[k + 1].toNat_lt
      clear hv
      go_wp2_with fail
      go_round
      case rel => exact ⟨k + 1, hlt, by go_num, by rw [hn.out]; rfl⟩
      case measure => simp [intOf]; omega
    · obtain rfl : k = 1 := by omega
      obtain ⟨c, hc⟩ : ∃ c, c = Ut.vl s.data.toList 2 1 := ⟨_, rfl⟩
      rw [← hc]
      have hsc := Ut.sc_long s 2 h (by unfold Ut.rn; rw [if_neg (by omega), if_neg (by omega), if_pos h3]) (by decide) h4
      rw [show 2 - 1 = 1 from rfl, ← hc] at hsc
      have HSC := hidden hsc
      clear hsc hc
      have QP : Hid (∀ d os, Calls Tryz.prog 182 #[.int .i64 (c : Nat)] (grow (redrawn w d) os) fun e w'' => e = .returned (.string ⟨(Ut.enc c).toArray⟩) ∧ ∃ p : Regrown, w'' = grow (redrawn w p.d) p.os) := fun d os => by
        have := urPut_any (c : Int) (grow (redrawn w d) os)
        rw [Ut.encz_nat] at this
        exact Calls.regrown_of this
      go_wp2_with fail
      refine wp_region_quiet_below (by kernel_rfl) (by kernel_rfl) ?_
      repeat (go_big_quiet_step (first
        | (go_at_call 182; exact QP.out _ _)))
      refine wpQuiet_nil ?_
      intro _ hw'
      obtain ⟨⟨dq, osq⟩, hw''⟩ := hw'
      subst hw''
      go_wp2_with fail
      · rename_i hne
        have hne2 : Ut.enc c ≠ s.data.toList.take 2 := by
          intro e
          rw [e, Go.ByteArray.toList_eq, Ut.extract_take] at hne
          simp at hne
        rcases HSC.out with ⟨h5, _⟩ | ⟨_, h5⟩
        · exact absurd h5 hne2
        · go_ret2
          rw [h5]
          exact ⟨rfl, below_regrown w dq osq⟩
      · rename_i heq
        have heq2 : Ut.enc c = s.data.toList.take 2 := by
          rw [Go.ByteArray.toList_eq, Ut.extract_take] at heq
          simpa using heq
        rcases HSC.out with ⟨_, h5⟩ | ⟨h5, _⟩
        · go_ret2
          rw [h5]
          exact ⟨rfl, below_regrown w dq osq⟩
        · exact absurd heq2 h5
set_option maxHeartbeats 4000000 in
set_option maxRecDepth 100000 in
theorem rScalar_long3 (s : ByteArray) (w : World) (hs : s.size ≤ 9223372036854775807) (h : 0 < s.size) (h2 : 224 ≤ s[0].toNat) (h3 : s[0].toNat < 240) (h4 : 3 ≤ s.size) :
    Calls Tryz.prog 163 #[.string s] w fun e w' => e = .returned (.tuple #[.int .i64 ((Ut.sc s.data.toList).1 : Nat), .int .i64 ((Ut.sc s.data.toList).2 : Nat)]) ∧ Below w.heap.size w w' := by
  have hv0 := Ut.vl_zero s 3 h
  have hv1 : ((s[0].toNat : Int) - 224) = ((Ut.vl s.data.toList 3 0 : Nat) : Int) := by
    rw [← hv0]
    show _ = ((s[0].toNat % 16 : Nat) : Int)
    omega
  have HV := hidden hv1
  clear hv0 hv1
  go_enter Tryz.func163, Tryz.ntmps163
  go_wp2_with fail
  rw [HV.out]
  go_loop [5, 6] (fun v i => ∃ k : Nat, k < 3 ∧ i = .int .i64 ((k : Int) + 1) ∧ v = .int .i64 ((Ut.vl s.data.toList 3 k : Nat) : Int)) (fun _ i => 3 - (intOf i).toNat)
  case atStart => exact ⟨0, by decide, rfl, rfl⟩
  case round =>
    obtain ⟨k, hk, rfl, rfl⟩ := hrel
    by_cases hlt : k + 1 < 3
    · have hi : k + 1 < s.size := by omega
      have hn := hidden (Ut.vl_next s 3 k hi)
      have hv := Ut.vl_lt s.data.toList 3 k
      have hv2 : Ut.vl s.data.toList 3 k < 33554432 := by
        refine Nat.lt_of_lt_of_le hv ?_
        obtain rfl | rfl | rfl : k = 0 ∨ k = 1 ∨ k = 2 := by omega
        all_goals decide
      have hb := s[k + 1].toNat_lt
      clear hv
      go_wp2_with fail
      go_round
      case rel => exact ⟨k + 1, hlt, by go_num, by rw [hn.out]; rfl⟩
      case measure => simp [intOf]; omega
    · obtain rfl : k = 2 := by omega
      obtain ⟨c, hc⟩ : ∃ c, c = Ut.vl s.data.toList 3 2 := ⟨_, rfl⟩
      rw [← hc]
      have hsc := Ut.sc_long s 3 h (by unfold Ut.rn; rw [if_neg (by omega), if_neg (by omega), if_neg (by omega), if_pos h3]) (by decide) h4
      rw [show 3 - 1 = 2 from rfl, ← hc] at hsc
      have HSC := hidden hsc
      clear hsc hc
      have QP : Hid (∀ d os, Calls Tryz.prog 182 #[.int .i64 (c : Nat)] (grow (redrawn w d) os) fun e w'' => e = .returned (.string ⟨(Ut.enc c).toArray⟩) ∧ ∃ p : Regrown, w'' = grow (redrawn w p.d) p.os) := fun d os => by
        have := urPut_any (c : Int) (grow (redrawn w d) os)
        rw [Ut.encz_nat] at this
        exact Calls.regrown_of this
      go_wp2_with fail
      refine wp_region_quiet_below (by kernel_rfl) (by kernel_rfl) ?_
      repeat (go_big_quiet_step (first
        | (go_at_call 182; exact QP.out _ _)))
      refine wpQuiet_nil ?_
      intro _ hw'
      obtain ⟨⟨dq, osq⟩, hw''⟩ := hw'
      subst hw''
      go_wp2_with fail
      · rename_i hne
        have hne2 : Ut.enc c ≠ s.data.toList.take 3 := by
          intro e
          rw [e, Go.ByteArray.toList_eq, Ut.extract_take] at hne
          simp at hne
        rcases HSC.out with ⟨h5, _⟩ | ⟨_, h5⟩
        · exact absurd h5 hne2
        · go_ret2
          rw [h5]
          exact ⟨rfl, below_regrown w dq osq⟩
      · rename_i heq
        have heq2 : Ut.enc c = s.data.toList.take 3 := by
          rw [Go.ByteArray.toList_eq, Ut.extract_take] at heq
          simpa using heq
        rcases HSC.out with ⟨_, h5⟩ | ⟨h5, _⟩
        · go_ret2
          rw [h5]
          exact ⟨rfl, below_regrown w dq osq⟩
        · exact absurd heq2 h5
set_option maxHeartbeats 4000000 in
set_option maxRecDepth 100000 in
theorem rScalar_long4 (s : ByteArray) (w : World) (hs : s.size ≤ 9223372036854775807) (h : 0 < s.size) (h2 : 240 ≤ s[0].toNat) (h3 : s[0].toNat < 248) (h4 : 4 ≤ s.size) :
    Calls Tryz.prog 163 #[.string s] w fun e w' => e = .returned (.tuple #[.int .i64 ((Ut.sc s.data.toList).1 : Nat), .int .i64 ((Ut.sc s.data.toList).2 : Nat)]) ∧ Below w.heap.size w w' := by
  have hv0 := Ut.vl_zero s 4 h
  have hv1 : ((s[0].toNat : Int) - 240) = ((Ut.vl s.data.toList 4 0 : Nat) : Int) := by
    rw [← hv0]
    show _ = ((s[0].toNat % 8 : Nat) : Int)
    omega
  have HV := hidden hv1
  clear hv0 hv1
  go_enter Tryz.func163, Tryz.ntmps163
  go_wp2_with fail
  rw [HV.out]
  rename_i a1 a2 a3 a4 a5 a6 _k _a
  have H2 := hidden h2
  have H3 := hidden h3
  clear a1 a2 a3 a4 a5 a6 h2 h3
  go_loop [5, 6] (fun v i => ∃ k : Nat, k < 4 ∧ i = .int .i64 ((k : Int) + 1) ∧ v = .int .i64 ((Ut.vl s.data.toList 4 k : Nat) : Int)) (fun _ i => 4 - (intOf i).toNat)
  case atStart => exact ⟨0, by decide, rfl, rfl⟩
  case round =>
    obtain ⟨k, hk, rfl, rfl⟩ := hrel
    by_cases hlt : k + 1 < 4
    · have hi : k + 1 < s.size := by omega
      have hn := hidden (Ut.vl_next s 4 k hi)
      have hv := Ut.vl_lt s.data.toList 4 k
      have hv2 : Ut.vl s.data.toList 4 k < 33554432 := by
        refine Nat.lt_of_lt_of_le hv ?_
        obtain rfl | rfl | rfl : k = 0 ∨ k = 1 ∨ k = 2 := by omega
        all_goals decide
      have hb := s[k + 1].toNat_lt
      clear hv
      go_wp2_with fail
      go_round
      case rel => exact ⟨k + 1, hlt, by go_num, by rw [hn.out]; rfl⟩
      case measure => simp [intOf]; omega
    · obtain rfl : k = 3 := by omega
      obtain ⟨c, hc⟩ : ∃ c, c = Ut.vl s.data.toList 4 3 := ⟨_, rfl⟩
      rw [← hc]
      have hsc := Ut.sc_long s 4 h (by unfold Ut.rn; have h2 := H2.out; have h3 := H3.out; rw [if_neg (by omega), if_neg (by omega), if_neg (by omega), if_neg (by omega), if_pos h3]) (by decide) h4
      rw [show 4 - 1 = 3 from rfl, ← hc] at hsc
      have HSC := hidden hsc
      clear hsc hc
      have QP : Hid (∀ d os, Calls Tryz.prog 182 #[.int .i64 (c : Nat)] (grow (redrawn w d) os) fun e w'' => e = .returned (.string ⟨(Ut.enc c).toArray⟩) ∧ ∃ p : Regrown, w'' = grow (redrawn w p.d) p.os) := fun d os => by
        have := urPut_any (c : Int) (grow (redrawn w d) os)
        rw [Ut.encz_nat] at this
        exact Calls.regrown_of this
      go_wp2_with fail
      refine wp_region_quiet_below (by kernel_rfl) (by kernel_rfl) ?_
      repeat (go_big_quiet_step (first
        | (go_at_call 182; exact QP.out _ _)))
      refine wpQuiet_nil ?_
      intro _ hw'
      obtain ⟨⟨dq, osq⟩, hw''⟩ := hw'
      subst hw''
      go_wp2_with fail
      · rename_i hne
        have hne2 : Ut.enc c ≠ s.data.toList.take 4 := by
          intro e
          rw [e, Go.ByteArray.toList_eq, Ut.extract_take] at hne
          simp at hne
        rcases HSC.out with ⟨h5, _⟩ | ⟨_, h5⟩
        · exact absurd h5 hne2
        · go_ret2
          rw [h5]
          exact ⟨rfl, below_regrown w dq osq⟩
      · rename_i heq
        have heq2 : Ut.enc c = s.data.toList.take 4 := by
          rw [Go.ByteArray.toList_eq, Ut.extract_take] at heq
          simpa using heq
        rcases HSC.out with ⟨_, h5⟩ | ⟨h5, _⟩
        · go_ret2
          rw [h5]
          exact ⟨rfl, below_regrown w dq osq⟩
        · exact absurd heq2 h5
theorem rScalar_any (s : ByteArray) (w : World) (hs : s.size ≤ 9223372036854775807) :
    Calls Tryz.prog 163 #[.string s] w fun e w' => e = .returned (.tuple #[.int .i64 ((Ut.sc s.data.toList).1 : Nat), .int .i64 ((Ut.sc s.data.toList).2 : Nat)]) ∧ Below w.heap.size w w' := by
  have none : ∀ (x : Nat × Nat), x = (0, 0) → Calls Tryz.prog 163 #[.string s] w (fun e w' => e = .returned (.tuple #[.int .i64 0, .int .i64 0]) ∧ w' = w) → Calls Tryz.prog 163 #[.string s] w fun e w' => e = .returned (.tuple #[.int .i64 (x.1 : Nat), .int .i64 (x.2 : Nat)]) ∧ Below w.heap.size w w' := by
    intro x hx h
    subst hx
    refine h.mono ?_
    rintro e w' ⟨rfl, rfl⟩
    exact ⟨rfl, Below.refl _ _⟩
  by_cases h0 : s.size = 0
  · exact none _ (Ut.sc_nil s h0) (rScalar_nil s w h0)
  · have h : 0 < s.size := by omega
    have hr : Ut.rn s[0].toNat = if s[0].toNat < 128 then 1 else if s[0].toNat < 192 then 0 else if s[0].toNat < 224 then 2 else if s[0].toNat < 240 then 3 else if s[0].toNat < 248 then 4 else 0 := rfl
    by_cases h1 : s[0].toNat < 128
    · rw [Ut.sc_byte s h h1]
      refine (rScalar_byte s w h h1).mono ?_
      rintro e w' ⟨rfl, rfl⟩
      exact ⟨rfl, Below.refl _ _⟩
    rw [if_neg h1] at hr
    by_cases h2 : s[0].toNat < 192
    · rw [if_pos h2] at hr
      exact none _ (Ut.sc_odd s h hr) (rScalar_odd s w h (.inl ⟨by omega, h2⟩))
    rw [if_neg h2] at hr
    by_cases h3 : s[0].toNat < 224
    · rw [if_pos h3] at hr
      by_cases h4 : s.size < 2
      · exact none _ (Ut.sc_short s h (by omega)) (rScalar_short2 s w hs h (by omega) h3 h4)
      · exact rScalar_long2 s w hs h (by omega) h3 (by omega)
    rw [if_neg h3] at hr
    by_cases h4 : s[0].toNat < 240
    · rw [if_pos h4] at hr
      by_cases h5 : s.size < 3
      · exact none _ (Ut.sc_short s h (by omega)) (rScalar_short3 s w hs h (by omega) h4 h5)
      · exact rScalar_long3 s w hs h (by omega) h4 (by omega)
    rw [if_neg h4] at hr
    by_cases h5 : s[0].toNat < 248
    · rw [if_pos h5] at hr
      by_cases h6 : s.size < 4
      · exact none _ (Ut.sc_short s h (by omega)) (rScalar_short4 s w hs h (by omega) h5 h6)
      · exact rScalar_long4 s w hs h (by omega) h5 (by omega)
    rw [if_neg h5] at hr
    exact none _ (Ut.sc_odd s h hr) (rScalar_odd s w h (.inr (by omega)))
end Go.Proofs.YtoipliflphbeiaaGreatDoor
