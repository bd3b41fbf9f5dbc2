/-
  The contracts of the reference's Field and Word of layer 2: for every list of bits and all places that there are; nothing in memory is changed.
  The contracts of the reference's eight and Bytes of layer 2: a number's eight bytes, and a row's bytes; nothing that was there is changed.
  The contract of the reference's Of of layer 2: of every string of at most 2000 bytes the bits of the row whose bytes it is, or that it is none's; nothing that was there is changed.
-/
import Derived.Laws.IdiomStrings
import Derived.Laws.Concat
import Derived.Test.YtoipliflphbeiaaGreatDoorJBtList
import Derived.Test.YtoipliflphbeiaaGreatDoorJBtOf
namespace Go.Proofs.YtoipliflphbeiaaGreatDoor
open Go.RowKit
namespace Bt
theorem fd_succ (X a k : Nat) : fd X a (k + 1) = fd X a k + Wd.bt X (a + k) * 2 ^ k := by
  unfold fd
  rw [Wd.mod_succ, Wd.bt_div]
theorem fd_zero (X a : Nat) : fd X a 0 = 0 := by unfold fd; simp [Nat.mod_one]
theorem fd_or (X a k : Nat) (hk : k < 64) : bits BinOp.or IntKind.u64 ((fd X a k : Nat) : Int) (IntKind.u64.wrap (2 ^ k)) = ((fd X a k + 2 ^ k : Nat) : Int) := by
  have h2 : ((2 : Int) ^ k) = ((2 ^ k : Nat) : Int) := by simp
  have hlt : 2 ^ k < 2 ^ 64 := Nat.pow_lt_pow_right (by decide) hk
  have hf := fd_lt X a k
  rw [h2, IntKind.wrap_u64, show (((2 ^ k : Nat) : Int) % 18446744073709551616) = ((2 ^ k : Nat) : Int) from by omega, bits_or_u64_nat _ _ (by omega) (by omega)]
  congr 1
  have := Nat.two_pow_add_eq_or_of_lt hf 1
  rw [Nat.mul_one] at this
  rw [Nat.or_comm, ← this, Nat.add_comm]
theorem wd_fd (X n j : Nat) (h : X < 2 ^ n) : wd X j = fd X (64 * j) (min 64 (n - 64 * j)) := by
  have e : X = cut X 0 n := by unfold cut; rw [Nat.pow_zero, Nat.div_one, Nat.mod_eq_of_lt h]
  have := wd_cut X 0 n j
  rw [← e, Nat.zero_add] at this
  exact this
end Bt
set_option maxHeartbeats 1000000 in
theorem rFld_any (L : List Bool) (v : Value) (a n : Nat) (w : World) (h : Bl w v L) (hL : L.length ≤ 4294967296) (han : a + n ≤ L.length) (hn : n ≤ 64) :
    Calls Tryz.prog 34 #[v, .int .i64 (a : Nat), .int .i64 (n : Nat)] w fun e w' => e = .returned (.int .u64 ((Bt.fd (Bt.num L) a n : Nat) : Int)) ∧ w' = w := by
  obtain ⟨ao, cap, rfl, hcap, hc⟩ := h.form
  have HC := hidden hc
  clear hc h
  go_enter Tryz.func34, Tryz.ntmps34
  go_wp2
  go_loop [7, 8] (fun s i => ∃ k : Nat, k ≤ n ∧ i = .int .i64 k ∧ s = .int .u64 ((Bt.fd (Bt.num L) a k : Nat) : Int)) (fun _ i => n - (intOf i).toNat)
  case atStart => exact ⟨0, by omega, rfl, by rw [Bt.fd_zero]; rfl⟩
  case round =>
    obtain ⟨k, hk, rfl, rfl⟩ := hrel
    by_cases hlt : k < n
    · obtain ⟨g, rfl, hg, hcell⟩ := HC.out (by omega)
      have c0 := hcell (a + k) (by omega)
      obtain ⟨o, ho⟩ : ∃ o, o = L.getD (a + k) false := ⟨_, rfl⟩
      rw [← ho] at c0
      have hs : Hid (Bt.fd (Bt.num L) a (k + 1) = Bt.fd (Bt.num L) a k + o.toNat * 2 ^ k) := by
        show _ = _
        rw [Bt.fd_succ, Bt.bt_num, ho]
      have hor := hidden (Bt.fd_or (Bt.num L) a k (by omega))
      clear hcell ho
      cases o with
      | true =>
        go_wp2
        go_round
        case rel => exact ⟨k + 1, by omega, by go_num, by rw [hor.out, hs.out]; simp⟩
        case measure => simp [intOf]; omega
      | false =>
        go_wp2
        go_round
        case rel => exact ⟨k + 1, by omega, by go_num, by rw [hs.out]; simp⟩
        case measure => simp [intOf]; omega
    · obtain rfl : k = n := by omega
      go_wp2
      go_ret
      exact ⟨rfl, rfl⟩
set_option maxHeartbeats 1000000 in
theorem rWord_in (L : List Bool) (v : Value) (i : Nat) (w : World) (h : Bl w v L) (hL : L.length ≤ 4294967296) (hi : i ≤ L.length / 64) :
    Calls Tryz.prog 67 #[v, .int .i64 (i : Nat)] w fun e w' => e = .returned (.int .u64 ((Bt.wd (Bt.num L) i : Nat) : Int)) ∧ w' = w := by
  obtain ⟨ao, cap, rfl, hcap, hc⟩ := h.form
  have HH : Hid (Bl w (.slice ao L.length cap) L) := h
  obtain ⟨A, hA⟩ : ∃ A : Nat, 64 * (i : Int) = (A : Int) := ⟨64 * i, by omega⟩
  obtain ⟨N, hN⟩ : ∃ N : Nat, min 64 ((L.length : Int) - (A : Int)) = (N : Int) := ⟨min 64 (L.length - A), by omega⟩
  have HV : Hid (Bt.wd (Bt.num L) i = Bt.fd (Bt.num L) A N) := by
    show _ = _
    rw [Bt.wd_fd _ L.length i (Bt.num_lt L), show A = 64 * i from by omega, show N = min 64 (L.length - 64 * i) from by omega]
  have h1 : A + N ≤ L.length := by omega
  have h2 : N ≤ 64 := by omega
  clear hc h
  go_enter Tryz.func67, Tryz.ntmps67
  go_wp2_with fail
  refine (rFld_any L _ A N _ HH.out hL h1 h2).mono ?_
  rintro e w1 ⟨rfl, rfl⟩
  go_wp2_with fail
  go_ret
  exact ⟨ret_int (by rw [HV.out]), rfl⟩
end Go.Proofs.YtoipliflphbeiaaGreatDoor
namespace Go.Proofs.YtoipliflphbeiaaGreatDoor
open Go.RowKit
theorem Tryz.infoByte : (Tryz.prog.info? 5).map (fun i => (i.zero, i.size, i.bytes)) = some (some (.int .u8 0), 1, 1) := by kernel_rfl
theorem eight_next {B : Nat} {w : World} {vb : Value} {v k : Nat} {c : Int} (hk : k < 8) (hc : c = ((v / 2 ^ (8 * k) % 256 : Nat) : Int)) (h : w.ownsRow B 5 1 vb (k + 1) (Lib.byteCells ((Bt.eightB v).take k) ++ [.int .u8 c])) : w.ownsRow B 5 1 vb (k + 1) (Lib.byteCells ((Bt.eightB v).take (k + 1))) := by
  have e := cells_snoc [] ((Bt.eightB v).take k) (v / 2 ^ (8 * k)) c hc
  rw [List.nil_append, List.nil_append] at e
  rw [Bt.eightB_next v k hk, ← e]
  exact h
/-- string(b) of bytes that are owned. -/
theorem conv_bytes {B n : Nat} {w : World} {vb : Value} {l : List UInt8} (h : w.ownsRow B 5 1 vb n (Lib.byteCells l)) (h0 : 0 < n) (hn : n = l.length) : (convert 38 9 vb).run Tryz.prog w = .ok (.string ⟨l.toArray⟩) w := by
  subst hn
  obtain ⟨g, cap, rfl, _, _⟩ := h.form h0
  refine run_convert_bytes_back w _ _ 5 ⟨g, 0, none⟩ cap l Tryz.underlying38 Tryz.underlying5 Tryz.underlying9 fun j hj => ?_
  refine h.cells rfl j _ ?_
  simp [Lib.byteCells, hj]
set_option maxRecDepth 100000 in
set_option maxHeartbeats 1000000 in
theorem eight_any (v : Nat) (w : World) :
    Calls Tryz.prog 66 #[.int .u64 v] w fun e w' => e = .returned (.string ⟨(Bt.eightB v).toArray⟩) ∧ Below w.heap.size w w' := by
  obtain ⟨i0, hi, hz0, hz1, hz2⟩ := info_parts Tryz.infoByte
  go_enter Tryz.func66, Tryz.ntmps66
  go_wp2
  go_loopw [3, 4] (fun vb i wr => ∃ k : Nat, k ≤ 8 ∧ i = .int .i64 k ∧ wr.ownsRow w.heap.size 5 1 vb k (Lib.byteCells ((Bt.eightB v).take k)) ∧ Below w.heap.size w wr) (fun _ i _ => 8 - (intOf i).toNat)
  case atStart => exact ⟨0, by omega, rfl, World.ownsRow_nil _ _ _ _, Below.refl _ _⟩
  case round =>
    obtain ⟨k, hk, rfl, hown, hbel⟩ := hrel
    have hsz := hbel.size
    have HW := hidden hown
    have HBL := hidden hbel
    by_cases hlt : k < 8
    · clear hown hbel
      go_wp2_with (at_builtin; refine wpList_append_one _ rfl (.tmp 9) (.tmp 15) 38 rfl w.heap.size 5 i0 (.int .u8 0) 1 Tryz.underlying38 hi hz0 hz1 hz2 rfl u3 k (Lib.byteCells ((Bt.eightB v).take k)) rfl (by exact HW.out.alloc _) _ 1 _ _ rfl (by exact heap_alloc_new _ _) rfl (by unfold maxLen; omega) (by omega) (by simp; omega) ?_; intro v2 w2 hown2 hgrow2; have HO2 := hidden hown2; have HG2 := hidden hgrow2; clear hown2 hgrow2)
      go_roundw
      case rel => exact ⟨k + 1, by omega, by go_num, eight_next hlt (by rw [Wd.div_pow]; rfl) HO2.out, (HBL.out.alloc (by omega) _).grown HG2.out (by simp; omega) (fun j hj => (HW.out.lt j hj).1)⟩
      case measure => simp [intOf]; omega
    · obtain rfl : k = 8 := by omega
      have hcv := conv_bytes hown (by omega) (by rw [List.length_take, Bt.eightB_length]; rfl)
      rw [List.take_of_length_le (by rw [Bt.eightB_length]; omega)] at hcv
      clear hown hbel
      go_wp2
      go_ret
      exact ⟨rfl, HBL.out⟩
theorem str_append (a b : List UInt8) : Value.string ((⟨a.toArray⟩ : ByteArray) ++ (⟨b.toArray⟩ : ByteArray)) = .string ⟨(a ++ b).toArray⟩ := by
  rw [ByteArray.mk_append_mk]
set_option maxHeartbeats 1000000 in
theorem rBytes_any (L : List Bool) (v : Value) (w : World) (h : Bl w v L) (hL : L.length ≤ 1048576) :
    Calls Tryz.prog 40 #[v] w fun e w' => e = .returned (.string ⟨(Bt.rowB L.length (Bt.num L)).toArray⟩) ∧ Below w.heap.size w w' := by
  obtain ⟨ao, cap, rfl, hcap, hc⟩ := h.form
  have HH : Hid (Bl w (.slice ao L.length cap) L) := h
  obtain ⟨c, hcc⟩ : ∃ c, c = (L.length + 63) / 64 := ⟨_, rfl⟩
  have HC := hidden hcc
  have hc1 : 64 * c ≤ L.length + 63 := by omega
  have hc2 : L.length ≤ 64 * c := by omega
  clear hc h hcc
  go_enter Tryz.func40, Tryz.ntmps40
  go_wp2_with fail
  refine (eight_any L.length _).mono ?_
  rintro e w1 ⟨rfl, h1⟩
  have HL1 := hidden h1
  clear h1
  go_wp2_with fail
  go_loopw [3, 4] (fun sv i wr => ∃ k : Nat, k ≤ c ∧ i = .int .i64 k ∧ sv = .string ⟨(Bt.rowTo L.length (Bt.num L) k).toArray⟩ ∧ Below w.heap.size w wr) (fun _ i _ => c - (intOf i).toNat)
  case atStart => exact ⟨0, by omega, rfl, by rw [Bt.rowTo_zero], HL1.out⟩
  case round =>
    obtain ⟨k, hk, rfl, rfl, hbel⟩ := hrel
    have hlr : (Bt.rowTo L.length (Bt.num L) k).length + (Bt.eightB (Bt.wd (Bt.num L) k)).length ≤ 9223372036854775807 := by rw [Bt.rowTo_length, Bt.eightB_length]; omega
    have HBL := hidden hbel
    have hsz := hbel.size
    by_cases hlt : k < c
    · have hlt2 : 64 * (k : Int) < (L.length : Int) := by omega
      have HBr : Hid (Bl wr (.slice ao L.length cap) L) := HH.out.below hbel (Nat.le_refl _)
      clear hbel
      go_wp2_with fail
      refine (rWord_in L _ k _ HBr.out (by omega) (by omega)).mono ?_
      rintro e w2 ⟨rfl, rfl⟩
      go_wp2_with fail
      refine (eight_any (Bt.wd (Bt.num L) k) _).mono ?_
      rintro e w3 ⟨rfl, h1⟩
      have HQ1 := hidden h1
      clear h1
      go_wp2_with fail
      go_roundw
      case rel => exact ⟨k + 1, by omega, by go_num, by rw [Bt.rowTo_succ]; exact str_append _ _, HBL.out.trans (HQ1.out.mono hsz)⟩
      case measure => simp [intOf]; omega
    · obtain rfl : k = c := by omega
      clear hbel
      go_wp2_with fail
      go_ret
      refine ⟨?_, HBL.out⟩
      show Ending.returned (.string ⟨(Bt.rowTo L.length (Bt.num L) k).toArray⟩) = _
      unfold Bt.rowB
      rw [← HC.out]
end Go.Proofs.YtoipliflphbeiaaGreatDoor
namespace Go.Proofs.YtoipliflphbeiaaGreatDoor
open Go.RowKit
namespace Bt
theorem bt_numB (l : List UInt8) (k : Nat) (h : k / 8 < l.length) : Wd.bt (numB l) k = Wd.bt (l[k / 8]).toNat (k % 8) := by
  have h1 := numB_div l (k / 8) (by omega)
  have h2 : l.drop (k / 8) = l[k / 8] :: l.drop (k / 8 + 1) := List.drop_eq_getElem_cons h
  have e : Wd.bt (numB l) k = Wd.bt (numB l / 2 ^ (8 * (k / 8))) (k % 8) := by
    rw [Wd.bt_div]
    congr 1
    omega
  rw [e, h1, h2, numB]
  have h3 : ((l[k / 8]).toNat + 256 * numB (l.drop (k / 8 + 1))) % 2 ^ 8 = (l[k / 8]).toNat := by
    have := (l[k / 8]).toNat_lt
    rw [show (2 : Nat) ^ 8 = 256 from rfl]
    omega
  have h4 := Wd.bt_mod ((l[k / 8]).toNat + 256 * numB (l.drop (k / 8 + 1))) 8 (k % 8)
  rw [h3, if_pos (by omega)] at h4
  exact h4.symm
theorem and_one_u8 (a : Nat) (ha : a < 256) : bits BinOp.and IntKind.u8 (a : Int) 1 = ((a % 2 : Nat) : Int) := by
  have h1 : (BitVec.ofInt 8 (a : Int)).toNat = a := by
    rw [BitVec.ofInt_natCast, BitVec.toNat_ofNat]
    exact Nat.mod_eq_of_lt (by omega)
  show IntKind.u8.wrap ((BitVec.ofInt 8 (a : Int) &&& BitVec.ofInt 8 1).toNat : Int) = _
  rw [BitVec.toNat_and, h1, show (BitVec.ofInt 8 1).toNat = 1 from rfl, Nat.and_one_is_mod, IntKind.wrap_u8]
  omega
theorem bit_rest (s : ByteArray) (k : Nat) (h : 8 + k / 8 < s.size) : (bits BinOp.and IntKind.u8 ((s[8 + k / 8].toNat : Int) / 2 ^ (k % 8)) 1 == 1) = (restN s).testBit k := by
  have hl : s.data.toList.length = s.size := rfl
  have hb := s[8 + k / 8].toNat_lt
  have e1 : bits BinOp.and IntKind.u8 ((s[8 + k / 8].toNat : Int) / 2 ^ (k % 8)) 1 = ((Wd.bt s[8 + k / 8].toNat (k % 8) : Nat) : Int) := by
    rw [Wd.div_pow]
    have h1 : s[8 + k / 8].toNat / 2 ^ (k % 8) < 256 := Nat.lt_of_le_of_lt (Nat.div_le_self _ _) hb
    exact and_one_u8 _ h1
  rw [e1, Bt.bt_beq, Wd.testBit_bt (restN s)]
  unfold restN
  rw [bt_numB _ _ (by rw [List.length_drop, hl]; omega), Wd.testBit_bt]
  congr 2
  rw [List.getElem_drop]
  rfl
/-- The number of the bytes from 8 - j to 7. -/
def topN (s : ByteArray) (j : Nat) : Nat := numB ((s.data.toList.take 8).drop (8 - j))
theorem topN_zero (s : ByteArray) (h : 8 ≤ s.size) : topN s 0 = 0 := by
  have hl : s.data.toList.length = s.size := rfl
  unfold topN
  rw [List.drop_of_length_le (by rw [List.length_take, hl]; omega)]
  rfl
theorem topN_succ (s : ByteArray) (j : Nat) (h : 8 ≤ s.size) (hj : j < 8) : topN s (j + 1) = topN s j * 256 + (s[7 - j]'(by omega)).toNat := by
  have hl : s.data.toList.length = s.size := rfl
  unfold topN
  have h8 : 8 - (j + 1) < (s.data.toList.take 8).length := by rw [List.length_take, hl]; omega
  rw [List.drop_eq_getElem_cons h8, numB, show 8 - (j + 1) + 1 = 8 - j from by omega, Nat.add_comm, Nat.mul_comm]
  congr 1
  congr 1
  rw [List.getElem_take]
  have e : 8 - (j + 1) = 7 - j := by omega
  simp only [e]
  rfl
theorem topN_eight (s : ByteArray) : topN s 8 = le8 s 0 := by
  unfold topN le8
  rw [Nat.sub_self, List.drop_zero, List.drop_zero]
theorem topN_le (s : ByteArray) (j : Nat) (h : 8 ≤ s.size) (hj : j ≤ 8) : topN s j ≤ le8 s 0 := by
  have hl : s.data.toList.length = s.size := rfl
  obtain ⟨h1, _⟩ := numB_split (s.data.toList.take 8) (8 - j) (by rw [List.length_take, hl]; omega)
  have hp := Nat.two_pow_pos (8 * (8 - j))
  have : topN s j ≤ 2 ^ (8 * (8 - j)) * topN s j := Nat.le_mul_of_pos_left _ hp
  unfold le8
  rw [List.drop_zero, h1]
  unfold topN at this ⊢
  omega
end Bt
/-- What the reference's Of leaves. -/
def RofPost (w : World) (l : List UInt8) (e : Ending) (w' : World) : Prop :=
  Below w.heap.size w w' ∧ ∃ v, (Bt.ofB l = none ∧ e = .returned (.tuple #[v, .bool false])) ∨ (∃ n X, Bt.ofB l = some (n, X) ∧ e = .returned (.tuple #[v, .bool true]) ∧ Bl w' v (Bt.bitsTo X n))
theorem RofPost.bad {w w' : World} {l : List UInt8} {v : Value} {e : Ending} (hb : Below w.heap.size w w') (h : Bt.ofB l = none) (he : e = .returned (.tuple #[v, .bool false])) : RofPost w l e w' := ⟨hb, v, .inl ⟨h, he⟩⟩
theorem RofPost.ok {w w' : World} {l : List UInt8} {v : Value} {n X : Nat} {e : Ending} (hb : Below w.heap.size w w') (h : Bt.ofB l = some (n, X)) (he : e = .returned (.tuple #[v, .bool true])) (hv : Bl w' v (Bt.bitsTo X n)) : RofPost w l e w' := ⟨hb, v, .inr ⟨n, X, h, he, hv⟩⟩
theorem ofB_big (s : ByteArray) (h : 4294967296 < Bt.le8 s 0) : Bt.ofB s.data.toList = none := by
  unfold Bt.ofB
  rw [take8]
  split
  · rfl
  · rw [if_neg (by omega)]
theorem ofB_short (s : ByteArray) (h : s.size < 8 ∨ s.size % 8 ≠ 0) : Bt.ofB s.data.toList = none := by
  have hl : s.data.toList.length = s.size := rfl
  unfold Bt.ofB
  rw [hl, if_pos h]
theorem ofB_wide (s : ByteArray) (h : 8 * (s.size - 8) < Bt.le8 s 0) (h8 : s.size % 8 = 0) (h8b : 8 ≤ s.size) : Bt.ofB s.data.toList = none := by
  have hl : s.data.toList.length = s.size := rfl
  unfold Bt.ofB
  rw [take8, hl]
  split
  · rfl
  · rw [if_neg (by omega)]
theorem ofB_same (s : ByteArray) (hn : Bt.le8 s 0 ≤ 4294967296) (h : s.data.toList = Bt.rowB (Bt.le8 s 0) (Bt.restN s % 2 ^ Bt.le8 s 0)) : Bt.ofB s.data.toList = some (Bt.le8 s 0, Bt.restN s % 2 ^ Bt.le8 s 0) := by
  have := Bt.ofB_row (Bt.le8 s 0) (Bt.restN s % 2 ^ Bt.le8 s 0) hn (Nat.mod_lt _ (Nat.two_pow_pos _))
  rw [← h] at this
  exact this
theorem ofB_other (s : ByteArray) (h : s.data.toList ≠ Bt.rowB (Bt.le8 s 0) (Bt.restN s % 2 ^ Bt.le8 s 0)) : Bt.ofB s.data.toList = none := by
  cases hc : Bt.ofB s.data.toList with
  | none => rfl
  | some p =>
    exfalso
    apply h
    obtain ⟨n, X⟩ := p
    have h2 := Bt.ofB_some hc
    unfold Bt.ofB at hc
    rw [take8] at hc
    split at hc
    · cases hc
    · split at hc
      · simp only [Option.some.injEq, Prod.mk.injEq] at hc
        obtain ⟨e1, e2⟩ := hc
        have e3 : Bt.restN s = X := e2
        rw [e1, e3, Nat.mod_eq_of_lt h2.2.1]
        exact h2.2.2
      · cases hc
theorem bits_own {B : Nat} {w : World} {v : Value} {X n : Nat} (h : w.ownsRow B 4 1 v n (Bt.bls (Bt.bitsTo X n))) : Bl w v (Bt.bitsTo X n) := by
  have h2 := own_base h (Nat.zero_le B)
  unfold Bl
  rw [Bt.bitsTo_length]
  exact h2
theorem bits_next {B : Nat} {w : World} {v : Value} {X k : Nat} {o : Bool} (ho : o = X.testBit k) (h : w.ownsRow B 4 1 v (k + 1) (Bt.bls (Bt.bitsTo X k) ++ [.bool o])) : w.ownsRow B 4 1 v (k + 1) (Bt.bls (Bt.bitsTo X (k + 1))) := by
  rw [Bt.bitsTo_succ, Bt.bls_append, ← ho]
  exact h
theorem bytes_toList (s : ByteArray) : s.toList = s.data.toList := Go.ByteArray.toList_eq s
theorem ret_pairV {v : Value} {a b : Bool} (h : a = b) : Ending.returned (.tuple #[v, .bool a]) = .returned (.tuple #[v, .bool b]) := by rw [h]
theorem bitsTo_mod (X n : Nat) : Bt.bitsTo (X % 2 ^ n) n = Bt.bitsTo X n := by
  unfold Bt.bitsTo
  apply List.map_congr_left
  intro i hi
  rw [Nat.testBit_mod_two_pow]
  simp [List.mem_range.1 hi]
set_option maxHeartbeats 1000000 in
theorem rOf_odd (s : ByteArray) (w : World) (hs : s.size ≤ 2000) (h : s.size < 8 ∨ (8 ≤ s.size ∧ s.size % 8 ≠ 0)) :
    Calls Tryz.prog 32 #[.string s] w fun e w' => RofPost w s.data.toList e w' := by
  have HN := hidden (ofB_short s (by omega))
  rcases h with h | ⟨h, h2⟩
  · go_enter Tryz.func32, Tryz.ntmps32
    go_wp2
    go_ret2
    exact RofPost.bad (Below.refl _ _) HN.out rfl
  · have h3 : (((s.size : Int) % 8) != 0) = true := by rw [bne_iff_ne]; omega
    have H2 := hidden h2
    clear h2
    go_enter Tryz.func32, Tryz.ntmps32
    go_wp2
    go_ret2
    exact RofPost.bad (Below.refl _ _) HN.out rfl
set_option maxRecDepth 100000 in
set_option maxHeartbeats 4000000 in
theorem rOf_even (s : ByteArray) (w : World) (hs : s.size ≤ 2000) (h8 : 8 ≤ s.size) (hm : s.size % 8 = 0) :
    Calls Tryz.prog 32 #[.string s] w fun e w' => RofPost w s.data.toList e w' := by
  obtain ⟨i0, hi, hz0, hz1, hz2⟩ := info_parts Tryz.infoBool
  have h3 : (((s.size : Int) % 8) != 0) = false := by simp; omega
  have HM := hidden hm
  clear hm
  go_enter Tryz.func32, Tryz.ntmps32
  go_wp2
  go_loop [4, 5] (fun n i => (∃ p : Nat, p < 8 ∧ i = .int .i64 (p : Nat) ∧ n = .int .i64 ((Bt.topN s (7 - p) : Nat) : Int) ∧ Bt.topN s (7 - p) ≤ 1099511628031) ∨ (i = .int .i64 (-1) ∧ n = .int .i64 ((Bt.le8 s 0 : Nat) : Int) ∧ Bt.le8 s 0 ≤ 1099511628031)) (fun _ i => (intOf i + 1).toNat)
  case atStart => exact .inl ⟨7, by omega, rfl, by rw [Nat.sub_self, Bt.topN_zero s h8]; rfl, by rw [Nat.sub_self, Bt.topN_zero s h8]; omega⟩
  case round =>
    rcases hrel with ⟨p, hp, rfl, rfl, hb⟩ | ⟨rfl, rfl, hb⟩
    · have hle := hidden (Bt.topN_le s (7 - p) h8 (by omega))
      by_cases hbig : 4294967296 < Bt.topN s (7 - p)
      · have HB := hidden (ofB_big s (by have := hle.out; omega))
        go_wp2
        go_ret2
        exact RofPost.bad (Below.refl _ _) HB.out rfl
      · have hps : p < s.size := by omega
        have hsuc : Bt.topN s (8 - p) = Bt.topN s (7 - p) * 256 + s[p].toNat := by
          have h := Bt.topN_succ s (7 - p) h8 (by omega)
          rw [show 7 - p + 1 = 8 - p from by omega] at h
          rw [h]
          have e : 7 - (7 - p) = p := by omega
          simp only [e]
        have hby := s[p].toNat_lt
        have HS := hidden hsuc
        have hnb : Bt.topN s (8 - p) ≤ 1099511628031 := by omega
        have HNB := hidden hnb
        clear hsuc hnb
        go_wp2
        go_round
        case rel =>
          by_cases h0 : p = 0
          · subst h0
            have h1 := HS.out
            have h2 := HNB.out
            rw [Nat.sub_zero, Bt.topN_eight] at h1 h2
            exact .inr ⟨rfl, by rw [h1]; simp, h2⟩
          · refine .inl ⟨p - 1, by omega, ?_, ?_, ?_⟩
            · have e : (p : Int) - 1 = ((p - 1 : Nat) : Int) := by omega
              rw [e]
            · rw [show 7 - (p - 1) = 8 - p from by omega, HS.out]
              simp
            · rw [show 7 - (p - 1) = 8 - p from by omega]
              exact HNB.out
        case measure => simp [intOf]
    · obtain ⟨n, hn⟩ : ∃ n, n = Bt.le8 s 0 := ⟨_, rfl⟩
      rw [← hn] at hb
      rw [← hn]
      have HN := hidden hn
      clear hn
      go_wp2
      obtain ⟨m, hmm⟩ : ∃ m, m = 8 * (s.size - 8) := ⟨_, rfl⟩
      have hm1 : 8 * ((s.size : Int) - 8) = (m : Int) := by omega
      have hm2 : m ≤ 15936 := by omega
      have HMM := hidden hmm
      clear hmm
      go_loopw [6, 7] (fun v i wr => ∃ k : Nat, k ≤ n ∧ k ≤ m ∧ i = .int .i64 (k : Nat) ∧ wr.ownsRow w.heap.size 4 1 v k (Bt.bls (Bt.bitsTo (Bt.restN s) k)) ∧ Below w.heap.size w wr) (fun _ i _ => m - (intOf i).toNat)
      case atStart => exact ⟨0, by omega, by omega, rfl, World.ownsRow_nil _ _ _ _, Below.refl _ _⟩
      case round =>
        obtain ⟨k, hk1, hk2, rfl, hown, hbel⟩ := hrel
        have hsz := hbel.size
        have HW := hidden hown
        have HBL := hidden hbel
        by_cases hkn : k < n
        · by_cases hkm : k < m
          · obtain ⟨o, ho⟩ : ∃ o, o = (Bt.restN s).testBit k := ⟨_, rfl⟩
            have hix : 8 + k / 8 < s.size := by have := HMM.out; omega
            have hbit : (bits BinOp.and IntKind.u8 ((s[8 + k / 8].toNat : Int) / 2 ^ (k % 8)) 1 == 1) = o := by rw [Bt.bit_rest s k hix, ho]
            have hby := s[8 + k / 8].toNat_lt
            have HO := hidden ho
            clear hown hbel ho
            go_wp2_with (at_builtin; refine wpList_append_one _ rfl (.tmp 43) (.tmp 54) 31 rfl w.heap.size 4 i0 (.bool false) 1 Tryz.underlying31 hi hz0 hz1 hz2 rfl u6 k (Bt.bls (Bt.bitsTo (Bt.restN s) k)) rfl (by exact HW.out.alloc _) _ 1 (.bool o) _ rfl (by exact heap_alloc_new _ _) rfl (by unfold maxLen; omega) (by omega) (by simp; omega) ?_; intro v2 w2 hown2 hgrow2; have HO2 := hidden hown2; have HG2 := hidden hgrow2; clear hown2 hgrow2)
            go_roundw
            case rel => exact ⟨k + 1, by omega, by omega, by go_num, bits_next HO.out HO2.out, (HBL.out.alloc (by omega) _).grown HG2.out (by simp; omega) (fun j hj => (HW.out.lt j hj).1)⟩
            case measure => simp [intOf]; omega
          · obtain rfl : k = m := by omega
            have hne : (((k : Nat) : Int) == ((n : Nat) : Int)) = false := by rw [beq_eq_false_iff_ne]; omega
            have HB := hidden (ofB_wide s (by have := HN.out; have := HMM.out; omega) HM.out h8)
            have hv := bits_own hown
            obtain ⟨ao, cap, hu, hcap, _⟩ := hv.form
            rw [Bt.bitsTo_length] at hu hcap
            subst hu
            clear hown hbel hv
            go_wp2_with fail
            go_ret2
            exact RofPost.bad HBL.out HB.out rfl
        · obtain rfl : k = n := by omega
          have hv := bits_own hown
          have HV : Hid (Bl wr u6 (Bt.bitsTo (Bt.restN s) k)) := hv
          obtain ⟨ao, cap, hu, hcap, _⟩ := hv.form
          rw [Bt.bitsTo_length] at hu hcap
          subst hu
          clear hown hbel hv
          go_wp2_with fail
          refine (rBytes_any (Bt.bitsTo (Bt.restN s) k) _ _ HV.out (by rw [Bt.bitsTo_length]; omega)).mono ?_
          rw [Bt.bitsTo_length, Bt.num_bitsTo]
          rintro e w3 ⟨rfl, h1⟩
          have HQ := hidden (HBL.out.trans (h1.mono hsz))
          have HV3 : Hid (Bl w3 (.slice ao k cap) (Bt.bitsTo (Bt.restN s) k)) := HV.out.below h1 (Nat.le_refl _)
          clear h1
          go_wp2_with fail
          go_ret2
          have hn := HN.out
          subst hn
          by_cases heq : s.data.toList = Bt.rowB (Bt.le8 s 0) (Bt.restN s % 2 ^ Bt.le8 s 0)
          · refine RofPost.ok HQ.out (ofB_same s (by omega) heq) (v := .slice ao (Bt.le8 s 0) cap) ?_ (by rw [bitsTo_mod]; exact HV3.out)
            exact ret_pairV (by rw [bytes_toList, ← heq]; simp)
          · refine RofPost.bad HQ.out (ofB_other s heq) (v := .slice ao (Bt.le8 s 0) cap) ?_
            exact ret_pairV (by rw [bytes_toList, beq_eq_false_iff_ne]; exact Ne.symm heq)
theorem rOf_any (s : ByteArray) (w : World) (hs : s.size ≤ 2000) :
    Calls Tryz.prog 32 #[.string s] w fun e w' => RofPost w s.data.toList e w' := by
  by_cases h : s.size < 8 ∨ (8 ≤ s.size ∧ s.size % 8 ≠ 0)
  · exact rOf_odd s w hs h
  · exact rOf_even s w hs (by omega) (by omega)
end Go.Proofs.YtoipliflphbeiaaGreatDoor
