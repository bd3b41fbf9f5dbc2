/-
  The contracts of a directory's Row, Size, place, ahead, One and Zero: for every directory and every number; nothing in memory is changed.
-/
import Derived.Test.YtfohldojcdhnhaaDoorRkNew
namespace Go.Proofs.YtfohldojcdhnhaaDoor
open Go.RowKit
theorem Dr.cell0 {w : World} {d g r n X : Nat} {u : Value} (h : Dr w d g r n X u) : w.cell? ⟨d, 0, none⟩ = some (.pointer (some ⟨r, 0, none⟩)) := Lib.cell_of_heap h.cells 0
theorem Dr.cell1 {w : World} {d g r n X : Nat} {u : Value} (h : Dr w d g r n X u) : w.cell? ⟨d, 1, none⟩ = some (.slice (some ⟨g, 0, none⟩) (n / 512 + 1) (n / 512 + 1)) := Lib.cell_of_heap h.cells 1
theorem Dr.at0 {w : World} {d g r n X : Nat} {u : Value} (h : Dr w d g r n X u) (q : Nat) (hq : q ≤ n / 512) : w.cell? ⟨g, q * 2, none⟩ = some (.int .u64 ((Wd.ones X (512 * q) : Nat) : Int)) := by
  obtain ⟨cur, h1, h2⟩ := h.blocks
  rw [Lib.cell_of_heap h1, Nat.mul_comm, h2.cell0 q (by omega), if_pos (by omega)]
theorem Dr.at1 {w : World} {d g r n X : Nat} {u : Value} (h : Dr w d g r n X u) (q : Nat) (hq : q ≤ n / 512) : w.cell? ⟨g, q * 2 + 1, none⟩ = some (.int .u64 ((Rk.pk X q 7 : Nat) : Int)) := by
  obtain ⟨cur, h1, h2⟩ := h.blocks
  rw [Lib.cell_of_heap h1, Nat.mul_comm, h2.cell1 q (by omega), if_pos (by omega)]
set_option maxHeartbeats 400000 in
theorem DRow_any (d g r n X : Nat) (u : Value) (w : World) (h : Dr w d g r n X u) :
    Calls Tryd.prog 89 #[.pointer (some ⟨d, 0, none⟩)] w fun e w' => e = .returned (.pointer (some ⟨r, 0, none⟩)) ∧ w' = w := by
  have c0 := h.cell0
  clear h
  go_enter Tryd.func89, Tryd.ntmps89
  go_wp2
  go_ret
  exact ⟨rfl, rfl⟩
set_option maxHeartbeats 400000 in
theorem Size_any (d g r n X : Nat) (u : Value) (w : World) (h : Dr w d g r n X u) :
    Calls Tryd.prog 82 #[.pointer (some ⟨d, 0, none⟩)] w fun e w' => e = .returned (.int .i64 (((n / 512 + 1) * 128 : Nat) : Int)) ∧ w' = w := by
  have c1 := h.cell1
  have hl := h.row.len
  obtain ⟨c, hc⟩ : ∃ c, c = n / 512 + 1 := ⟨_, rfl⟩
  have hc1 : c ≤ 8388609 := by omega
  rw [← hc] at c1 ⊢
  clear h hc hl
  go_enter Tryd.func82, Tryd.ntmps82
  go_wp2
  go_ret
  exact ⟨ret_int (by omega), rfl⟩
set_option maxHeartbeats 400000 in
theorem place_any (d g r n X : Nat) (i : Int) (u : Value) (w : World) (h : Dr w d g r n X u) :
    Calls Tryd.prog 87 #[.pointer (some ⟨d, 0, none⟩), .int .i64 i] w fun e w' => e = .returned (.int .i64 ((Bt.cf n i : Nat) : Int)) ∧ w' = w := by
  have c0 := h.cell0
  have hl := h.row.len
  have HR := hidden h.row
  have HP : Hid (min (max i 0) (n : Int) = ((Bt.cf n i : Nat) : Int)) := by show _ = _; unfold Bt.cf; omega
  clear h
  go_enter Tryd.func87, Tryd.ntmps87
  go_wp2_with fail
  refine (RLen_any r n X u _ HR.out).mono ?_
  rintro e' w1 ⟨rfl, rfl⟩
  go_wp2_with fail
  go_ret
  exact ⟨ret_int HP.out, rfl⟩
set_option maxHeartbeats 400000 in
theorem ahead_any (d g r n X q j : Nat) (u : Value) (w : World) (h : Dr w d g r n X u) (hq : q ≤ n / 512) (hj : j < 8) :
    Calls Tryd.prog 88 #[.pointer (some ⟨g, q * 2, none⟩), .int .i64 (j : Nat)] w fun e w' => e = .returned (.int .i64 ((Wd.ones X (512 * q) + Rk.cn X q j : Nat) : Int)) ∧ ∃ m, w' = w.drewN m := by
  have c0 := h.at0 q hq
  have c1 := h.at1 q hq
  have hl := h.row.len
  have ho := Wd.ones_le X (512 * q)
  have hp := Rk.pk_lt64 X q 7 (by decide)
  have hc := Rk.cn_le X q j
  have HF := hidden (Rk.pk_fld X q j hj)
  obtain ⟨P, hP⟩ : ∃ P, P = Rk.pk X q 7 := ⟨_, rfl⟩
  rw [← hP] at c1 hp HF
  obtain ⟨O, hO⟩ : ∃ O, O = Wd.ones X (512 * q) := ⟨_, rfl⟩
  rw [← hO] at c0 ho ⊢
  have ho2 : O ≤ 4294967296 := by omega
  clear hP hO h hl hq ho
  go_enter Tryd.func88, Tryd.ntmps88
  go_wp2_with fail
  go_quiet (first
    | (go_at_call 98; exact Calls.quiet_of_same (slot_any j _ hj))
    | (go_at_call 102; exact Calls.quiet_of_same (Field_any P _ _ _ hp)))
  go_wp2_with fail
  go_ret
  refine ⟨ret_int ?_, nq, rfl⟩
  rw [show Wd.cl 9 = 9 from rfl, HF.out, IntKind.wrap_u64]
  simp only [wrap64]
  omega
set_option maxHeartbeats 400000 in
theorem One_any (d g r n X : Nat) (i : Int) (u : Value) (w : World) (h : Dr w d g r n X u) :
    Calls Tryd.prog 61 #[.pointer (some ⟨d, 0, none⟩), .int .i64 i] w fun e w' => e = .returned (.int .i64 ((Wd.ones X (Bt.cf n i) : Nat) : Int)) ∧ ∃ m, w' = w.drewN m := by
  have c0 := h.cell0
  have c1 := h.cell1
  have hl := h.row.len
  have HH := hidden h
  have HP := hidden (place_any d g r n X i u w h)
  have hpn : Bt.cf n i ≤ n := Nat.le_trans (Bt.cf_le n i 0).1 (Bt.cf_le n i 0).2
  obtain ⟨p, hp⟩ : ∃ p, p = Bt.cf n i := ⟨_, rfl⟩
  rw [← hp] at HP hpn ⊢
  have hr := Rk.rank_eq X p
  obtain ⟨q, hq⟩ : ∃ q, q = p / 512 := ⟨_, rfl⟩
  obtain ⟨a, ha⟩ : ∃ a, a = p / 64 := ⟨_, rfl⟩
  obtain ⟨c, hc⟩ : ∃ c, c = n / 512 + 1 := ⟨_, rfl⟩
  have q1 : (p : Int) / 512 = (q : Int) := by omega
  have a1 : (p : Int) / 64 = (a : Int) := by omega
  obtain ⟨j, hj⟩ : ∃ j, j = a % 8 := ⟨_, rfl⟩
  obtain ⟨s, hs⟩ : ∃ s, s = p % 64 := ⟨_, rfl⟩
  have j1 : (a : Int) % 8 = (j : Int) := by omega
  have s1 : (p : Int) % 64 = (s : Int) := by omega
  have hj8 : j < 8 := by omega
  have hs64 : s < 64 := by omega
  have hqn : q ≤ n / 512 := by omega
  have i0 : (0 : Int) ≤ (q : Int) := by omega
  have i1 : (q : Int) < (c : Int) := by omega
  have hc2 : c ≤ 8388609 := by omega
  rw [← hc] at c1
  rw [← hq, ← ha, ← hj, ← hs] at hr
  have HA : ∀ m, Hid _ := fun m => hidden (ahead_any d g r n X q j u (w.drewN m) (h.drewN m) hqn hj8)
  have HR := hidden hr
  have hop := Wd.ones_le X p
  have hw := Bt.wdI_lt X (a : Int)
  have ho1 : Wd.ones X (512 * q) + Rk.cn X q j ≤ 8589934592 := by omega
  obtain ⟨O, hO⟩ : ∃ O, O = Wd.ones X (512 * q) + Rk.cn X q j := ⟨_, rfl⟩
  rw [← hO] at HR ho1
  simp only [← hO] at HA
  clear h hp hr hq ha hc hO hj hs
  go_enter Tryd.func61, Tryd.ntmps61
  go_wp2_with fail
  refine HP.out.mono ?_
  rintro e' w1 ⟨rfl, rfl⟩
  go_wp2_with fail
  go_quiet (first
    | (go_at_call 88; exact Calls.quiet_of (HA _).out)
    | (go_at_call 69; exact Calls.quiet_of_same (Word_any r n X _ u _ (HH.out.row.drewN _)))
    | (go_at_call 86; exact Calls.quiet_of_same (Ones_any _ _ _ hw)))
  go_wp2_with fail
  go_ret
  refine ⟨ret_int ?_, nq, rfl⟩
  rw [Bt.wdI_nat, Wd.cl_nat s (by omega)]
  have := HR.out
  simp only [wrap64]
  omega
set_option maxHeartbeats 400000 in
theorem Zero_any (d g r n X : Nat) (i : Int) (u : Value) (w : World) (h : Dr w d g r n X u) :
    Calls Tryd.prog 63 #[.pointer (some ⟨d, 0, none⟩), .int .i64 i] w fun e w' => e = .returned (.int .i64 (((Bt.cf n i : Nat) : Int) - ((Wd.ones X (Bt.cf n i) : Nat) : Int))) ∧ ∃ m, w' = w.drewN m := by
  have HH := hidden h
  have hl := h.row.len
  have hpn : Bt.cf n i ≤ n := Nat.le_trans (Bt.cf_le n i 0).1 (Bt.cf_le n i 0).2
  have ho := Wd.ones_le X (Bt.cf n i)
  clear h
  go_enter Tryd.func63, Tryd.ntmps63
  go_wp2_with fail
  refine (place_any d g r n X i u _ HH.out).mono ?_
  rintro e' w1 ⟨rfl, rfl⟩
  go_wp2_with fail
  refine (One_any d g r n X i u _ HH.out).mono ?_
  rintro e' w2 ⟨rfl, m, rfl⟩
  go_wp2_with fail
  go_ret
  exact ⟨ret_int rfl, m, rfl⟩
end Go.Proofs.YtfohldojcdhnhaaDoor
