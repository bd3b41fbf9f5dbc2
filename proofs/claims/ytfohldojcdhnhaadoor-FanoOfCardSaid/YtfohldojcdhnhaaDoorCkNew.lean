/-
  A chooser in memory, and the contract of choose.New: of every row a chooser, in new memory; nothing that was there is changed. Its Ones, Rank and Size.
-/
import Derived.Test.YtfohldojcdhnhaaDoorCkSeek
namespace Go.Proofs.YtfohldojcdhnhaaDoor
open Go.RowKit
/-- The chooser in block c: its directory, its samples behind b0 (of 1s) and b1 (of 0s). -/
structure Cz (w : World) (c d g r n X b0 b1 : Nat) (u : Value) : Prop where
  dir : Dr w d g r n X u
  cells : w.heap[c]? = some (.cells #[.pointer (some ⟨d, 0, none⟩), .slice (some ⟨b0, 0, none⟩) (Ck.sn X n) (Ck.sn X n), .slice (some ⟨b1, 0, none⟩) (Ck.sn (Ck.tn X n) n) (Ck.sn (Ck.tn X n) n)] 92 (0, 0))
  ones : Sp w b0 X n
  zeros : Sp w b1 (Ck.tn X n) n
theorem Cz.below {w w' : World} {c d g r n X b0 b1 : Nat} {u : Value} {C : Nat} (h : Cz w c d g r n X b0 b1 u) (hb : Below C w w') (hC : w.heap.size ≤ C) : Cz w' c d g r n X b0 b1 u :=
  ⟨h.dir.below hb hC, by rw [hb.block c (Nat.lt_of_lt_of_le (lt_of_block h.cells) hC)]; exact h.cells, h.ones.below hb hC, h.zeros.below hb hC⟩
theorem Cz.drewN {w : World} {c d g r n X b0 b1 : Nat} {u : Value} (h : Cz w c d g r n X b0 b1 u) (m : Nat) : Cz (w.drewN m) c d g r n X b0 b1 u := ⟨h.dir.drewN m, h.cells, h.ones, h.zeros⟩
theorem Cz.cell0 {w : World} {c d g r n X b0 b1 : Nat} {u : Value} (h : Cz w c d g r n X b0 b1 u) : w.cell? ⟨c, 0, none⟩ = some (.pointer (some ⟨d, 0, none⟩)) := Lib.cell_of_heap h.cells 0
theorem Cz.cell1 {w : World} {c d g r n X b0 b1 : Nat} {u : Value} (h : Cz w c d g r n X b0 b1 u) : w.cell? ⟨c, 1, none⟩ = some (.slice (some ⟨b0, 0, none⟩) (Ck.sn X n) (Ck.sn X n)) := Lib.cell_of_heap h.cells 1
theorem Cz.cell2 {w : World} {c d g r n X b0 b1 : Nat} {u : Value} (h : Cz w c d g r n X b0 b1 u) : w.cell? ⟨c, 2, none⟩ = some (.slice (some ⟨b1, 0, none⟩) (Ck.sn (Ck.tn X n) n) (Ck.sn (Ck.tn X n) n)) := Lib.cell_of_heap h.cells 2
theorem Bt.cf_all (n : Nat) : Bt.cf n (n : Int) = n := Bt.cf_nat n n (Nat.le_refl _)
set_option maxHeartbeats 1000000 in
theorem CNew_any (r n X : Nat) (u : Value) (w : World) (h : Rw w r n X u) (hT : Tab w) :
    Calls Tryd.prog 34 #[.pointer (some ⟨r, 0, none⟩)] w fun e w' => ∃ c d g b0 b1, e = .returned (.pointer (some ⟨c, 0, none⟩)) ∧ Cz w' c d g r n X b0 b1 u ∧ Below w.heap.size w w' := by
  have HH := hidden h
  have hl := h.len
  have HLT := hidden h.lt
  have HT := hidden hT
  have HTN := hidden (Ck.ones_tn X n n h.lt (Nat.le_refl _))
  have hon := Wd.ones_le X n
  clear h hT
  go_enter Tryd.func34, Tryd.ntmps34
  go_wp2_with fail
  refine (New_any r n X u _ HH.out).mono ?_
  rintro e' w1 ⟨d, g, rfl, hd, hb1⟩
  have HD := hidden hd
  have HB1 := hidden hb1
  have HT1 := hidden (HT.out.below hb1 (Nat.le_refl _))
  clear hd hb1
  go_wp2_with fail
  refine (RLen_any r n X u _ HD.out.row).mono ?_
  rintro e' w2 ⟨rfl, rfl⟩
  go_wp2_with fail
  refine (One_at d g r n X _ n u _ HD.out (Bt.cf_all n)).mono ?_
  rintro e' w3 ⟨rfl, m3, rfl⟩
  go_wp2_with fail
  refine (samples_any r n X X 0 u _ (HD.out.row.drewN m3) (Ck.View.same n X) (HT1.out.drewN m3) _ rfl).mono ?_
  rintro e' w4 ⟨b0, rfl, hs0, hb4⟩
  have HS0 := hidden hs0
  have HD4 := hidden ((HD.out.drewN m3).below hb4 (Nat.le_refl _))
  have HT4 := hidden ((HT1.out.drewN m3).below hb4 (Nat.le_refl _))
  have HB4 : Hid (Below w.heap.size w w4) := (below_drewN HB1.out m3).trans (hb4.mono HB1.out.size)
  clear hs0 hb4
  go_wp2_with fail
  refine (RLen_any r n X u _ HD4.out.row).mono ?_
  rintro e' w2 ⟨rfl, rfl⟩
  go_wp2_with fail
  refine (Zero_at d g r n X _ n u _ HD4.out (Bt.cf_all n)).mono ?_
  rintro e' w5 ⟨rfl, m5, rfl⟩
  rw [show ((n : Nat) : Int) - ((Wd.ones X n : Nat) : Int) = ((Wd.ones (Ck.tn X n) n : Nat) : Int) from by have := HTN.out; omega]
  go_wp2_with fail
  refine (samples_any r n X (Ck.tn X n) 18446744073709551615 u _ (HD4.out.row.drewN m5) (Ck.View.turned n X HLT.out) (HT4.out.drewN m5) _ rfl).mono ?_
  rintro e' w6 ⟨b1, rfl, hs1, hb6⟩
  have HS1 := hidden hs1
  have HS06 := hidden ((HS0.out.drewN m5).below hb6 (Nat.le_refl _))
  have HD6 := hidden ((HD4.out.drewN m5).below hb6 (Nat.le_refl _))
  have HB6 : Hid (Below w.heap.size w w6) := (below_drewN HB4.out m5).trans (hb6.mono HB4.out.size)
  clear hs1 hb6
  go_wp2_with fail
  go_ret
  have hb : Below w6.heap.size w6 (w6.alloc (.cells #[.pointer (some ⟨d, 0, none⟩), .slice (some ⟨b0, 0, none⟩) (Ck.sn X n) (Ck.sn X n), .slice (some ⟨b1, 0, none⟩) (Ck.sn (Ck.tn X n) n) (Ck.sn (Ck.tn X n) n)] 92)) := (Below.refl _ _).alloc (Nat.le_refl _) _
  exact ⟨_, d, g, b0, b1, rfl, ⟨HD6.out.below hb (Nat.le_refl _), heap_alloc_new _ _, HS06.out.below hb (Nat.le_refl _), HS1.out.below hb (Nat.le_refl _)⟩, HB6.out.trans (hb.mono HB6.out.size)⟩
/-- How many bits a chooser takes. -/
def Ck.sz (X n : Nat) : Nat := (n / 512 + 1) * 128 + 32 * (Ck.sn X n + Ck.sn (Ck.tn X n) n)
theorem Ck.sz_le (X n : Nat) (hX : X < 2 ^ n) : Ck.sz X n ≤ n / 2 + 512 := by
  have h1 := Ck.ones_tn X n n hX (Nat.le_refl _)
  unfold Ck.sz Ck.sn
  omega
set_option maxHeartbeats 400000 in
theorem CSize_any (c d g r n X b0 b1 : Nat) (u : Value) (w : World) (h : Cz w c d g r n X b0 b1 u) :
    Calls Tryd.prog 54 #[.pointer (some ⟨c, 0, none⟩)] w fun e w' => e = .returned (.int .i64 ((Ck.sz X n : Nat) : Int)) ∧ ∃ m, w' = w.drewN m := by
  have c0 := h.cell0
  have c1 := h.cell1
  have c2 := h.cell2
  have hl := h.dir.row.len
  have h1 := Ck.sn_le X n
  have h2 := Ck.sn_le (Ck.tn X n) n
  have HD := hidden (fun m => Size_any d g r n X u _ (h.dir.drewN m))
  have HZ : Hid (Ck.sz X n = (n / 512 + 1) * 128 + 32 * (Ck.sn X n + Ck.sn (Ck.tn X n) n)) := by show _ = _; rfl
  have h3 : (n / 512 + 1) * 128 ≤ 4294967296 := by omega
  generalize Ck.sn X n = s0 at *
  generalize Ck.sn (Ck.tn X n) n = s1 at *
  generalize (n / 512 + 1) * 128 = s2 at *
  clear h
  go_enter Tryd.func54, Tryd.ntmps54
  go_wp2_with fail
  go_quiet (first
    | (go_at_call 82; exact Calls.quiet_of_same (HD.out _)))
  go_wp2_with fail
  go_ret
  refine ⟨ret_int ?_, nq, rfl⟩
  rw [HZ.out]
  omega
end Go.Proofs.YtfohldojcdhnhaaDoor
