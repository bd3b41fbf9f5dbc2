/-
  The contracts of sort.Search at a function that only reads, of a chooser's between, block and find, and of its One and Zero.
-/
import Derived.Test.YtfohldojcdhnhaaDoorCkNew
import Derived.Shelf.Abstract
namespace Go.Proofs.YtfohldojcdhnhaaDoor
open Go.RowKit
set_option maxHeartbeats 1000000 in
/-- Of a function that is false at first, and true from the place t on: t. -/
theorem Search_any (g N t : Nat) (cb : Array Value) (w : World) (eg : ∀ args w, (callFunc g args).run Tryd.prog w = .ok (.enter g args) w) (hN : N ≤ 4294967296) (ht : t ≤ N)
    (hf : ∀ (m i : Nat), i < N → Calls Tryd.prog g (#[.int .i64 (i : Nat)] ++ cb) (w.drewN m) fun e w' => e = .returned (.bool (decide (t ≤ i))) ∧ ∃ q, w' = (w.drewN m).drewN q) :
    Calls Tryd.prog 104 #[.int .i64 (N : Nat), .func (.func g) #[] cb] w fun e w' => e = .returned (.int .i64 (t : Nat)) ∧ ∃ m, w' = w.drewN m := by
  have HF := hidden hf
  clear hf
  go_enter Tryd.func104, Tryd.ntmps104
  go_wp2_with fail
  go_loopw [5, 6] (fun s5 s6 wr => ∃ lo hi m : Nat, s5 = .int .i64 lo ∧ s6 = .int .i64 hi ∧ lo ≤ t ∧ t ≤ hi ∧ hi ≤ N ∧ wr = w.drewN m) (fun s5 s6 _ => (intOf s6).toNat - (intOf s5).toNat)
  case atStart => exact ⟨0, N, 0, rfl, rfl, by omega, ht, by omega, rfl⟩
  case round =>
    obtain ⟨lo, hi, m, rfl, rfl, h1, h2, h3, rfl⟩ := hrel
    by_cases hlt : lo < hi
    · obtain ⟨mid, hmid⟩ : ∃ mid : Nat, mid = (lo + hi) / 2 := ⟨_, rfl⟩
      have hm1 : ((lo : Int) + (hi : Int)) / 2 = (mid : Int) := by omega
      have hmn : mid < N := by omega
      have HM := hidden hmid
      clear hmid
      go_wp2_with fail
      refine (HF.out m mid hmn).mono ?_
      rintro e' w1 ⟨rfl, q, rfl⟩
      by_cases hd : t ≤ mid
      · rw [decide_eq_true hd]
        go_wp2_with fail
        go_roundw
        case rel => exact ⟨lo, mid, m + q, rfl, rfl, h1, hd, by omega, rfl⟩
        case measure => have := HM.out; simp [intOf]; omega
      · rw [decide_eq_false hd]
        go_wp2_with fail
        go_roundw
        case rel => exact ⟨mid + 1, hi, m + q, by go_num, rfl, by omega, h2, h3, rfl⟩
        case measure => have := HM.out; simp [intOf]; omega
    · obtain rfl : lo = t := by omega
      go_wp2_with fail
      go_ret
      exact ⟨rfl, m, rfl⟩
/-- A function that tells how many bits of a kind are ahead of a place: f at a directory. -/
structure Kd (f d g r n X Y : Nat) (u : Value) : Prop where
  enters : ∀ args w, (callFunc f args).run Tryd.prog w = .ok (.enter f args) w
  tells : ∀ (W : World) (i : Int), Dr W d g r n X u → Calls Tryd.prog f #[.pointer (some ⟨d, 0, none⟩), .int .i64 i] W fun e w' => e = .returned (.int .i64 ((Wd.ones Y (Bt.cf n i) : Nat) : Int)) ∧ ∃ m, w' = W.drewN m
theorem Kd.one (d g r n X : Nat) (u : Value) : Kd 61 d g r n X X u :=
  ⟨enters_of Tryd.func61 (by kernel_rfl) rfl, fun W i h => One_any d g r n X i u W h⟩
theorem Kd.zero (d g r n X : Nat) (u : Value) : Kd 63 d g r n X (Ck.tn X n) u :=
  ⟨enters_of Tryd.func63 (by kernel_rfl) rfl, fun W i h => (Zero_any d g r n X i u W h).mono (by
    rintro e w' ⟨rfl, hw⟩
    refine ⟨ret_int ?_, hw⟩
    have := Ck.ones_tn X n (Bt.cf n i) h.row.lt (Nat.le_trans (Bt.cf_le n i 0).1 (Bt.cf_le n i 0).2)
    omega)⟩
set_option maxHeartbeats 1000000 in
theorem literal_any (f d g r n X Y p7 p9 p5 F k i : Nat) (u : Value) (w : World) (h : Dr w d g r n X u) (hk : Kd f d g r n X Y u)
    (c7 : w.cell? ⟨p7, 0, none⟩ = some (.func (.func f) #[.pointer (some ⟨d, 0, none⟩)] #[])) (c9 : w.cell? ⟨p9, 0, none⟩ = some (.int .i64 (F : Nat))) (c5 : w.cell? ⟨p5, 0, none⟩ = some (.int .i64 (k : Nat))) (hF : F ≤ 4294967296) (hi : i ≤ 4294967296) :
    Calls Tryd.prog 105 #[.int .i64 (i : Nat), .pointer (some ⟨p7, 0, none⟩), .pointer (some ⟨p9, 0, none⟩), .pointer (some ⟨p5, 0, none⟩)] w fun e w' => e = .returned (.bool (decide (k < Wd.ones Y (Bt.cf n (((F + i + 1) * 512 : Nat) : Int))))) ∧ ∃ m, w' = w.drewN m := by
  have eg := hk.enters
  have HT : Hid (∀ m, Calls Tryd.prog f #[.pointer (some ⟨d, 0, none⟩), .int .i64 (((F : Int) + (i : Int) + 1) * 512)] (w.drewN m) fun e w' => e = .returned (.int .i64 ((Wd.ones Y (Bt.cf n (((F : Int) + (i : Int) + 1) * 512)) : Nat) : Int)) ∧ ∃ q, w' = (w.drewN m).drewN q) := fun m => hk.tells _ _ (h.drewN m)
  rw [show (((F + i + 1) * 512 : Nat) : Int) = ((F : Int) + (i : Int) + 1) * 512 from by omega]
  generalize Wd.ones Y (Bt.cf n (((F : Int) + (i : Int) + 1) * 512)) = O at *
  clear h hk
  go_enter Tryd.func105, Tryd.ntmps105
  go_wp2_with fail
  go_quiet (exact Calls.quiet_of (HT.out _))
  go_wp2_with fail
  go_ret
  refine ⟨ret_bool ?_, nq, rfl⟩
  simp
theorem ret_pair {k j : IntKind} {a b c d : Int} (h1 : a = c) (h2 : b = d) : Ending.returned (.tuple #[.int k a, .int j b]) = .returned (.tuple #[.int k c, .int j d]) := by rw [h1, h2]
/-- Up to which place a bit behind the sample i is looked for. -/
def Ck.upto (Y n i : Nat) : Nat := if i + 1 < Ck.sn Y n then Ck.pl Y (256 * (i + 1)) n else n - 1
set_option maxHeartbeats 1000000 in
theorem between_any (c d g r n X Y b b0 b1 i : Nat) (u : Value) (w : World) (h : Cz w c d g r n X b0 b1 u) (hs : Sp w b Y n) (hi : i < Ck.sn Y n) :
    Calls Tryd.prog 103 #[.pointer (some ⟨c, 0, none⟩), .slice (some ⟨b, 0, none⟩) (Ck.sn Y n) (Ck.sn Y n), .int .i64 (i : Nat)] w fun e w' => e = .returned (.tuple #[.int .i64 ((Ck.pl Y (256 * i) n / 512 : Nat) : Int), .int .i64 ((Ck.upto Y n i / 512 : Nat) : Int)]) ∧ w' = w := by
  have c0 := h.cell0
  have hl := h.dir.row.len
  have hn := Ck.sn_le Y n
  have hon := Wd.ones_le Y n
  have hn0 : 0 < n := by have := Ck.sn_lt hi; omega
  have k0 := hs.cell i hi
  have hp := Ck.pl_le Y (256 * i) n
  obtain ⟨P, hP⟩ : ∃ P, Ck.pl Y (256 * i) n = P := ⟨_, rfl⟩
  rw [hP] at k0 hp ⊢
  obtain ⟨P1, hP1⟩ : ∃ P1 : Nat, (P : Int) / 512 = (P1 : Int) := ⟨P / 512, by omega⟩
  have HP1 : Hid (P / 512 = P1) := by show _ = _; omega
  have HD := hidden h.dir
  have HU : Hid (Ck.upto Y n i = if i + 1 < Ck.sn Y n then Ck.pl Y (256 * (i + 1)) n else n - 1) := by show _ = _; rfl
  have hcell := hs.cell (i + 1)
  have HCE := hidden hcell
  generalize Ck.sn Y n = m at *
  clear h hs hcell hP
  by_cases hm : i + 1 < m
  · have k1 := HCE.out hm
    have hu := HU.out
    rw [if_pos hm] at hu
    have hq := Ck.pl_le Y (256 * (i + 1)) n
    rw [← hu] at k1 hq
    obtain ⟨Q, hQ⟩ : ∃ Q, Ck.upto Y n i = Q := ⟨_, rfl⟩
    rw [hQ] at k1 hq ⊢
    obtain ⟨Q1, hQ1⟩ : ∃ Q1 : Nat, (Q : Int) / 512 = (Q1 : Int) := ⟨Q / 512, by omega⟩
    have HQ1 : Hid (Q / 512 = Q1) := by show _ = _; omega
    have hm2 : (i : Int) + 1 < (m : Int) := by omega
    clear hu hQ
    go_enter Tryd.func103, Tryd.ntmps103
    go_wp2_with fail
    refine (DRow_any d g r n X u _ HD.out).mono ?_
    rintro e' w1 ⟨rfl, rfl⟩
    go_wp2_with fail
    refine (RLen_any r n X u _ HD.out.row).mono ?_
    rintro e' w1 ⟨rfl, rfl⟩
    go_wp2_with fail
    go_ret2
    exact ⟨ret_pair (by have := HP1.out; omega) (by have := HQ1.out; omega), rfl⟩
  · have hu := HU.out
    rw [if_neg hm] at hu
    rw [hu]
    obtain ⟨Q1, hQ1⟩ : ∃ Q1 : Nat, ((n : Int) - 1) / 512 = (Q1 : Int) := ⟨(n - 1) / 512, by omega⟩
    have HQ1 : Hid ((n - 1) / 512 = Q1) := by show _ = _; omega
    clear hu
    go_enter Tryd.func103, Tryd.ntmps103
    go_wp2_with fail
    refine (DRow_any d g r n X u _ HD.out).mono ?_
    rintro e' w1 ⟨rfl, rfl⟩
    go_wp2_with fail
    refine (RLen_any r n X u _ HD.out.row).mono ?_
    rintro e' w1 ⟨rfl, rfl⟩
    go_wp2_with fail
    go_ret2
    exact ⟨ret_pair (by have := HP1.out; omega) (by have := HQ1.out; omega), rfl⟩
theorem Ck.At.reach {Y n k p q : Nat} (h : Ck.At Y n k p) (hq : q = k / 256) : Ck.pl Y (256 * q) n ≤ p ∧ p ≤ Ck.upto Y n q ∧ Ck.upto Y n q ≤ n := by
  have h1 := h.below
  have h2 := Ck.pl_at (Y := Y) (n := n) (k := 256 * q) (by omega)
  refine ⟨h2.mono h (by omega), ?_, ?_⟩
  · unfold Ck.upto
    split
    · rename_i h3
      exact Nat.le_of_lt (h.lt_of (Ck.pl_at (Ck.sn_lt h3)) (by omega))
    · have := h.lt; omega
  · unfold Ck.upto
    split
    · exact Ck.pl_le _ _ _
    · omega
theorem Ck.At.block {Y n k p F t i : Nat} (h : Ck.At Y n k p) (hF : F + t = p / 512) : decide (k < Wd.ones Y (Bt.cf n (((F + i + 1) * 512 : Nat) : Int))) = decide (t ≤ i) := by
  have h1 := h.ahead (Bt.cf n (((F + i + 1) * 512 : Nat) : Int))
  have h2 := h.lt
  have h3 : p < Bt.cf n (((F + i + 1) * 512 : Nat) : Int) ↔ t ≤ i := by unfold Bt.cf; omega
  rw [decide_eq_decide]
  exact h1.trans h3
set_option maxHeartbeats 1000000 in
theorem block_any (f c d g r n X Y b b0 b1 k p : Nat) (u : Value) (w : World) (h : Cz w c d g r n X b0 b1 u) (hs : Sp w b Y n) (hk : Kd f d g r n X Y u) (hp : Ck.At Y n k p) :
    Calls Tryd.prog 90 #[.pointer (some ⟨c, 0, none⟩), .int .i64 (k : Nat), .slice (some ⟨b, 0, none⟩) (Ck.sn Y n) (Ck.sn Y n), .func (.func f) #[.pointer (some ⟨d, 0, none⟩)] #[]] w fun e w' => e = .returned (.int .i64 ((p / 512 : Nat) : Int)) ∧ Below w.heap.size w w' := by
  have HC := hidden h
  have HS := hidden hs
  have HK := hidden hk
  have HP := hidden hp
  have hl := h.dir.row.len
  have hkn := hp.below
  have hon := Wd.ones_le Y n
  have hq := Ck.sn_of hkn
  obtain ⟨q, hq1⟩ : ∃ q, q = k / 256 := ⟨_, rfl⟩
  have q1 : (k : Int) / 256 = (q : Int) := by omega
  rw [← hq1] at hq
  have HQ := hidden hq
  have HQ1 := hidden hq1
  clear h hs hk hp hq hq1
  go_enter Tryd.func90, Tryd.ntmps90
  go_wp2_with fail
  obtain ⟨w2, hw2⟩ : ∃ w2, w2 = ((w.alloc (.cells #[.int .i64 (k : Int)] 3)).alloc (.cells #[.func (.func f) #[.pointer (some ⟨d, 0, none⟩)] #[]] 35)) := ⟨_, rfl⟩
  rw [← hw2]
  have hs2 : w2.heap.size = w.heap.size + 2 := by rw [hw2]; simp
  have hk2 : w2.heap[w.heap.size]? = some (.cells #[.int .i64 (k : Int)] 3 (0, 0)) := by rw [hw2, Below.heap_alloc _ _ _ (by simp)]; exact heap_alloc_new _ _
  have hf2 : w2.heap[w.heap.size + 1]? = some (.cells #[.func (.func f) #[.pointer (some ⟨d, 0, none⟩)] #[]] 35 (0, 0)) := by rw [hw2]; exact heap_new_at (by simp)
  have hb2 : Below w.heap.size w w2 := by rw [hw2]; exact ((Below.refl _ _).alloc (Nat.le_refl _) _).alloc (by simp) _
  have HS2 := hidden hs2
  have HK2 := hidden hk2
  have HF2 := hidden hf2
  have HB2 := hidden hb2
  have HC2 := hidden (HC.out.below hb2 (Nat.le_refl _))
  have HSP2 := hidden (HS.out.below hb2 (Nat.le_refl _))
  clear hw2 hs2 hk2 hf2 hb2
  obtain ⟨hr1, hr2, hr3⟩ := HP.out.reach HQ1.out
  refine (between_any c d g r n X Y b b0 b1 q u _ HC2.out HSP2.out HQ.out).mono ?_
  rintro e' w3 ⟨rfl, rfl⟩
  obtain ⟨F, hF⟩ : ∃ F, Ck.pl Y (256 * q) n / 512 = F := ⟨_, rfl⟩
  obtain ⟨L, hL⟩ : ∃ L, Ck.upto Y n q / 512 = L := ⟨_, rfl⟩
  obtain ⟨t, ht⟩ : ∃ t, F + t = p / 512 := ⟨p / 512 - F, by omega⟩
  obtain ⟨N, hN⟩ : ∃ N : Nat, (L : Int) - (F : Int) = (N : Int) := ⟨L - F, by omega⟩
  have hF2 : F ≤ 4294967296 := by omega
  have hL2 : L ≤ 4294967296 := by omega
  have hN2 : N ≤ 4294967296 := by omega
  have htN : t ≤ N := by omega
  rw [hF, hL]
  have HT := hidden ht
  clear hr1 hr2 hr3 ht hF hL
  go_wp2_with fail
  obtain ⟨w4, hw4⟩ : ∃ w4, w4 = w3.alloc (.cells #[.int .i64 (F : Int)] 3) := ⟨_, rfl⟩
  rw [← hw4]
  have hb4 : Below w3.heap.size w3 w4 := by rw [hw4]; exact (Below.refl _ _).alloc (Nat.le_refl _) _
  have c9 : w4.cell? ⟨w3.heap.size, 0, none⟩ = some (.int .i64 (F : Int)) := by rw [hw4]; exact Lib.cell_of_heap (heap_alloc_new _ _) 0
  have c5 : w4.cell? ⟨w.heap.size, 0, none⟩ = some (.int .i64 (k : Int)) := (hb4.cell (p := ⟨w.heap.size, 0, none⟩) (lt_of_block HK2.out)).trans (Lib.cell_of_heap HK2.out 0)
  have c7 : w4.cell? ⟨w.heap.size + 1, 0, none⟩ = some (.func (.func f) #[.pointer (some ⟨d, 0, none⟩)] #[]) := (hb4.cell (p := ⟨w.heap.size + 1, 0, none⟩) (lt_of_block HF2.out)).trans (Lib.cell_of_heap HF2.out 0)
  have HD4 := hidden (HC2.out.dir.below hb4 (Nat.le_refl _))
  have HB4 : Hid (Below w.heap.size w w4) := HB2.out.trans (hb4.mono HB2.out.size)
  have HSE : Hid (∀ m, Calls Tryd.prog 104 #[.int .i64 (N : Nat), .func (.func 105) #[] #[.pointer (some ⟨w.heap.size + 1, 0, none⟩), .pointer (some ⟨w3.heap.size, 0, none⟩), .pointer (some ⟨w.heap.size, 0, none⟩)]] (w4.drewN m) fun e w' => e = .returned (.int .i64 (t : Nat)) ∧ ∃ m', w' = (w4.drewN m).drewN m') := fun m =>
    Search_any 105 N t _ _ (enters_of Tryd.func105 (by kernel_rfl) rfl) hN2 htN fun m2 i hi => by
      have := literal_any f d g r n X Y (w.heap.size + 1) w3.heap.size w.heap.size F k i u _ ((HD4.out.drewN m).drewN m2) HK.out c7 c9 c5 hF2 (by omega)
      rw [HP.out.block HT.out] at this
      exact this
  have hmf : ∀ (fn : Fn) (first cap : Array Value) (w : World), (Instr.makeFunc fn first cap).run Tryd.prog w = .ok (.func fn first cap) w := fun _ _ _ _ => rfl
  clear hw4 hb4
  go_quiet (first
    | (go_at_call 104; exact Calls.quiet_of (HSE.out _)))
  go_wp2_with fail
  go_ret
  exact ⟨ret_int (by have := HT.out; omega), below_drewN HB4.out _⟩
set_option maxHeartbeats 1000000 in
theorem find_at (f tv c d g r n X Y b b0 b1 k p : Nat) (u : Value) (w : World) (h : Cz w c d g r n X b0 b1 u) (hs : Sp w b Y n) (hk : Kd f d g r n X Y u) (hv : Ck.View tv n X Y) (hT : Tab w) (hp : Ck.At Y n k p) :
    Calls Tryd.prog 64 #[.pointer (some ⟨c, 0, none⟩), .int .i64 (k : Nat), .slice (some ⟨b, 0, none⟩) (Ck.sn Y n) (Ck.sn Y n), .func (.func f) #[.pointer (some ⟨d, 0, none⟩)] #[], .int .u64 (tv : Nat)] w fun e w' => e = .returned (.tuple #[.int .i64 (p : Nat), .int .i64 0]) ∧ Below w.heap.size w w' := by
  have HC := hidden h
  have HS := hidden hs
  have HK := hidden hk
  have HP := hidden hp
  have HV := hidden hv
  have HT := hidden hT
  have c0 := h.cell0
  have eg := hk.enters
  have hl := h.dir.row.len
  have hkn := hp.below
  have hon := Wd.ones_le Y n
  have hpn := hp.lt
  clear h hs hk hp hv hT
  go_enter Tryd.func64, Tryd.ntmps64
  go_wp2_with fail
  refine (DRow_any d g r n X u _ HC.out.dir).mono ?_
  rintro e' w1 ⟨rfl, rfl⟩
  go_wp2_with fail
  refine (RLen_any r n X u _ HC.out.dir.row).mono ?_
  rintro e' w1 ⟨rfl, rfl⟩
  go_wp2_with fail
  refine (HK.out.tells _ _ HC.out.dir).mono ?_
  rintro e' w2 ⟨rfl, m, rfl⟩
  rw [Bt.cf_all n]
  have HC2 := hidden (HC.out.drewN m)
  have HS2 := hidden (HS.out.drewN m)
  have HT2 := hidden (HT.out.drewN m)
  obtain ⟨w2, hw2⟩ : ∃ w2, w2 = w1.drewN m := ⟨_, rfl⟩
  have HB2 : Hid (Below w1.heap.size w1 w2) := by rw [hw2]; exact below_drewN (Below.refl _ _) m
  rw [← hw2] at HC2 HS2 HT2 ⊢
  clear hw2 c0
  go_wp2_with fail
  refine (block_any f c d g r n X Y b b0 b1 k p u _ HC2.out HS2.out HK.out HP.out).mono ?_
  rintro e' w3 ⟨rfl, hb3⟩
  have HC3 := hidden (HC2.out.below hb3 (Nat.le_refl _))
  have HT3 := hidden (HT2.out.below hb3 (Nat.le_refl _))
  have HB3 : Hid (Below w1.heap.size w1 w3) := HB2.out.trans (hb3.mono HB2.out.size)
  have c0 := HC3.out.cell0
  obtain ⟨B, hB⟩ : ∃ B, p / 512 = B := ⟨_, rfl⟩
  rw [hB]
  have hB2 : B ≤ 8388608 := by omega
  have hcf : Bt.cf n ((B : Int) * 512) = 512 * B := by unfold Bt.cf; omega
  have hon2 := Wd.ones_mono Y (512 * B) p (by omega)
  have hop := HP.out.cnt
  rw [hop] at hon2
  obtain ⟨j, hj⟩ : ∃ j : Nat, (k : Int) - ((Wd.ones Y (512 * B) : Nat) : Int) = (j : Int) := ⟨k - Wd.ones Y (512 * B), by omega⟩
  obtain ⟨A, hA⟩ : ∃ A : Nat, (B : Int) * 8 = (A : Int) := ⟨B * 8, by omega⟩
  have HSK : Hid (64 * A ≤ p ∧ Wd.ones Y (64 * A) + j = k) := by
    show _ ∧ _
    rw [show 64 * A = 512 * B from by omega]
    omega
  have HCF := hidden hcf
  clear hB hcf hb3 hop
  go_wp2_with fail
  refine (DRow_any d g r n X u _ HC3.out.dir).mono ?_
  rintro e' w4 ⟨rfl, rfl⟩
  go_wp2_with fail
  refine (HK.out.tells _ _ HC3.out.dir).mono ?_
  rintro e' w4 ⟨rfl, m4, rfl⟩
  rw [HCF.out]
  go_wp2_with fail
  refine (seek_any r n X Y tv A k j p u _ (HC3.out.dir.row.drewN m4) HV.out (HT3.out.drewN m4) HP.out HSK.out.1 HSK.out.2).mono ?_
  rintro e' w5 ⟨rfl, rfl⟩
  go_wp2_with fail
  go_ret2
  exact ⟨rfl, below_drewN HB3.out _⟩
set_option maxHeartbeats 1000000 in
theorem find_none (f tv c d g r n X Y b b0 b1 : Nat) (k : Int) (u : Value) (w : World) (h : Cz w c d g r n X b0 b1 u) (hk : Kd f d g r n X Y u) (hn : k < 0 ∨ ((Wd.ones Y n : Nat) : Int) ≤ k) :
    Calls Tryd.prog 64 #[.pointer (some ⟨c, 0, none⟩), .int .i64 k, .slice (some ⟨b, 0, none⟩) (Ck.sn Y n) (Ck.sn Y n), .func (.func f) #[.pointer (some ⟨d, 0, none⟩)] #[], .int .u64 (tv : Nat)] w fun e w' => e = .returned (.tuple #[.int .i64 0, .int .i64 2]) ∧ Below w.heap.size w w' := by
  have HC := hidden h
  have HK := hidden hk
  have c0 := h.cell0
  have eg := hk.enters
  have hl := h.dir.row.len
  have hon := Wd.ones_le Y n
  clear h hk
  by_cases h0 : k < 0
  · clear hn
    go_enter Tryd.func64, Tryd.ntmps64
    go_wp2_with fail
    go_ret2
    exact ⟨rfl, Below.refl _ _⟩
  · have h1 : ((Wd.ones Y n : Nat) : Int) ≤ k := by omega
    clear hn
    go_enter Tryd.func64, Tryd.ntmps64
    go_wp2_with fail
    refine (DRow_any d g r n X u _ HC.out.dir).mono ?_
    rintro e' w1 ⟨rfl, rfl⟩
    go_wp2_with fail
    refine (RLen_any r n X u _ HC.out.dir.row).mono ?_
    rintro e' w1 ⟨rfl, rfl⟩
    go_wp2_with fail
    refine (HK.out.tells _ _ HC.out.dir).mono ?_
    rintro e' w2 ⟨rfl, m, rfl⟩
    rw [Bt.cf_all n]
    go_wp2_with fail
    go_ret2
    exact ⟨rfl, below_drewN (Below.refl _ _) m⟩
end Go.Proofs.YtfohldojcdhnhaaDoor
