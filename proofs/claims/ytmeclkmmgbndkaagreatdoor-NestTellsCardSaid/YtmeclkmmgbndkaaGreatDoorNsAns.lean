/-
  What a nest tells of a node, held against the list of nodes: the answers of Parent, First, Next, Prev and Child are the nodes of the numbers that the list tells; the contract of law08's node.
-/
import Derived.Deep.RegionHeld3
import Derived.Test.YtmeclkmmgbndkaaGreatDoorJNsList
import Derived.Test.YtmeclkmmgbndkaaGreatDoorJNsKids
namespace Go.Proofs.YtmeclkmmgbndkaaGreatDoor
open Go Go.RowKit
namespace Ns
open Wd
/-- An answer is the node of a number, or ErrNone, if the number is -1. -/
def Ans (X n : Nat) (a e m : Int) : Prop := (m = -1 ∧ a = 0 ∧ e = 7) ∨ ∃ r p : Nat, r < ones X n ∧ m = (r : Int) ∧ pl X n r = p ∧ a = (p : Int) ∧ e = 0
theorem Ans.node {X n p : Nat} (h : Nd X n p) : Ans X n (p : Int) 0 (ones X p : Int) := .inr ⟨ones X p, p, rank_lt h, rfl, pl_rank h, rfl, rfl⟩
theorem Ans.none {X n : Nat} {a e : Int} (ha : a = 0) (he : e = 7) : Ans X n a e (-1) := .inl ⟨rfl, ha, he⟩
theorem nth_out (S : List Nat) (i : Int) (h : i < 0 ∨ (S.length : Int) ≤ i) : nth S i = -1 := by unfold nth; rw [if_neg (by omega)]
theorem nth_in (S : List Nat) (i : Nat) (h : i < S.length) : nth S (i : Int) = ((S.getD i 0 : Nat) : Int) := by unfold nth; rw [if_pos ⟨by omega, by omega⟩, Int.toNat_natCast]
theorem sibs_lt {X n r : Nat} {q : Int} (h : r ∈ sibs X n q) : r < ones X n := by
  unfold sibs at h
  rw [List.mem_filter, List.mem_range] at h
  exact h.1
theorem sibs_len_le (X n : Nat) (q : Int) : (sibs X n q).length ≤ ones X n := by
  unfold sibs
  exact Nat.le_trans (List.length_filter_le _ _) (by rw [List.length_range]; exact Nat.le_refl _)
theorem sibs_len {X n i : Nat} (h : Ok X n) (hi : Nd X n i) : (sibs X n (ones X i : Int)).length = (kids X n i).length := by
  rw [← sibs_kids h hi, List.length_map]
theorem ans_kid {X n i : Nat} (h : Ok X n) (hi : Nd X n i) (q : Nat) : Ans X n (kv X n i q) (ke X n i q) (nth (sibs X n (ones X i : Int)) (q : Int)) := by
  have hlen := sibs_len h hi
  by_cases hq : q < (kids X n i).length
  · have h1 : q < (sibs X n (ones X i : Int)).length := by omega
    rw [nth_in _ _ h1]
    refine .inr ⟨(sibs X n (ones X i : Int)).getD q 0, pl X n ((sibs X n (ones X i : Int)).getD q 0), ?_, rfl, rfl, ?_, ?_⟩
    · rw [List.getD_eq_getElem?_getD, List.getElem?_eq_getElem h1]
      exact sibs_lt (List.getElem_mem h1)
    · unfold kv
      rw [← sibs_kids h hi, List.getD_eq_getElem?_getD, List.getElem?_map, List.getD_eq_getElem?_getD, List.getElem?_eq_getElem h1]
      rfl
    · unfold ke
      rw [if_pos hq]
  · rw [nth_out _ _ (by omega)]
    have := k_out (X := X) (n := n) (i := i) (q := q) (by omega)
    exact .none this.1 this.2
theorem first_kid {X n i : Nat} (h : Ok X n) (hi : Nd X n i) : cv X (i + 1) = kv X n i 0 ∧ ce X (i + 1) = ke X n i 0 := by
  rcases bt_or X (i + 1) with hz | hz
  · obtain ⟨_, h2⟩ := (AtC.first h hi).none h hi hz
    have h3 : kids X n i = [] := h2
    have := k_out (X := X) (n := n) (i := i) (q := 0) (by rw [h3]; exact Nat.le_refl _)
    rw [this.1, this.2]
    unfold cv ce
    rw [on_nat, hz]
    exact ⟨rfl, rfl⟩
  · obtain ⟨_, _, _, _, h2⟩ := (AtC.first h hi).some h hi hz
    have h3 : kids X n i = [] ++ (i + 1) :: ks X n i (cl X n (i + 1) + 1) := h2
    have := k_in (q := 0) h3 rfl
    rw [this.1, this.2]
    unfold cv ce
    rw [on_nat, hz]
    exact ⟨rfl, rfl⟩
theorem ans_first {X n i : Nat} (h : Ok X n) (hi : Nd X n i) : Ans X n (cv X (i + 1)) (ce X (i + 1)) (nth (sibs X n (ones X i : Int)) 0) := by
  obtain ⟨h1, h2⟩ := first_kid h hi
  rw [h1, h2]
  exact ans_kid h hi 0
/-- How many stand ahead of a node among those with its parent. -/
def ahd (X n i : Nat) : List Nat := (List.range (ones X i)).filter fun r => pr X (pl X n r) == pr X i
theorem sibs_ahd {X n i : Nat} (hi : Nd X n i) : ∃ B, sibs X n (pr X i) = ahd X n i ++ ones X i :: B ∧ B = (List.range' (ones X i + 1) (ones X n - (ones X i + 1))).filter fun r => pr X (pl X n r) == pr X i := ⟨_, sibs_split hi, rfl⟩
theorem ahd_not (X n i : Nat) : ones X i ∉ ahd X n i := by
  unfold ahd
  intro h
  rw [List.mem_filter, List.mem_range] at h
  omega
theorem ans_next {X n i : Nat} (h : Ok X n) (hi : Nd X n i) : Ans X n (cv X (cl X n i + 1)) (ce X (cl X n i + 1)) (nth (sibs X n (pr X i)) (((ahd X n i).length : Int) + 1)) := by
  obtain ⟨B, h1, h2⟩ := sibs_ahd hi
  have h3 := sibs_next h hi
  rw [← h2] at h3
  have e : ((ahd X n i).length : Int) + 1 = (((ahd X n i).length + 1 : Nat) : Int) := by omega
  rw [e]
  rcases bt_or X (cl X n i + 1) with hz | hz
  · rw [if_neg (by omega)] at h3
    have hB : B = [] := by cases B with | nil => rfl | cons b bs => simp at h3
    rw [nth_out _ _ (by rw [h1, hB]; simp)]
    refine .none ?_ ?_
    · unfold cv; rw [on_nat, hz]; rfl
    · unfold ce; rw [on_nat, hz]; rfl
  · rw [if_pos hz] at h3
    have hn : Nd X n (cl X n i + 1) := h.nd hz
    have hg : (sibs X n (pr X i)).getD ((ahd X n i).length + 1) 0 = ones X (cl X n i + 1) := by
      rw [h1, List.getD_eq_getElem?_getD, List.getElem?_append_right (by omega), show (ahd X n i).length + 1 - (ahd X n i).length = 1 from by omega, List.getElem?_cons_succ, h3]
      rfl
    have hl : (ahd X n i).length + 1 < (sibs X n (pr X i)).length := by
      rw [h1, List.length_append, List.length_cons]
      cases B with
      | nil => simp at h3
      | cons b bs => simp
    rw [nth_in _ _ hl, hg]
    have := Ans.node hn
    unfold cv ce
    rw [on_nat, hz]
    exact this
theorem ans_prev_some {X n i j : Nat} (h : Ok X n) (hi : Nd X n i) (hc : Cl X n j (i - 1)) (hj : Nd X n j) : Ans X n (j : Int) 0 (nth (sibs X n (pr X i)) (((ahd X n i).length : Int) - 1)) := by
  obtain ⟨B, h1, _⟩ := sibs_ahd hi
  obtain ⟨A, hA⟩ := sibs_prev h hi hc hj
  have hA' : ahd X n i = A ++ [ones X j] := hA
  have hl : (ahd X n i).length = A.length + 1 := by rw [hA', List.length_append, List.length_singleton]
  have e : ((ahd X n i).length : Int) - 1 = (A.length : Int) := by omega
  rw [e, nth_in _ _ (by rw [h1, List.length_append]; omega)]
  have hg : (sibs X n (pr X i)).getD A.length 0 = ones X j := by
    rw [h1, hA', List.getD_eq_getElem?_getD, List.append_assoc, List.getElem?_append_right (Nat.le_refl _), Nat.sub_self]
    rfl
  rw [hg]
  exact Ans.node hj
theorem ans_prev_none {X n i : Nat} (h : Ok X n) (hi : Nd X n i) (hz : i = 0 ∨ bt X (i - 1) = 1) : Ans X n 0 7 (nth (sibs X n (pr X i)) (((ahd X n i).length : Int) - 1)) := by
  have h1 : ahd X n i = [] := sibs_prev_none h hi hz
  rw [h1, nth_out _ _ (by simp)]
  exact .none rfl rfl
end Ns
/-- The answers, as calls. -/
theorem Parent_ans (z n X i : Nat) (k : NK) (w : World) (h : Nt w z n X k) (hi : Ns.Nd X n i) :
    Calls Tryz.prog 13 #[.pointer (some ⟨z, 0, none⟩), .int .i64 (i : Nat)] w fun e w' => ∃ a er, e = .returned (.tuple #[.int .i64 a, .int .i64 er]) ∧ Ns.Ans X n a er (Ns.pr X i) ∧ Below w.heap.size w w' := by
  rcases Ns.pr_dec h.ok (Nat.le_of_lt hi.1) with ⟨h0, h1⟩ | ⟨p, hp, h1⟩
  · refine (Parent_none z n X i k w h hi h0).mono ?_
    rintro e w' ⟨rfl, hb⟩
    exact ⟨0, 7, rfl, by rw [h1]; exact .none rfl rfl, hb⟩
  · refine (Parent_some z n X i p k w h hi hp).mono ?_
    rintro e w' ⟨rfl, hb⟩
    exact ⟨p, 0, rfl, by rw [h1]; exact Ns.Ans.node (h.ok.nd hp.one), hb⟩
theorem First_ans (z n X i : Nat) (k : NK) (w : World) (h : Nt w z n X k) (hi : Ns.Nd X n i) :
    Calls Tryz.prog 30 #[.pointer (some ⟨z, 0, none⟩), .int .i64 (i : Nat)] w fun e w' => ∃ a er, e = .returned (.tuple #[.int .i64 a, .int .i64 er]) ∧ Ns.Ans X n a er (Ns.nth (Ns.sibs X n (Wd.ones X i : Int)) 0) ∧ Below w.heap.size w w' := by
  refine (First_any z n X i k w h hi).mono ?_
  rintro e w' ⟨rfl, rfl⟩
  exact ⟨Ns.cv X (i + 1), Ns.ce X (i + 1), rfl, Ns.ans_first h.ok hi, Below.refl _ _⟩
theorem Next_ans (z n X i : Nat) (k : NK) (w : World) (h : Nt w z n X k) (hi : Ns.Nd X n i) :
    Calls Tryz.prog 31 #[.pointer (some ⟨z, 0, none⟩), .int .i64 (i : Nat)] w fun e w' => ∃ a er, e = .returned (.tuple #[.int .i64 a, .int .i64 er]) ∧ Ns.Ans X n a er (Ns.nth (Ns.sibs X n (Ns.pr X i)) (((Ns.ahd X n i).length : Int) + 1)) ∧ Below w.heap.size w w' := by
  refine (Next_any z n X i k w h hi).mono ?_
  rintro e w' ⟨rfl, hb⟩
  exact ⟨Ns.cv X (Ns.cl X n i + 1), Ns.ce X (Ns.cl X n i + 1), rfl, Ns.ans_next h.ok hi, hb⟩
theorem Prev_ans (z n X i : Nat) (k : NK) (w : World) (h : Nt w z n X k) (hi : Ns.Nd X n i) :
    Calls Tryz.prog 16 #[.pointer (some ⟨z, 0, none⟩), .int .i64 (i : Nat)] w fun e w' => ∃ a er, e = .returned (.tuple #[.int .i64 a, .int .i64 er]) ∧ Ns.Ans X n a er (Ns.nth (Ns.sibs X n (Ns.pr X i)) (((Ns.ahd X n i).length : Int) - 1)) ∧ Below w.heap.size w w' := by
  by_cases h0 : i = 0
  · have ho : Ns.off X n ((i : Int) - 1) = false := by
      unfold Ns.off
      rw [decide_eq_false (by omega), Bool.false_and]
    refine (Prev_none z n X i k w h hi ho).mono ?_
    rintro e w' ⟨rfl, rfl⟩
    exact ⟨0, 7, rfl, Ns.ans_prev_none h.ok hi (.inl h0), Below.refl _ _⟩
  · rcases Ns.bt_or X (i - 1) with hz | hz
    · obtain ⟨j, hj, hc, _⟩ := Ns.opened h.ok (c := i - 1) (by have := hi.1; omega) hz
      refine (Prev_some z n X i j k w h hi hc).mono ?_
      rintro e w' ⟨rfl, hb⟩
      exact ⟨j, 0, rfl, Ns.ans_prev_some h.ok hi hc hj, hb⟩
    · have ho : Ns.off X n ((i : Int) - 1) = false := by
        unfold Ns.off
        rw [show (i : Int) - 1 = ((i - 1 : Nat) : Int) from by omega, Ns.on_nat, hz]
        simp
      refine (Prev_none z n X i k w h hi ho).mono ?_
      rintro e w' ⟨rfl, rfl⟩
      exact ⟨0, 7, rfl, Ns.ans_prev_none h.ok hi (.inr hz), Below.refl _ _⟩
theorem Child_ans (z n X i : Nat) (q : Int) (k : NK) (w : World) (h : Nt w z n X k) (hi : Ns.Nd X n i) (hq : q ≤ 9223372036854775807) :
    Calls Tryz.prog 14 #[.pointer (some ⟨z, 0, none⟩), .int .i64 (i : Nat), .int .i64 q] w fun e w' => ∃ a er, e = .returned (.tuple #[.int .i64 a, .int .i64 er]) ∧ Ns.Ans X n a er (Ns.nth (Ns.sibs X n (Wd.ones X i : Int)) q) ∧ Below w.heap.size w w' := by
  by_cases h0 : q < 0
  · refine (Child_neg z n X i k q w h hi h0).mono ?_
    rintro e w' ⟨rfl, hb⟩
    exact ⟨0, 7, rfl, by rw [Ns.nth_out _ _ (.inl h0)]; exact .none rfl rfl, hb⟩
  · obtain ⟨m, rfl⟩ := Int.eq_ofNat_of_zero_le (show 0 ≤ q by omega)
    refine (Child_any z n X i m k w h hi (by omega)).mono ?_
    rintro e w' ⟨rfl, hb⟩
    exact ⟨_, _, rfl, Ns.ans_kid h.ok hi m, hb⟩
theorem is_ref (X n : Nat) (a e m : Int) (v : Value) (w : World) (h : Ns.Nw w v X n) (ha : Ns.Ans X n a e m) (hL : n ≤ 4294967296) :
    Calls Tryz.prog 32 #[.int .i64 a, .int .i64 e, v, .int .i64 m] w fun e w' => e = .returned (.bool true) ∧ w' = w := by
  rcases ha with ⟨rfl, rfl, rfl⟩ | ⟨r, p, hr, rfl, hp, rfl, rfl⟩
  · exact is_none_ref v w
  · exact is_some_ref X n r p v w h hr hp hL
/-- The four cells of law08's node's own copy, the nest and the list. -/
structure Xc (w0 w : World) (b z n X i en : Nat) (pa dp : Int) (kk : NK) (v : Value) : Prop where
  c0 : w.cell? ⟨b, 0, none⟩ = some (.int .i64 (i : Nat))
  c1 : w.cell? ⟨b, 1, none⟩ = some (.int .i64 (en : Nat))
  c2 : w.cell? ⟨b, 2, none⟩ = some (.int .i64 pa)
  c3 : w.cell? ⟨b, 3, none⟩ = some (.int .i64 dp)
  nest : Nt w z n X kk
  list : Ns.Nw w v X n
  bel : Below w0.heap.size w0 w
theorem Xc.after {w0 w w' : World} {b z n X i en : Nat} {pa dp : Int} {kk : NK} {v : Value} (h : Xc w0 w b z n X i en pa dp kk v) (hb : Below w.heap.size w w') : Xc w0 w' b z n X i en pa dp kk v :=
  ⟨Ns.cell_after hb h.c0, Ns.cell_after hb h.c1, Ns.cell_after hb h.c2, Ns.cell_after hb h.c3, h.nest.below hb (Nat.le_refl _), h.list.below hb (Nat.le_refl _), h.bel.trans (hb.mono h.bel.size)⟩
/-- What Children tells, in any world that has but grown since w. -/
structure ChIs (w : World) (v : Value) (q : Int) (X n : Nat) : Prop where
  runs : ∀ W, Below w.heap.size w W → Calls Tryz.prog 27 #[v, .int .i64 q] W fun e w' => ∃ u, e = .returned u ∧ Ns.Rv w' u (Ns.sibs X n q) ∧ Below W.heap.size W w' ∧ Below w.heap.size w w'
set_option maxHeartbeats 8000000 in
set_option maxRecDepth 100000 in
theorem node_ref (z n X r : Nat) (q : Int) (kk : NK) (v : Value) (w : World) (hN : Nt w z n X kk) (hv : Ns.Nw w v X n) (hr : r < Wd.ones X n) (hL : n ≤ 4000) (hq : q ≤ 9223372036854775807) :
    Calls Tryz.prog 11 #[.pointer (some ⟨z, 0, none⟩), v, .int .i64 (r : Nat), .int .i64 q] w fun e w' => e = .returned (.bool true) ∧ Below w.heap.size w w' := by
  obtain ⟨ao, cap, rfl, hcap, hc⟩ := hv.form
  obtain ⟨g, rfl, hg, hcell⟩ := hc (by omega)
  have HOK := hidden hN.ok
  obtain ⟨hnd, hrk⟩ := Ns.pl_nd hr
  have c0 := hcell r 0 hr (by decide)
  have c1 := hcell r 1 hr (by decide)
  have c2 := hcell r 2 hr (by decide)
  have c3 := hcell r 3 hr (by decide)
  rw [Ns.nf_at, Nat.add_zero] at c0
  rw [Ns.nf_end hN.ok hr] at c1
  rw [Ns.nf_par] at c2
  rw [Ns.nf_dep] at c3
  generalize Ns.pl X n r = i at *
  have HCL := hidden (Ns.cl_spec hN.ok hnd)
  have HND := hidden hnd
  have HRK := hidden hrk
  have HN := hidden hN
  have HV := hidden hv
  have hin := hnd.1
  have hcln := (Ns.cl_spec hN.ok hnd).lt
  obtain ⟨N, hNN⟩ : ∃ N, N = Wd.ones X n := ⟨_, rfl⟩
  obtain ⟨en, hen⟩ : ∃ en, en = Ns.cl X n i := ⟨_, rfl⟩
  obtain ⟨pa, hpa⟩ : ∃ pa, pa = Ns.pr X i := ⟨_, rfl⟩
  obtain ⟨dp, hdp⟩ : ∃ dp, dp = Wd.exc X i := ⟨_, rfl⟩
  have hN2 : N ≤ 4000 := by rw [hNN]; exact Nat.le_trans (Wd.ones_le X n) hL
  rw [← hNN] at hr hcap ⊢
  rw [← hen] at c1 hcln HCL
  rw [← hpa] at c2
  rw [← hdp] at c3
  have HNN := hidden hNN
  have HEN := hidden hen
  have HPA := hidden hpa
  have HDP := hidden hdp
  clear hc hcell hv hN hnd hrk hNN hen hpa hdp
  go_enter Tryz.func11, Tryz.ntmps11
  go_wp2_with fail
  obtain ⟨w1, hw1⟩ : ∃ w1, w1 = w.alloc (.cells #[.int .i64 (i : Nat), .int .i64 (en : Nat), .int .i64 pa, .int .i64 dp] 43) := ⟨_, rfl⟩
  rw [← hw1]
  have HX1 : Hid (Xc w w1 w.heap.size z n X i en pa dp kk (.slice (some ⟨g, 0, none⟩) N cap)) := by
    have hb : Below w.heap.size w w1 := by rw [hw1]; exact (Below.refl _ _).alloc (Nat.le_refl _) _
    have hh : w1.heap[w.heap.size]? = some (.cells #[.int .i64 (i : Nat), .int .i64 (en : Nat), .int .i64 pa, .int .i64 dp] 43 (0, 0)) := by rw [hw1]; exact heap_alloc_new _ _
    refine ⟨Lib.cell_of_heap hh 0, Lib.cell_of_heap hh 1, Lib.cell_of_heap hh 2, Lib.cell_of_heap hh 3, HN.out.below hb (Nat.le_refl _), ?_, hb⟩
    have h5 := HV.out.below hb (Nat.le_refl _)
    rw [← HNN.out] at h5
    exact h5
  clear hw1 c0 c1 c2 c3 HN HV
  have hcl := Close_node z n X i kk w1 HX1.out.nest HND.out
  rw [← HEN.out] at hcl
  refine hcl.mono ?_
  rintro e' w2 ⟨rfl, hb2⟩
  have HX2 := hidden (HX1.out.after hb2)
  clear hb2 hcl HX1
  have d1 := HX2.out.c1
  have HOP := hidden (Open_at z n X i en kk w2 HX2.out.nest HCL.out)
  go_wp2_with fail
  refine HOP.out.mono ?_
  rintro e' w3 ⟨rfl, hb3⟩
  have HX3 := hidden (HX2.out.after hb3)
  clear hb3 HOP HX2 d1
  have d0 := HX3.out.c0
  have hde := Depth_any z n X i kk w3 HX3.out.nest HND.out
  rw [← HDP.out] at hde
  have HDE := hidden hde
  clear hde
  go_wp2_with fail
  refine HDE.out.mono ?_
  rintro e' w4 ⟨rfl, rfl⟩
  clear HDE
  have hra := NRank_any z n X i kk w4 HX3.out.nest HND.out
  rw [HRK.out] at hra
  have HRA := hidden hra
  clear hra
  go_wp2_with fail
  refine HRA.out.mono ?_
  rintro e' w5 ⟨rfl, hb5⟩
  have HX5 := hidden (HX3.out.after hb5)
  clear hb5 HRA HX3 d0
  obtain ⟨d0, d1, d2, d3, _, _, _⟩ := HX5.out
  go_wp2_with fail
  have K : ∀ q, ChIs w5 (.slice (some ⟨g, 0, none⟩) N cap) q X n := fun q => ⟨fun W hW => (Children_ref X n _ q W (HX5.out.list.below hW (Nat.le_refl _)) (by omega)).mono fun e w' ⟨u, h1, h2, h3⟩ => ⟨u, h1, h2, h3, hW.trans (h3.mono hW.size)⟩⟩
  have K1 := K (r : Int)
  have K2 := K pa
  have hB55 : Below w5.heap.size w5 w5 := Below.refl _ _
  have hB56 : Below w5.heap.size w5 w5.drew := (Below.refl _ _).drew
  clear K d0 d1 d3
  go_region_held3 (fun w' => w'.cell? ⟨w.heap.size, 2, none⟩ = some (.int .i64 pa)) (first | assumption | exact Ns.cell_after (by assumption) (by assumption))
    (first
      | (go_at_call 27; refine (ChIs.runs (by assumption) _ (by assumption)).mono ?_; rintro e' wU ⟨u, rfl, hRu, hBu, hBu5⟩))
  rename_i wM uM hRM hBM hBM5 hHd
  have HXU := hidden (HX5.out.after hBu5)
  have HRM := hidden (hRM.below hBu (Nat.le_refl _))
  have HRB := hidden hRu
  clear hRM hBM hBM5 hHd hRu hBu hBu5 K1 K2 hB55 hB56 HX5 d2
  obtain ⟨SM, hSM⟩ : ∃ S, S = Ns.sibs X n (r : Int) := ⟨_, rfl⟩
  obtain ⟨SB, hSB⟩ : ∃ S, S = Ns.sibs X n pa := ⟨_, rfl⟩
  rw [← hSM] at HRM
  rw [← hSB] at HRB
  obtain ⟨Bl, hsp, _⟩ := Ns.sibs_ahd HND.out
  rw [← HPA.out, ← hSB, HRK.out] at hsp
  have hnot := Ns.ahd_not X n i
  rw [HRK.out] at hnot
  have hSBl : SB.length ≤ 4000 := by rw [hSB]; exact Nat.le_trans (Ns.sibs_len_le X n pa) (by rw [← HNN.out]; exact hN2)
  have hSMl : SM.length ≤ 4000 := by rw [hSM]; exact Nat.le_trans (Ns.sibs_len_le X n _) (by rw [← HNN.out]; exact hN2)
  have hkl := Ns.sibs_len HOK.out HND.out
  rw [HRK.out, ← hSM] at hkl
  have hahl : (Ns.ahd X n i).length ≤ 4000 := by rw [hsp] at hSBl; simp at hSBl; omega
  have HPL := hidden (fun W (hW : Ns.Rv W u SB) => place_ref SB (Ns.ahd X n i) Bl r u W hW hsp hnot (by omega))
  have HKL := hidden hkl
  have HSM := hidden hSM
  have HSB := hidden hSB
  obtain ⟨ah, hah⟩ : ∃ ah, ah = (Ns.ahd X n i).length := ⟨_, rfl⟩
  rw [← hah] at hahl HPL
  have HAH := hidden hah
  clear hsp hnot hkl hSM hSB hah
  go_wp2_with fail
  refine (HPL.out wU HRB.out).mono ?_
  rintro e' wV ⟨rfl, rfl⟩
  clear HPL
  have d0 := HXU.out.c0
  have hco := Count_any z n X i kk wV HXU.out.nest HND.out
  rw [← HKL.out] at hco
  have HCO := hidden hco
  clear hco
  go_wp2_with fail
  refine HCO.out.mono ?_
  rintro e' w6 ⟨rfl, hb⟩
  have HX6 := hidden (HXU.out.after hb)
  have HRM6 := hidden (HRM.out.below hb (Nat.le_refl _))
  have HRB6 := hidden (HRB.out.below hb (Nat.le_refl _))
  clear hb HCO HXU HRM HRB d0
  have d0 := HX6.out.c0
  have hx := Parent_ans z n X i kk w6 HX6.out.nest HND.out
  rw [← HPA.out] at hx
  have HC := hidden hx
  clear hx
  go_wp2_with fail
  refine HC.out.mono ?_
  rintro e' w7 ⟨a1, e1, rfl, hans1, hb⟩
  have HA1 := hidden hans1
  have HX7 := hidden (HX6.out.after hb)
  have HRM7 := hidden (HRM6.out.below hb (Nat.le_refl _))
  have HRB7 := hidden (HRB6.out.below hb (Nat.le_refl _))
  clear hb HC HX6 HRM6 HRB6 d0 hans1
  have d0 := HX7.out.c0
  have hx := First_ans z n X i kk w7 HX7.out.nest HND.out
  rw [HRK.out, ← HSM.out] at hx
  have HC := hidden hx
  clear hx
  go_wp2_with fail
  refine HC.out.mono ?_
  rintro e' w8 ⟨a2, e2, rfl, hans2, hb⟩
  have HA2 := hidden hans2
  have HX8 := hidden (HX7.out.after hb)
  have HRM8 := hidden (HRM7.out.below hb (Nat.le_refl _))
  have HRB8 := hidden (HRB7.out.below hb (Nat.le_refl _))
  clear hb HC HX7 HRM7 HRB7 d0 hans2
  have d0 := HX8.out.c0
  have hx := Next_ans z n X i kk w8 HX8.out.nest HND.out
  rw [← HPA.out, ← HSB.out, ← HAH.out] at hx
  have HC := hidden hx
  clear hx
  go_wp2_with fail
  refine HC.out.mono ?_
  rintro e' w9 ⟨a3, e3, rfl, hans3, hb⟩
  have HA3 := hidden hans3
  have HX9 := hidden (HX8.out.after hb)
  have HRM9 := hidden (HRM8.out.below hb (Nat.le_refl _))
  have HRB9 := hidden (HRB8.out.below hb (Nat.le_refl _))
  clear hb HC HX8 HRM8 HRB8 d0 hans3
  have d0 := HX9.out.c0
  have hx := Prev_ans z n X i kk w9 HX9.out.nest HND.out
  rw [← HPA.out, ← HSB.out, ← HAH.out] at hx
  have HC := hidden hx
  clear hx
  go_wp2_with fail
  refine HC.out.mono ?_
  rintro e' wa ⟨a4, e4, rfl, hans4, hb⟩
  have HA4 := hidden hans4
  have HXa := hidden (HX9.out.after hb)
  have HRMa := hidden (HRM9.out.below hb (Nat.le_refl _))
  have HRBa := hidden (HRB9.out.below hb (Nat.le_refl _))
  clear hb HC HX9 HRM9 HRB9 d0 hans4
  have d0 := HXa.out.c0
  have hx := Child_ans z n X i q kk wa HXa.out.nest HND.out hq
  rw [HRK.out, ← HSM.out] at hx
  have HC := hidden hx
  clear hx
  go_wp2_with fail
  refine HC.out.mono ?_
  rintro e' wb ⟨a5, e5, rfl, hans5, hb⟩
  have HA5 := hidden hans5
  have HXb := hidden (HXa.out.after hb)
  have HRMb := hidden (HRMa.out.below hb (Nat.le_refl _))
  have HRBb := hidden (HRBa.out.below hb (Nat.le_refl _))
  clear hb HC HXa HRMa HRBa d0 hans5
  have d2 := HXb.out.c2
  obtain ⟨oM, capM, hvM, hcapM, _⟩ := HRMb.out.form
  subst hvM
  obtain ⟨ML, hML⟩ : ∃ ML, ML = SM.length := ⟨_, rfl⟩
  rw [← hML] at hSMl hcapM ⊢
  have HML := hidden hML
  have IS := hidden (fun a e m h => is_ref X n a e m (.slice (some ⟨g, 0, none⟩) N cap) wb HXb.out.list h (by omega))
  have NM := hidden (fun i => number_ref SM i _ wb HRMb.out)
  have NB := hidden (fun i => number_ref SB i _ wb HRBb.out)
  rw [← hML] at NM
  have HBEL := hidden HXb.out.bel
  clear hML HXb HRMb HRBb
  go_wp2_with fail
  refine (IS.out a1 e1 pa HA1.out).mono ?_
  rintro e' wc ⟨rfl, rfl⟩
  go_wp2_with fail
  refine (NM.out 0).mono ?_
  rintro e' wc ⟨rfl, rfl⟩
  go_wp2_with fail
  refine (IS.out a2 e2 _ HA2.out).mono ?_
  rintro e' wc ⟨rfl, rfl⟩
  go_wp2_with fail
  refine (NB.out ((ah : Int) + 1)).mono ?_
  rintro e' wc ⟨rfl, rfl⟩
  go_wp2_with fail
  refine (IS.out a3 e3 _ HA3.out).mono ?_
  rintro e' wc ⟨rfl, rfl⟩
  go_wp2_with fail
  refine (NB.out ((ah : Int) - 1)).mono ?_
  rintro e' wc ⟨rfl, rfl⟩
  go_wp2_with fail
  refine (IS.out a4 e4 _ HA4.out).mono ?_
  rintro e' wc ⟨rfl, rfl⟩
  go_wp2_with fail
  refine (NM.out q).mono ?_
  rintro e' wc ⟨rfl, rfl⟩
  go_wp2_with fail
  refine (IS.out a5 e5 _ HA5.out).mono ?_
  rintro e' wc ⟨rfl, rfl⟩
  go_wp2_with fail
  go_ret
  exact ⟨rfl, HBEL.out⟩
end Go.Proofs.YtmeclkmmgbndkaaGreatDoor
