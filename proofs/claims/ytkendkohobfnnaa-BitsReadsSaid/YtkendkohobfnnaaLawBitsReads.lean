/-
  The walk of the law BitsReads: it returns true for every list of Puts and every two numbers; nothing that was there is changed.
-/
import Derived.Test.YtkendkohobfnnaaBtAwake
import Derived.Test.YtkendkohobfnnaaOpsBelow
import Derived.Test.YtkendkohobfnnaaBtRefW
import Derived.Deep.RegionHeldLaw
namespace Go.Proofs.Ytkendkohobfnnaa
open Go.RowKit
namespace Bt
theorem num_part (L : List Bool) (f m : Nat) : num ((L.drop f).take m) = cut (num L) f m := by
  apply eq_of_bt
  intro i
  rw [bt_num, bt_cut, bt_num]
  by_cases hi : i < m
  · rw [if_pos hi]
    congr 1
    rw [List.getD_eq_getElem?_getD, List.getD_eq_getElem?_getD, List.getElem?_take, if_pos hi, List.getElem?_drop]
  · rw [if_neg hi, List.getD_eq_getElem?_getD, List.getElem?_take, if_neg hi]
    rfl
end Bt
/-- The address of a part: the whole one where it ends at the capacity. -/
def pickA (c f : Nat) (x y : Option Addr) : Option Addr := if c = f then x else y
theorem below_undrew {B : Nat} {w w' : World} (h : Below B w.drew w') : Below B w w' := ⟨h.os, h.tape, h.output, h.size, h.block⟩
theorem part_length (L : List Bool) (f e : Nat) (hf : f ≤ e) (he : e ≤ L.length) : ((L.drop f).take (e - f)).length = e - f := by
  rw [List.length_take, List.length_drop]
  omega
/-- A part of a list of bits, as a slice of its slice. -/
theorem Bl.parts {w : World} {ao : Option Addr} {cap : Nat} {L : List Bool} {f e : Nat} (h : Bl w (.slice ao L.length cap) L) (hc : L.length ≤ cap) (hf : f ≤ e) (he : e ≤ L.length) : Bv w (.slice (pickA cap f ao (Option.map (fun x => x.add f) ao)) (e - f) (cap - f)) ((L.drop f).take (e - f)) := by
  have hlen := part_length L f e hf he
  refine ⟨_, cap - f, by rw [hlen], by rw [hlen]; omega, fun h0 => ?_⟩
  rw [hlen] at h0
  obtain ⟨ao', cap', hv, _, hform⟩ := h.form
  obtain ⟨g', hg', hlt, hcell⟩ := hform (by omega)
  simp only [Value.slice.injEq] at hv
  obtain ⟨hv, _, _⟩ := hv
  rw [hg'] at hv
  subst hv
  refine ⟨g', f, ?_, hlt, fun j hj => ?_⟩
  · unfold pickA
    rw [if_neg (by omega)]
    simp [Addr.add]
    intro h0
    omega
  · rw [hlen] at hj
    rw [hcell (f + j) (by omega), List.getD_eq_getElem?_getD, List.getD_eq_getElem?_getD, List.getElem?_take, if_pos hj, List.getElem?_drop]
theorem Rw.part {w : World} {r f e : Nat} {a t : Int} {u : Value} {L L' : List Bool} (h : Rw w r (Bt.ct L.length a t - Bt.cf L.length a) (Bt.cut (Bt.num L) (Bt.cf L.length a) (Bt.ct L.length a t - Bt.cf L.length a)) u) (hf : f = Bt.cf L'.length a) (he : e = Bt.ct L'.length a t) (hL : L' = L) : Rw w r ((L.drop f).take (e - f)).length (Bt.num ((L.drop f).take (e - f))) u := by
  subst hL
  subst hf
  subst he
  obtain ⟨h1, h2⟩ := Bt.cf_le L'.length a t
  rw [part_length _ _ _ h1 h2, Bt.num_part]
  exact h
theorem RField_at (r m X A N : Nat) (a t : Int) (u : Value) (w : World) (h : Rw w r m X u) (ha : a = (A : Int)) (ht : t = (N : Int)) (hn : N ≤ 64) (hm : (A : Int) ≤ (m : Int) - (N : Int)) :
    Calls Try.prog 17 #[.pointer (some ⟨r, 0, none⟩), .int .i64 a, .int .i64 t] w fun e w' => e = .returned (.tuple #[.int .u64 ((Bt.fd X A N : Nat) : Int), .int .i64 0]) ∧ w' = w := by
  subst ha
  subst ht
  exact RField_in r m X A N u w h hn hm
theorem rFld_at (L : List Bool) (v : Value) (A N : Nat) (a t : Int) (w : World) (h : Bl w v L) (ha : a = (A : Int)) (ht : t = (N : Int)) (hL : L.length ≤ 4294967296) (han : A + N ≤ L.length) (hn : N ≤ 64) :
    Calls Try.prog 18 #[v, .int .i64 a, .int .i64 t] w fun e w' => e = .returned (.int .u64 ((Bt.fd (Bt.num L) A N : Nat) : Int)) ∧ w' = w := by
  subst ha
  subst ht
  exact rFld_any L v A N w h hL han hn
set_option maxHeartbeats 4000000 in
theorem BitsReads_low (l : List (Nat × Int)) (u : Value) (a t : Int) (w : World) (h : Ops w u l) (hl : l.length ≤ 60) (ha1 : -9223372036854775808 ≤ a) (ha2 : a ≤ 9223372036854775807) (ht1 : -9223372036854775808 ≤ t) (ht2 : t ≤ 9223372036854775807) (hn : t < 0) :
    Calls Try.prog 4 #[u, .int .i64 a, .int .i64 t] w fun e w' => e = .returned (.bool true) ∧ Below w.heap.size w w' := by
  have HH := hidden h
  have hL := Bt.all_length l l.length
  rw [List.take_of_length_le (Nat.le_refl _)] at hL
  obtain ⟨f, hf⟩ : ∃ f : Nat, f = Bt.cf (Bt.all l).length a := ⟨_, rfl⟩
  obtain ⟨e, he⟩ : ∃ e : Nat, e = Bt.ct (Bt.all l).length a t := ⟨_, rfl⟩
  have hfe : f ≤ e ∧ e ≤ (Bt.all l).length := by rw [hf, he]; exact Bt.cf_le _ _ _
  have hmf : min (max a 0) ((Bt.all l).length : Int) = (f : Int) := by rw [hf]; unfold Bt.cf; omega
  have hme : min (max t (f : Int)) ((Bt.all l).length : Int) = (e : Int) := by rw [he, hf]; unfold Bt.ct; omega
  have HF := hidden hf
  have HE := hidden he
  have hfe1 := hfe.1
  have hfe2 := hfe.2
  obtain ⟨ao, cap, hu, hcap, _⟩ := h.cells
  subst hu
  clear h hf he hfe
  go_enter Try.func4, Try.ntmps4
  go_wp2_with fail
  refine (awake_any w).mono ?_
  rintro e' w1 ⟨rfl, hq1⟩
  have HQ1 := hidden hq1
  have HO1 := hidden (HH.out.below hq1 (Nat.le_refl _))
  clear hq1
  go_wp2_with fail
  refine (All_any l _ w1 HO1.out hl).mono ?_
  rintro e' w2 ⟨v2, rfl, hb2, hq2⟩
  have HB2 : Hid (Bl w2 v2 (Bt.all l)) := hb2
  have HQ2 := hidden (HQ1.out.trans (hq2.mono HQ1.out.size))
  clear hb2 hq2
  generalize hLL : Bt.all l = L at *
  have HLL := hidden hLL
  clear hLL
  go_wp2_with fail
  refine (Made_any L v2 w2 HB2.out (by omega)).mono ?_
  rintro e' w3 ⟨r3, u3, rfl, hr3, hq3, _, _⟩
  have HR3 := hidden hr3
  have HB3 : Hid (Bl w3 v2 L) := HB2.out.below hq3 (Nat.le_refl _)
  have HQ3 := hidden (HQ2.out.trans (hq3.mono HQ2.out.size))
  clear hr3 hq3 HB2
  obtain ⟨ao2, cap2, hv2, hcap2, _⟩ := HB3.out.form
  subst hv2
  go_wp2_with fail
  refine (RField_arg r3 a t _ (.inl hn)).mono ?_
  rintro e' w4 ⟨rfl, rfl⟩
  go_wp2_with fail
  have s0 : (0 : Int) ≤ (f : Int) := by omega
  have s1 : (f : Int) ≤ (e : Int) := by omega
  have s2 : (e : Int) ≤ (cap2 : Int) := by omega
  have hif : ∀ x y : Option Addr, (if cap2 = f then x else y) = pickA cap2 f x y := fun _ _ => rfl
  go_region_held (fun _ => True) (trivial)
    (first
      | (go_at_call 19; refine (Word_any r3 _ _ a u3 _ HR3.out.drew).mono ?_; rintro e' w6 ⟨rfl, rfl⟩)
      | (go_at_call 20; refine (rWord_any L _ a _ (by exact HB3.out) (by omega)).mono ?_; rintro e' w6 ⟨rfl, rfl⟩)
      | (go_at_call 21; refine (Clip_any r3 _ _ a t u3 _ HR3.out.drew).mono ?_; rintro e' w7 ⟨r7, u7, rfl, hr7⟩; have HR7 := hidden hr7; clear hr7)
      | (go_at_call 14; refine (Is_true r7 ((L.drop f).take (e - f)) u7 _ _ (by exact HR7.out.1.part HF.out HE.out rfl) (by exact (HB3.out.below (below_undrew HR7.out.2.1) (Nat.le_refl _)).parts hcap2 hfe1 hfe2)).mono ?_; rintro e' w8 ⟨rfl, hm8⟩; have HM8 := hidden hm8; clear hm8))
  go_wp2_with fail
  go_ret
  obtain ⟨m8, hm8⟩ := HM8.out
  refine ⟨rfl, ?_⟩
  rw [hm8]
  exact drewN_below (HQ3.out.trans ((below_undrew HR7.out.2.1).mono HQ3.out.size)) _
set_option maxHeartbeats 4000000 in
theorem BitsReads_high (l : List (Nat × Int)) (u : Value) (a t : Int) (w : World) (h : Ops w u l) (hl : l.length ≤ 60) (ha1 : -9223372036854775808 ≤ a) (ha2 : a ≤ 9223372036854775807) (ht1 : -9223372036854775808 ≤ t) (ht2 : t ≤ 9223372036854775807) (hn : 64 < t) :
    Calls Try.prog 4 #[u, .int .i64 a, .int .i64 t] w fun e w' => e = .returned (.bool true) ∧ Below w.heap.size w w' := by
  have HH := hidden h
  have hL := Bt.all_length l l.length
  rw [List.take_of_length_le (Nat.le_refl _)] at hL
  obtain ⟨f, hf⟩ : ∃ f : Nat, f = Bt.cf (Bt.all l).length a := ⟨_, rfl⟩
  obtain ⟨e, he⟩ : ∃ e : Nat, e = Bt.ct (Bt.all l).length a t := ⟨_, rfl⟩
  have hfe : f ≤ e ∧ e ≤ (Bt.all l).length := by rw [hf, he]; exact Bt.cf_le _ _ _
  have hmf : min (max a 0) ((Bt.all l).length : Int) = (f : Int) := by rw [hf]; unfold Bt.cf; omega
  have hme : min (max t (f : Int)) ((Bt.all l).length : Int) = (e : Int) := by rw [he, hf]; unfold Bt.ct; omega
  have HF := hidden hf
  have HE := hidden he
  have hfe1 := hfe.1
  have hfe2 := hfe.2
  obtain ⟨ao, cap, hu, hcap, _⟩ := h.cells
  subst hu
  clear h hf he hfe
  go_enter Try.func4, Try.ntmps4
  go_wp2_with fail
  refine (awake_any w).mono ?_
  rintro e' w1 ⟨rfl, hq1⟩
  have HQ1 := hidden hq1
  have HO1 := hidden (HH.out.below hq1 (Nat.le_refl _))
  clear hq1
  go_wp2_with fail
  refine (All_any l _ w1 HO1.out hl).mono ?_
  rintro e' w2 ⟨v2, rfl, hb2, hq2⟩
  have HB2 : Hid (Bl w2 v2 (Bt.all l)) := hb2
  have HQ2 := hidden (HQ1.out.trans (hq2.mono HQ1.out.size))
  clear hb2 hq2
  generalize hLL : Bt.all l = L at *
  have HLL := hidden hLL
  clear hLL
  go_wp2_with fail
  refine (Made_any L v2 w2 HB2.out (by omega)).mono ?_
  rintro e' w3 ⟨r3, u3, rfl, hr3, hq3, _, _⟩
  have HR3 := hidden hr3
  have HB3 : Hid (Bl w3 v2 L) := HB2.out.below hq3 (Nat.le_refl _)
  have HQ3 := hidden (HQ2.out.trans (hq3.mono HQ2.out.size))
  clear hr3 hq3 HB2
  obtain ⟨ao2, cap2, hv2, hcap2, _⟩ := HB3.out.form
  subst hv2
  go_wp2_with fail
  refine (RField_arg r3 a t _ (.inr hn)).mono ?_
  rintro e' w4 ⟨rfl, rfl⟩
  go_wp2_with fail
  have s0 : (0 : Int) ≤ (f : Int) := by omega
  have s1 : (f : Int) ≤ (e : Int) := by omega
  have s2 : (e : Int) ≤ (cap2 : Int) := by omega
  have hif : ∀ x y : Option Addr, (if cap2 = f then x else y) = pickA cap2 f x y := fun _ _ => rfl
  go_region_held (fun _ => True) (trivial)
    (first
      | (go_at_call 19; refine (Word_any r3 _ _ a u3 _ HR3.out.drew).mono ?_; rintro e' w6 ⟨rfl, rfl⟩)
      | (go_at_call 20; refine (rWord_any L _ a _ (by exact HB3.out) (by omega)).mono ?_; rintro e' w6 ⟨rfl, rfl⟩)
      | (go_at_call 21; refine (Clip_any r3 _ _ a t u3 _ HR3.out.drew).mono ?_; rintro e' w7 ⟨r7, u7, rfl, hr7⟩; have HR7 := hidden hr7; clear hr7)
      | (go_at_call 14; refine (Is_true r7 ((L.drop f).take (e - f)) u7 _ _ (by exact HR7.out.1.part HF.out HE.out rfl) (by exact (HB3.out.below (below_undrew HR7.out.2.1) (Nat.le_refl _)).parts hcap2 hfe1 hfe2)).mono ?_; rintro e' w8 ⟨rfl, hm8⟩; have HM8 := hidden hm8; clear hm8))
  go_wp2_with fail
  go_ret
  obtain ⟨m8, hm8⟩ := HM8.out
  refine ⟨rfl, ?_⟩
  rw [hm8]
  exact drewN_below (HQ3.out.trans ((below_undrew HR7.out.2.1).mono HQ3.out.size)) _
set_option maxHeartbeats 4000000 in
theorem BitsReads_ahead (l : List (Nat × Int)) (u : Value) (a t : Int) (w : World) (h : Ops w u l) (hl : l.length ≤ 60) (ha1 : -9223372036854775808 ≤ a) (ha2 : a ≤ 9223372036854775807) (ht1 : -9223372036854775808 ≤ t) (ht2 : t ≤ 9223372036854775807) (h0 : 0 ≤ t) (h1 : t ≤ 64) (hr : a < 0) :
    Calls Try.prog 4 #[u, .int .i64 a, .int .i64 t] w fun e w' => e = .returned (.bool true) ∧ Below w.heap.size w w' := by
  have HH := hidden h
  have hL := Bt.all_length l l.length
  rw [List.take_of_length_le (Nat.le_refl _)] at hL
  obtain ⟨f, hf⟩ : ∃ f : Nat, f = Bt.cf (Bt.all l).length a := ⟨_, rfl⟩
  obtain ⟨e, he⟩ : ∃ e : Nat, e = Bt.ct (Bt.all l).length a t := ⟨_, rfl⟩
  have hfe : f ≤ e ∧ e ≤ (Bt.all l).length := by rw [hf, he]; exact Bt.cf_le _ _ _
  have hmf : min (max a 0) ((Bt.all l).length : Int) = (f : Int) := by rw [hf]; unfold Bt.cf; omega
  have hme : min (max t (f : Int)) ((Bt.all l).length : Int) = (e : Int) := by rw [he, hf]; unfold Bt.ct; omega
  have HF := hidden hf
  have HE := hidden he
  have hfe1 := hfe.1
  have hfe2 := hfe.2
  obtain ⟨ao, cap, hu, hcap, _⟩ := h.cells
  subst hu
  clear h hf he hfe
  go_enter Try.func4, Try.ntmps4
  go_wp2_with fail
  refine (awake_any w).mono ?_
  rintro e' w1 ⟨rfl, hq1⟩
  have HQ1 := hidden hq1
  have HO1 := hidden (HH.out.below hq1 (Nat.le_refl _))
  clear hq1
  go_wp2_with fail
  refine (All_any l _ w1 HO1.out hl).mono ?_
  rintro e' w2 ⟨v2, rfl, hb2, hq2⟩
  have HB2 : Hid (Bl w2 v2 (Bt.all l)) := hb2
  have HQ2 := hidden (HQ1.out.trans (hq2.mono HQ1.out.size))
  clear hb2 hq2
  generalize hLL : Bt.all l = L at *
  have HLL := hidden hLL
  clear hLL
  go_wp2_with fail
  refine (Made_any L v2 w2 HB2.out (by omega)).mono ?_
  rintro e' w3 ⟨r3, u3, rfl, hr3, hq3, _, _⟩
  have HR3 := hidden hr3
  have HB3 : Hid (Bl w3 v2 L) := HB2.out.below hq3 (Nat.le_refl _)
  have HQ3 := hidden (HQ2.out.trans (hq3.mono HQ2.out.size))
  clear hr3 hq3 HB2
  obtain ⟨ao2, cap2, hv2, hcap2, _⟩ := HB3.out.form
  subst hv2
  go_wp2_with fail
  refine (RField_range r3 _ _ a t u3 _ HR3.out h0 h1 (by omega)).mono ?_
  rintro e' w4 ⟨rfl, rfl⟩
  go_wp2_with fail
  have s0 : (0 : Int) ≤ (f : Int) := by omega
  have s1 : (f : Int) ≤ (e : Int) := by omega
  have s2 : (e : Int) ≤ (cap2 : Int) := by omega
  have hif : ∀ x y : Option Addr, (if cap2 = f then x else y) = pickA cap2 f x y := fun _ _ => rfl
  go_region_held (fun _ => True) (trivial)
    (first
      | (go_at_call 19; refine (Word_any r3 _ _ a u3 _ HR3.out.drew).mono ?_; rintro e' w6 ⟨rfl, rfl⟩)
      | (go_at_call 20; refine (rWord_any L _ a _ (by exact HB3.out) (by omega)).mono ?_; rintro e' w6 ⟨rfl, rfl⟩)
      | (go_at_call 21; refine (Clip_any r3 _ _ a t u3 _ HR3.out.drew).mono ?_; rintro e' w7 ⟨r7, u7, rfl, hr7⟩; have HR7 := hidden hr7; clear hr7)
      | (go_at_call 14; refine (Is_true r7 ((L.drop f).take (e - f)) u7 _ _ (by exact HR7.out.1.part HF.out HE.out rfl) (by exact (HB3.out.below (below_undrew HR7.out.2.1) (Nat.le_refl _)).parts hcap2 hfe1 hfe2)).mono ?_; rintro e' w8 ⟨rfl, hm8⟩; have HM8 := hidden hm8; clear hm8))
  go_wp2_with fail
  go_ret
  obtain ⟨m8, hm8⟩ := HM8.out
  refine ⟨rfl, ?_⟩
  rw [hm8]
  exact drewN_below (HQ3.out.trans ((below_undrew HR7.out.2.1).mono HQ3.out.size)) _
set_option maxHeartbeats 4000000 in
theorem BitsReads_behind (l : List (Nat × Int)) (u : Value) (a t : Int) (w : World) (h : Ops w u l) (hl : l.length ≤ 60) (ha1 : -9223372036854775808 ≤ a) (ha2 : a ≤ 9223372036854775807) (ht1 : -9223372036854775808 ≤ t) (ht2 : t ≤ 9223372036854775807) (h0 : 0 ≤ t) (h1 : t ≤ 64) (hr0 : 0 ≤ a) (hr : ((Bt.all l).length : Int) - t < a) :
    Calls Try.prog 4 #[u, .int .i64 a, .int .i64 t] w fun e w' => e = .returned (.bool true) ∧ Below w.heap.size w w' := by
  have HH := hidden h
  have hL := Bt.all_length l l.length
  rw [List.take_of_length_le (Nat.le_refl _)] at hL
  obtain ⟨f, hf⟩ : ∃ f : Nat, f = Bt.cf (Bt.all l).length a := ⟨_, rfl⟩
  obtain ⟨e, he⟩ : ∃ e : Nat, e = Bt.ct (Bt.all l).length a t := ⟨_, rfl⟩
  have hfe : f ≤ e ∧ e ≤ (Bt.all l).length := by rw [hf, he]; exact Bt.cf_le _ _ _
  have hmf : min (max a 0) ((Bt.all l).length : Int) = (f : Int) := by rw [hf]; unfold Bt.cf; omega
  have hme : min (max t (f : Int)) ((Bt.all l).length : Int) = (e : Int) := by rw [he, hf]; unfold Bt.ct; omega
  have HF := hidden hf
  have HE := hidden he
  have hfe1 := hfe.1
  have hfe2 := hfe.2
  obtain ⟨ao, cap, hu, hcap, _⟩ := h.cells
  subst hu
  clear h hf he hfe
  go_enter Try.func4, Try.ntmps4
  go_wp2_with fail
  refine (awake_any w).mono ?_
  rintro e' w1 ⟨rfl, hq1⟩
  have HQ1 := hidden hq1
  have HO1 := hidden (HH.out.below hq1 (Nat.le_refl _))
  clear hq1
  go_wp2_with fail
  refine (All_any l _ w1 HO1.out hl).mono ?_
  rintro e' w2 ⟨v2, rfl, hb2, hq2⟩
  have HB2 : Hid (Bl w2 v2 (Bt.all l)) := hb2
  have HQ2 := hidden (HQ1.out.trans (hq2.mono HQ1.out.size))
  clear hb2 hq2
  generalize hLL : Bt.all l = L at *
  have HLL := hidden hLL
  clear hLL
  go_wp2_with fail
  refine (Made_any L v2 w2 HB2.out (by omega)).mono ?_
  rintro e' w3 ⟨r3, u3, rfl, hr3, hq3, _, _⟩
  have HR3 := hidden hr3
  have HB3 : Hid (Bl w3 v2 L) := HB2.out.below hq3 (Nat.le_refl _)
  have HQ3 := hidden (HQ2.out.trans (hq3.mono HQ2.out.size))
  clear hr3 hq3 HB2
  obtain ⟨ao2, cap2, hv2, hcap2, _⟩ := HB3.out.form
  subst hv2
  go_wp2_with fail
  refine (RField_range r3 _ _ a t u3 _ HR3.out h0 h1 (by omega)).mono ?_
  rintro e' w4 ⟨rfl, rfl⟩
  go_wp2_with fail
  have s0 : (0 : Int) ≤ (f : Int) := by omega
  have s1 : (f : Int) ≤ (e : Int) := by omega
  have s2 : (e : Int) ≤ (cap2 : Int) := by omega
  have hif : ∀ x y : Option Addr, (if cap2 = f then x else y) = pickA cap2 f x y := fun _ _ => rfl
  go_region_held (fun _ => True) (trivial)
    (first
      | (go_at_call 19; refine (Word_any r3 _ _ a u3 _ HR3.out.drew).mono ?_; rintro e' w6 ⟨rfl, rfl⟩)
      | (go_at_call 20; refine (rWord_any L _ a _ (by exact HB3.out) (by omega)).mono ?_; rintro e' w6 ⟨rfl, rfl⟩)
      | (go_at_call 21; refine (Clip_any r3 _ _ a t u3 _ HR3.out.drew).mono ?_; rintro e' w7 ⟨r7, u7, rfl, hr7⟩; have HR7 := hidden hr7; clear hr7)
      | (go_at_call 14; refine (Is_true r7 ((L.drop f).take (e - f)) u7 _ _ (by exact HR7.out.1.part HF.out HE.out rfl) (by exact (HB3.out.below (below_undrew HR7.out.2.1) (Nat.le_refl _)).parts hcap2 hfe1 hfe2)).mono ?_; rintro e' w8 ⟨rfl, hm8⟩; have HM8 := hidden hm8; clear hm8))
  go_wp2_with fail
  go_ret
  obtain ⟨m8, hm8⟩ := HM8.out
  refine ⟨rfl, ?_⟩
  rw [hm8]
  exact drewN_below (HQ3.out.trans ((below_undrew HR7.out.2.1).mono HQ3.out.size)) _
set_option maxHeartbeats 4000000 in
theorem BitsReads_in (l : List (Nat × Int)) (u : Value) (a t : Int) (w : World) (h : Ops w u l) (hl : l.length ≤ 60) (ha1 : -9223372036854775808 ≤ a) (ha2 : a ≤ 9223372036854775807) (ht1 : -9223372036854775808 ≤ t) (ht2 : t ≤ 9223372036854775807) (h0 : 0 ≤ t) (h1 : t ≤ 64) (hr0 : 0 ≤ a) (hr : a ≤ ((Bt.all l).length : Int) - t) :
    Calls Try.prog 4 #[u, .int .i64 a, .int .i64 t] w fun e w' => e = .returned (.bool true) ∧ Below w.heap.size w w' := by
  have HH := hidden h
  have hL := Bt.all_length l l.length
  rw [List.take_of_length_le (Nat.le_refl _)] at hL
  obtain ⟨f, hf⟩ : ∃ f : Nat, f = Bt.cf (Bt.all l).length a := ⟨_, rfl⟩
  obtain ⟨e, he⟩ : ∃ e : Nat, e = Bt.ct (Bt.all l).length a t := ⟨_, rfl⟩
  have hfe : f ≤ e ∧ e ≤ (Bt.all l).length := by rw [hf, he]; exact Bt.cf_le _ _ _
  have hmf : min (max a 0) ((Bt.all l).length : Int) = (f : Int) := by rw [hf]; unfold Bt.cf; omega
  have hme : min (max t (f : Int)) ((Bt.all l).length : Int) = (e : Int) := by rw [he, hf]; unfold Bt.ct; omega
  have HF := hidden hf
  have HE := hidden he
  have hfe1 := hfe.1
  have hfe2 := hfe.2
  obtain ⟨ao, cap, hu, hcap, _⟩ := h.cells
  subst hu
  clear h hf he hfe
  obtain ⟨A, hA0⟩ := Int.eq_ofNat_of_zero_le hr0
  obtain ⟨N, hN0⟩ := Int.eq_ofNat_of_zero_le h0
  have hA : Hid (a = (A : Int)) := hA0
  have hN : Hid (t = (N : Int)) := hN0
  have hN2 : N ≤ 64 := by omega
  have hAb1 : (A : Int) ≤ a := by omega
  have hAb2 : a ≤ (A : Int) := by omega
  have hNb1 : (N : Int) ≤ t := by omega
  have hNb2 : t ≤ (N : Int) := by omega
  clear hA0 hN0
  go_enter Try.func4, Try.ntmps4
  go_wp2_with fail
  refine (awake_any w).mono ?_
  rintro e' w1 ⟨rfl, hq1⟩
  have HQ1 := hidden hq1
  have HO1 := hidden (HH.out.below hq1 (Nat.le_refl _))
  clear hq1
  go_wp2_with fail
  refine (All_any l _ w1 HO1.out hl).mono ?_
  rintro e' w2 ⟨v2, rfl, hb2, hq2⟩
  have HB2 : Hid (Bl w2 v2 (Bt.all l)) := hb2
  have HQ2 := hidden (HQ1.out.trans (hq2.mono HQ1.out.size))
  clear hb2 hq2
  generalize hLL : Bt.all l = L at *
  have HLL := hidden hLL
  clear hLL
  go_wp2_with fail
  refine (Made_any L v2 w2 HB2.out (by omega)).mono ?_
  rintro e' w3 ⟨r3, u3, rfl, hr3, hq3, _, _⟩
  have HR3 := hidden hr3
  have HB3 : Hid (Bl w3 v2 L) := HB2.out.below hq3 (Nat.le_refl _)
  have HQ3 := hidden (HQ2.out.trans (hq3.mono HQ2.out.size))
  clear hr3 hq3 HB2
  obtain ⟨ao2, cap2, hv2, hcap2, _⟩ := HB3.out.form
  subst hv2
  go_wp2_with fail
  refine (RField_at r3 _ _ A N a t u3 _ HR3.out hA hN hN2 (by omega)).mono ?_
  rintro e' w4 ⟨rfl, rfl⟩
  go_wp2_with fail
  refine (rFld_at L _ A N a t _ HB3.out hA hN (by omega) (by omega) hN2).mono ?_
  rintro e' w5 ⟨rfl, rfl⟩
  go_wp2_with fail
  have s0 : (0 : Int) ≤ (f : Int) := by omega
  have s1 : (f : Int) ≤ (e : Int) := by omega
  have s2 : (e : Int) ≤ (cap2 : Int) := by omega
  have hif : ∀ x y : Option Addr, (if cap2 = f then x else y) = pickA cap2 f x y := fun _ _ => rfl
  go_region_held (fun _ => True) (trivial)
    (first
      | (go_at_call 19; refine (Word_any r3 _ _ a u3 _ HR3.out.drew).mono ?_; rintro e' w6 ⟨rfl, rfl⟩)
      | (go_at_call 20; refine (rWord_any L _ a _ (by exact HB3.out) (by omega)).mono ?_; rintro e' w6 ⟨rfl, rfl⟩)
      | (go_at_call 21; refine (Clip_any r3 _ _ a t u3 _ HR3.out.drew).mono ?_; rintro e' w7 ⟨r7, u7, rfl, hr7⟩; have HR7 := hidden hr7; clear hr7)
      | (go_at_call 14; refine (Is_true r7 ((L.drop f).take (e - f)) u7 _ _ (by exact HR7.out.1.part HF.out HE.out rfl) (by exact (HB3.out.below (below_undrew HR7.out.2.1) (Nat.le_refl _)).parts hcap2 hfe1 hfe2)).mono ?_; rintro e' w8 ⟨rfl, hm8⟩; have HM8 := hidden hm8; clear hm8))
  go_wp2_with fail
  go_ret
  obtain ⟨m8, hm8⟩ := HM8.out
  refine ⟨rfl, ?_⟩
  rw [hm8]
  exact drewN_below (HQ3.out.trans ((below_undrew HR7.out.2.1).mono HQ3.out.size)) _
set_option maxHeartbeats 1000000 in
theorem BitsReads_long (l : List (Nat × Int)) (u : Value) (a t : Int) (w : World) (h : Ops w u l) (hl : 60 < l.length) (hm : l.length ≤ 9223372036854775807) :
    Calls Try.prog 4 #[u, .int .i64 a, .int .i64 t] w fun e w' => e = .returned (.bool true) ∧ Below w.heap.size w w' := by
  obtain ⟨ao, cap, rfl, hcap, hc⟩ := h.cells
  clear h hc
  go_enter Try.func4, Try.ntmps4
  go_wp2_with fail
  refine (awake_any w).mono ?_
  rintro e w1 ⟨rfl, hq1⟩
  have HQ1 := hidden hq1
  clear hq1
  go_wp2_with fail
  refine (awake_any w1).mono ?_
  rintro e w2 ⟨rfl, hq2⟩
  have HQ2 := hidden hq2
  clear hq2
  go_wp2_with fail
  go_ret
  exact ⟨rfl, HQ1.out.trans (HQ2.out.mono HQ1.out.size)⟩
theorem BitsReads_walk (l : List (Nat × Int)) (u : Value) (a t : Int) (w : World) (h : Ops w u l) (hm : l.length ≤ 9223372036854775807) (ha1 : -9223372036854775808 ≤ a) (ha2 : a ≤ 9223372036854775807) (ht1 : -9223372036854775808 ≤ t) (ht2 : t ≤ 9223372036854775807) :
    Calls Try.prog 4 #[u, .int .i64 a, .int .i64 t] w fun e w' => e = .returned (.bool true) ∧ Below w.heap.size w w' := by
  by_cases hl : l.length ≤ 60
  · by_cases h1 : t < 0
    · exact BitsReads_low l u a t w h hl ha1 ha2 ht1 ht2 h1
    · by_cases h2 : 64 < t
      · exact BitsReads_high l u a t w h hl ha1 ha2 ht1 ht2 h2
      · by_cases h3 : a < 0
        · exact BitsReads_ahead l u a t w h hl ha1 ha2 ht1 ht2 (by omega) (by omega) h3
        · by_cases h4 : ((Bt.all l).length : Int) - t < a
          · exact BitsReads_behind l u a t w h hl ha1 ha2 ht1 ht2 (by omega) (by omega) (by omega) h4
          · exact BitsReads_in l u a t w h hl ha1 ha2 ht1 ht2 (by omega) (by omega) (by omega) (by omega)
  · exact BitsReads_long l u a t w h (by omega) hm
end Go.Proofs.Ytkendkohobfnnaa
