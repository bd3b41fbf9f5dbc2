/-
  The contract of a tree's seek: by each way, with a function value that tells whether a node meets an excess, it ends at the block, or tells that there is none; memory is but made.
-/
import Derived.Test.YtdjhpfojbnikdaaMxAsk
import Derived.Test.YtdjhpfojbnikdaaScopeDown
import Derived.Shelf.Abstract
namespace Go.Proofs.Ytdjhpfojbnikdaa
open Go.RowKit
/-- Where the search stands at a label. -/
def SeekAt (t way m : Nat) (f : Value) (J : Nat → Nat → Int → Prop) (w : World) (a' : Act) (w' : World) : Prop :=
  Below w.heap.size w w' ∧ ∃ (k i : Nat) (d : Int) (u : Nat → Value), a' = { tmps := #[.pointer (some ⟨t, 0, none⟩), .int .i64 (i : Nat), .int .i64 d, .int .i64 (way : Nat), f, undef, undef, undef, undef, undef, .int .i64 0, .int .i64 0, .int .i64 (k : Nat), u 13, u 14, u 15, u 16, u 17, u 18, u 19, u 20, u 21, u 22, u 23, u 24, u 25, u 26, u 27, u 28, u 29, u 30, u 31, u 32, u 33, u 34, u 35, u 36, u 37, u 38, u 39, u 40, u 41, u 42, u 43, u 44, u 45, u 46, u 47, u 48, u 49, u 50, u 51, u 52, u 53, u 54, u 55, u 56, u 57, u 58, u 59, u 60, u 61, u 62, u 63, u 64, u 65, u 66, u 67, u 68, u 69, u 70, u 71, u 72, u 73, u 74, u 75, u 76, u 77, u 78, u 79, u 80, u 81, u 82, u 83, u 84, u 85, u 86, u 87, u 88, u 89, u 90, u 91, u 92, u 93, u 94, u 95, u 96, u 97, u 98, u 99, u 100, u 101, u 102, u 103, u 104, u 105, u 106, u 107, u 108, u 109], defers := [] } ∧ k < m ∧ J k i d
theorem SeekAt.mk {t way m : Nat} {f : Value} {J : Nat → Nat → Int → Prop} {w w' : World} (k i : Nat) (d : Int) {K I D : Int} {u13 u14 u15 u16 u17 u18 u19 u20 u21 u22 u23 u24 u25 u26 u27 u28 u29 u30 u31 u32 u33 u34 u35 u36 u37 u38 u39 u40 u41 u42 u43 u44 u45 u46 u47 u48 u49 u50 u51 u52 u53 u54 u55 u56 u57 u58 u59 u60 u61 u62 u63 u64 u65 u66 u67 u68 u69 u70 u71 u72 u73 u74 u75 u76 u77 u78 u79 u80 u81 u82 u83 u84 u85 u86 u87 u88 u89 u90 u91 u92 u93 u94 u95 u96 u97 u98 u99 u100 u101 u102 u103 u104 u105 u106 u107 u108 u109 : Value} (hb : Below w.heap.size w w') (hk : k < m) (hJ : J k i d) (eK : K = (k : Int)) (eI : I = (i : Int)) (eD : D = d) : SeekAt t way m f J w { tmps := #[.pointer (some ⟨t, 0, none⟩), .int .i64 I, .int .i64 D, .int .i64 (way : Nat), f, undef, undef, undef, undef, undef, .int .i64 0, .int .i64 0, .int .i64 K, u13, u14, u15, u16, u17, u18, u19, u20, u21, u22, u23, u24, u25, u26, u27, u28, u29, u30, u31, u32, u33, u34, u35, u36, u37, u38, u39, u40, u41, u42, u43, u44, u45, u46, u47, u48, u49, u50, u51, u52, u53, u54, u55, u56, u57, u58, u59, u60, u61, u62, u63, u64, u65, u66, u67, u68, u69, u70, u71, u72, u73, u74, u75, u76, u77, u78, u79, u80, u81, u82, u83, u84, u85, u86, u87, u88, u89, u90, u91, u92, u93, u94, u95, u96, u97, u98, u99, u100, u101, u102, u103, u104, u105, u106, u107, u108, u109], defers := [] } w' := by
  subst eK eI eD
  exact ⟨hb, k, i, D, fun j => [u13, u14, u15, u16, u17, u18, u19, u20, u21, u22, u23, u24, u25, u26, u27, u28, u29, u30, u31, u32, u33, u34, u35, u36, u37, u38, u39, u40, u41, u42, u43, u44, u45, u46, u47, u48, u49, u50, u51, u52, u53, u54, u55, u56, u57, u58, u59, u60, u61, u62, u63, u64, u65, u66, u67, u68, u69, u70, u71, u72, u73, u74, u75, u76, u77, u78, u79, u80, u81, u82, u83, u84, u85, u86, u87, u88, u89, u90, u91, u92, u93, u94, u95, u96, u97, u98, u99, u100, u101, u102, u103, u104, u105, u106, u107, u108, u109].getD (j - 13) undef, rfl, hk, hJ⟩
/-- A function value that tells whether a node meets an excess. -/
structure Mx.Meets (mf X n : Nat) (mt : Nat → Nat → Int → Bool) : Prop where
  enters : ∀ args w, (callFunc mf args).run Try.prog w = .ok (.enter mf args) w
  tells : ∀ k i d w, i < Mx.ln n k → -1099511627776 ≤ d ∧ d ≤ 1099511627776 → Calls Try.prog mf #[.agg #[.int .i64 (Mx.nx X n (Mx.wd k) i), .complex .f64 (floatOfInt .f64 (Mx.nl X n (Mx.wd k) i)) (floatOfInt .f64 (Mx.nh X n (Mx.wd k) i)), .complex .f64 (floatOfInt .f64 (Mx.ml X n (Mx.wd k) i)) (floatOfInt .f64 (Mx.mh X n (Mx.wd k) i))], .int .i64 d] w fun e w' => e = .returned (.bool (mt k i d)) ∧ Below w.heap.size w w'
/-- What it tells: none, or a block and what is left of the excess. -/
def SeekPost (V : Nat → Nat → Int → Prop) (No : Prop) (v : Value) : Prop := (v = .tuple #[.int .i64 (-1), .int .i64 0] ∧ No) ∨ ∃ (i : Nat) (d : Int), v = .tuple #[.int .i64 (i : Nat), .int .i64 d] ∧ V 0 i d
theorem Mx.xor_one (i : Nat) (h : i ≤ 4294967296) : bits .xor .i64 (i : Int) 1 = ((Mx.xr i : Nat) : Int) := by
  have h1 : (BitVec.ofInt 64 (i : Int)).toNat = i := by
    rw [BitVec.ofInt_natCast, BitVec.toNat_ofNat]; exact Nat.mod_eq_of_lt (by omega)
  have h2 : (BitVec.ofInt 64 (1 : Int)).toNat = 1 := by decide
  show IntKind.i64.wrap ((BitVec.ofInt 64 (i : Int) ^^^ BitVec.ofInt 64 (1 : Int)).toNat : Int) = _
  rw [BitVec.toNat_xor, h1, h2, Mx.xr_eq, IntKind.wrap_i64]
  unfold Mx.xr
  split <;> omega
set_option maxHeartbeats 4000000 in
set_option maxRecDepth 100000 in
theorem seek_any (t r n X : Nat) (u : Value) (gs : Nat → Nat) (m mf way i0 : Nat) (d0 : Int) (mt : Nat → Nat → Int → Bool) (U V : Nat → Nat → Int → Prop) (No : Prop) (w : World) (h : Tr w t r n X u gs m)
    (hway : Mx.Way (Mx.ln n) way (fun k i => Mx.nx X n (Mx.wd k) i) mt U V No) (hm : Mx.Meets mf X n mt) (hU : U 0 i0 d0) :
    Calls Try.prog 30 #[.pointer (some ⟨t, 0, none⟩), .int .i64 (i0 : Nat), .int .i64 d0, .int .i64 (way : Nat), .func (.func mf) #[] #[]] w fun e w' => (∃ v, e = .returned v ∧ SeekPost V No v) ∧ Below w.heap.size w w' := by
  have eg := hm.enters
  have HM := hidden hm.tells
  have HT := hidden h
  have HWY := hidden hway
  have hfew := h.few
  have hl := h.row.len
  have hpos := h.pos
  have HTOP := hidden h.top
  have HU := hidden hU
  clear h hway hm hU
  go_enter Try.func30, Try.ntmps30
  go_wp2_with fail
  refine wp_scope_down 0 1 (SeekAt t way m (.func (.func mf) #[] #[]) U w) (SeekAt t way m (.func (.func mf) #[] #[]) V w) (fun a' _ => m - (intOf (a'.tmps.getD 12 undef)).toNat) (fun a' _ => (intOf (a'.tmps.getD 12 undef)).toNat) rfl rfl ?_ ?_ ?_
  · go_wp2_with fail
    exact SeekAt.mk 0 i0 d0 (Below.refl _ _) hpos HU.out rfl rfl rfl
  · rintro a' w' ⟨hb, k, i, d, uu, rfl, hk, hu⟩
    have HUi := hidden hu
    have hi := HWY.out.inU k i d hu
    have hd := HWY.out.smallU k i d hu
    have HB := hidden hb
    obtain ⟨g, cap, hf⟩ := (HT.out.below hb (Nat.le_refl _)).form
    have c1 := hf.c1
    have c2 := hf.lev k hk
    have hfit := hf.fit
    have HF := hidden hf
    have hll := Mx.ln_le n k hl
    clear hu hb hf
    go_hide hQ
    by_cases htop : k + 1 = m
    · have hno : Hid No := HWY.out.top k i d HUi.out (by have := HTOP.out; rw [← htop] at this; exact this)
      have hkm : (m : Int) - 1 = (k : Int) := by omega
      clear htop
      go_wp2_with fail
      subst hQ
      simp only [jump2]
      go_ret2
      exact ⟨⟨_, rfl, .inl ⟨rfl, hno.out⟩⟩, HB.out⟩
    · have hkm : ((k : Int) == (m : Int) - 1) = false := by simp; omega
      have hxr := Mx.xor_one i (by omega)
      obtain ⟨i2, hi2⟩ : ∃ i2, i2 = i / 2 := ⟨_, rfl⟩
      have hi2' : (i : Int) / 2 = (i2 : Int) := by omega
      have HI2 := hidden hi2
      clear hi2
      have i0' : (0 : Int) ≤ (k : Int) := by omega
      have i1' : (k : Int) < (m : Int) := by omega
      by_cases hw : i % 2 = way
      · have hrem : (i : Int) % 2 = (way : Int) := by omega
        obtain ⟨q, hq⟩ : ∃ q, q = Mx.xr i := ⟨_, rfl⟩
        rw [← hq] at hxr
        by_cases hs : q < Mx.ln n k
        · have hs' : (q : Int) < ((Mx.ln n k : Nat) : Int) := by omega
          have n0 := HF.out.n0 k q hk hs
          have n1 := HF.out.n1 k q hk hs
          have n2 := HF.out.n2 k q hk hs
          have HC := hidden (HM.out k q d w' hs hd)
          have i2' : (0 : Int) ≤ (q : Int) := by omega
          have hbx := (Mx.bounds X n (Mx.wd k) q).1
          obtain ⟨x, hx⟩ : ∃ x, x = Mx.nx X n (Mx.wd k) q := ⟨_, rfl⟩
          have HX := hidden hx
          rw [← hx] at n0 HC hbx
          have HQ := hidden hq
          clear hx hq
          generalize floatOfInt .f64 (Mx.nl X n (Mx.wd k) q) = F1 at *
          generalize floatOfInt .f64 (Mx.nh X n (Mx.wd k) q) = F2 at *
          generalize floatOfInt .f64 (Mx.ml X n (Mx.wd k) q) = F3 at *
          generalize floatOfInt .f64 (Mx.mh X n (Mx.wd k) q) = F4 at *
          obtain ⟨o, ho⟩ : ∃ o, o = mt k q d := ⟨_, rfl⟩
          rw [← ho] at HC
          have HO := hidden ho
          clear ho
          go_wp2_with fail
          refine HC.out.mono ?_
          rintro e1 w1 ⟨rfl, hb1⟩
          have HB1 := hidden hb1
          have hb2 := HB.out.trans (hb1.mono HB.out.size)
          have HB2 := hidden hb2
          obtain ⟨g1, cap1, hf1⟩ := (HT.out.below hb2 (Nat.le_refl _)).form
          have d1 := hf1.c1
          have d2 := hf1.lev k hk
          have d3 := hf1.n0 k q hk hs
          rw [← HX.out] at d3
          clear hb1 hb2 hf1 c1 c2 n0 n1 n2
          cases o
          · have HP : Hid (U (k + 1) i2 (d - x)) := by
              have := HWY.out.past k i d HUi.out hw (by rw [← HQ.out]; exact hs) (by rw [← HQ.out]; exact HO.out.symm)
              rw [← HQ.out, ← HI2.out] at this
              rw [HX.out]
              exact this
            go_wp2_with fail
            go_step3
            subst hQ
            show (_ ∧ _) ∨ (_ ∧ _)
            exact .inl ⟨rfl, SeekAt.mk (k + 1) i2 (d - x) HB2.out (by omega) HP.out (by omega) (by have h1 := HQ.out; have h2 := HI2.out; unfold Mx.xr at h1; split at h1 <;> omega) rfl, by show m - (intOf (Value.int .i64 _)).toNat < m - (intOf (Value.int .i64 _)).toNat; simp [intOf]; omega⟩
          · have HP : Hid (V k q d) := by
              have := HWY.out.side k i d HUi.out hw (by rw [← HQ.out]; exact hs) (by rw [← HQ.out]; exact HO.out.symm)
              rw [← HQ.out] at this
              exact this
            go_wp2_with fail
            go_step3
            subst hQ
            show (_ ∧ _) ∨ (_ ∧ _)
            exact .inr ⟨rfl, SeekAt.mk k q d HB2.out hk HP.out rfl rfl rfl⟩
        · have hs' : ((q : Int) < ((Mx.ln n k : Nat) : Int)) = False := by simp; omega
          have HP : Hid (U (k + 1) i2 d) := by
            have := HWY.out.up k i d HUi.out (by rw [← hq]; omega)
            rw [← HI2.out] at this
            exact this
          clear hq
          go_wp2_with fail
          go_step3
          subst hQ
          show (_ ∧ _) ∨ (_ ∧ _)
          exact .inl ⟨rfl, SeekAt.mk (k + 1) i2 d HB.out (by omega) HP.out (by omega) rfl rfl, by show m - (intOf (Value.int .i64 _)).toNat < m - (intOf (Value.int .i64 _)).toNat; simp [intOf]; omega⟩
      · obtain ⟨b, hbd⟩ : ∃ b, b = i % 2 := ⟨_, rfl⟩
        have hrem : (i : Int) % 2 = (b : Int) := by omega
        have hbw : ((b : Int) == (way : Int)) = false := by simp; omega
        have HP : Hid (U (k + 1) i2 d) := by
          have := HWY.out.up k i d HUi.out (by omega)
          rw [← HI2.out] at this
          exact this
        clear hbd hw
        go_wp2_with fail
        go_step3
        subst hQ
        show (_ ∧ _) ∨ (_ ∧ _)
        exact .inl ⟨rfl, SeekAt.mk (k + 1) i2 d HB.out (by omega) HP.out (by omega) rfl rfl, by show m - (intOf (Value.int .i64 _)).toNat < m - (intOf (Value.int .i64 _)).toNat; simp [intOf]; omega⟩
  · rintro a' w' ⟨hb, k, i, d, uu, rfl, hk, hv⟩
    have HVi := hidden hv
    have hi := HWY.out.inV k i d hv
    have hd := HWY.out.smallV k i d hv
    have HB := hidden hb
    clear hv
    go_hide hQ
    by_cases hz : k = 0
    · subst hz
      go_wp2_with fail
      subst hQ
      simp only [jump2]
      go_ret2
      exact ⟨⟨_, rfl, .inr ⟨i, d, rfl, HVi.out⟩⟩, HB.out⟩
    · obtain ⟨l, rfl⟩ : ∃ l, k = l + 1 := ⟨k - 1, by omega⟩
      have hll := Mx.ln_le n (l + 1) hl
      have hll2 := Mx.ln_le n l hl
      have hfits := HWY.out.fits l i d HVi.out
      obtain ⟨q, hq⟩ : ∃ q, q = 2 * i + way := ⟨_, rfl⟩
      rw [← hq] at hfits
      have hq' : (2 : Int) * (i : Int) + (way : Int) = (q : Int) := by omega
      have hk1 : (((l + 1 : Nat) : Int) == 0) = false := by simp; omega
      have hk2 : ((l + 1 : Nat) : Int) - 1 = (l : Int) := by omega
      have hxr := Mx.xor_one q (by omega)
      obtain ⟨K, hK⟩ : ∃ K : Int, K = ((l + 1 : Nat) : Int) := ⟨_, rfl⟩
      rw [← hK] at hk1 hk2 ⊢
      have hKb : K ≤ 34 ∧ 1 ≤ K := by omega
      obtain ⟨g, cap, hf⟩ := (HT.out.below hb (Nat.le_refl _)).form
      have c1 := hf.c1
      have c2 := hf.lev l (by omega)
      have hfit := hf.fit
      have n0 := hf.n0 l q (by omega) hfits
      have n1 := hf.n1 l q (by omega) hfits
      have n2 := hf.n2 l q (by omega) hfits
      have HC := hidden (HM.out l q d w' hfits hd)
      have hbx := (Mx.bounds X n (Mx.wd l) q).1
      have i0' : (0 : Int) ≤ (l : Int) := by omega
      have i1' : (l : Int) < (m : Int) := by omega
      have i2' : (0 : Int) ≤ (q : Int) := by omega
      have i3' : (q : Int) < ((Mx.ln n l : Nat) : Int) := by omega
      obtain ⟨x, hx⟩ : ∃ x, x = Mx.nx X n (Mx.wd l) q := ⟨_, rfl⟩
      have HX := hidden hx
      rw [← hx] at n0 HC hbx
      have HQ := hidden hq
      have HKD := hidden hK
      clear hx hq hb hf hK
      generalize floatOfInt .f64 (Mx.nl X n (Mx.wd l) q) = F1 at *
      generalize floatOfInt .f64 (Mx.nh X n (Mx.wd l) q) = F2 at *
      generalize floatOfInt .f64 (Mx.ml X n (Mx.wd l) q) = F3 at *
      generalize floatOfInt .f64 (Mx.mh X n (Mx.wd l) q) = F4 at *
      obtain ⟨o, ho⟩ : ∃ o, o = mt l q d := ⟨_, rfl⟩
      rw [← ho] at HC
      have HO := hidden ho
      clear ho
      go_wp2_with fail
      refine HC.out.mono ?_
      rintro e1 w1 ⟨rfl, hb1⟩
      have HB1 := hidden hb1
      have hb2 := HB.out.trans (hb1.mono HB.out.size)
      have HB2 := hidden hb2
      obtain ⟨g1, cap1, hf1⟩ := (HT.out.below hb2 (Nat.le_refl _)).form
      have d1 := hf1.c1
      have d2 := hf1.lev l (by omega)
      have d3 := hf1.n0 l q (by omega) hfits
      rw [← HX.out] at d3
      clear hb1 hb2 hf1 c1 c2 n0 n1 n2
      cases o
      · have HP : Hid (V l (Mx.xr q) (d - x)) := by
          have := HWY.out.other l i d HVi.out (by rw [← HQ.out]; exact HO.out.symm)
          rw [← HQ.out] at this
          rw [HX.out]
          exact this
        go_wp2_with fail
        go_step3
        subst hQ
        show (_ ∧ _) ∨ (_ ∧ _)
        exact .inr ⟨rfl, SeekAt.mk l (Mx.xr q) (d - x) HB2.out (by omega) HP.out rfl rfl rfl, by show (intOf (Value.int .i64 _)).toNat < (intOf (Value.int .i64 _)).toNat; simp [intOf]⟩
      · have HP : Hid (V l q d) := by
          have := HWY.out.down l i d HVi.out (by rw [← HQ.out]; exact HO.out.symm)
          rw [← HQ.out] at this
          exact this
        go_wp2_with fail
        go_step3
        subst hQ
        show (_ ∧ _) ∨ (_ ∧ _)
        exact .inr ⟨rfl, SeekAt.mk l q d HB2.out (by omega) HP.out rfl rfl rfl, by show (intOf (Value.int .i64 _)).toNat < (intOf (Value.int .i64 _)).toNat; simp [intOf]⟩
end Go.Proofs.Ytdjhpfojbnikdaa
