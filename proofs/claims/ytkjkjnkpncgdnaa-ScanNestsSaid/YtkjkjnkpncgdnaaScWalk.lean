/-
  The contract of package scan's walk: of every string that is alive as UTF-8 it tells what the machine of JSON texts tells; nothing that was there is changed.
-/
import Derived.Test.YtkjkjnkpncgdnaaScQuo
import Derived.Test.YtkjkjnkpncgdnaaScStack
import Derived.Test.YtkjkjnkpncgdnaaJsItem
namespace Go.Proofs.Ytkjkjnkpncgdnaa
open Go.RowKit
theorem sSingle_at (s : ByteArray) (p : Nat) (w : World) (hs : s.size ≤ 1000000) (hp : p ≤ s.size) (hal : Js.Al s.data.toList) (has : Js.As s.data.toList p) (hB : Js.isB (Js.bt s.data.toList p) = false) (h91 : Js.bt s.data.toList p ≠ 91) (h123 : Js.bt s.data.toList p ≠ 123) :
    Calls Try.prog 21 #[.string (s.extract p s.size)] w fun e w' => ((∃ n : Nat, e = .returned (.tuple #[.int .i64 (n : Nat), .bool true]) ∧ p + n ≤ s.size ∧ 0 < n ∧ Js.bt s.data.toList (p + n - 1) < 128 ∧ ∀ st d, Js.T s.data.toList (Js.cV st d) p = Js.T s.data.toList (Js.cE st d) (p + n))
      ∨ ∃ n : Nat, e = .returned (.tuple #[.int .i64 (n : Nat), .bool false]) ∧ p + n ≤ s.size ∧ ∀ st d, Js.T s.data.toList (Js.cV st d) p = (none, p + n)) ∧ Below w.heap.size w w' := by
  have hl : s.data.toList.length = s.size := rfl
  have h0 : Js.bt (s.data.toList.drop p) 0 = Js.bt s.data.toList p := Js.bt_drop _ p 0
  have h := sSingle_any (s.extract p s.size) w (by rw [cut_size]; omega) (by rw [cut_tail]; exact hal.drop _ p has hp) (by rw [cut_tail, h0]; exact hB) (by rw [cut_tail, h0]; exact h91) (by rw [cut_tail, h0]; exact h123)
  rw [cut_tail] at h
  refine h.mono ?_
  rintro e w' ⟨hq, hb⟩
  refine ⟨?_, hb⟩
  have hT : ∀ c, Js.T s.data.toList c p = ((Js.T (s.data.toList.drop p) c 0).1, (Js.T (s.data.toList.drop p) c 0).2 + p) := fun c => Js.T_drop s.data.toList c p 0
  rcases hq with ⟨n, he, h1, h2, h3, h4⟩ | ⟨n, he, h1, h4⟩
  · rw [List.length_drop, hl] at h1
    rw [Js.bt_drop] at h3
    refine .inl ⟨n, he, by omega, h2, by rw [Nat.add_sub_assoc h2]; exact h3, fun st d => ?_⟩
    rw [hT, h4 st d, ← Js.T_drop]
  · rw [List.length_drop, hl] at h1
    refine .inr ⟨n, he, by omega, fun st d => ?_⟩
    rw [hT, h4 st d]
    show (none, n + p) = (none, p + n)
    rw [Nat.add_comm]
theorem sQuoted_at (s : ByteArray) (p : Nat) (w : World) (hs : s.size ≤ 1000000) (hp : p ≤ s.size) (hal : Js.Al s.data.toList) (has : Js.As s.data.toList p) (hB : Js.isB (Js.bt s.data.toList p) = false) :
    Calls Try.prog 23 #[.string (s.extract p s.size)] w fun e w' => ((∃ n : Nat, e = .returned (.tuple #[.int .i64 (n : Nat), .bool true]) ∧ p + n ≤ s.size ∧ 0 < n ∧ Js.bt s.data.toList (p + n - 1) < 128 ∧ ∀ st d, Js.T s.data.toList (Js.cK st d) p = Js.T s.data.toList (Js.cC st d) (p + n))
      ∨ ∃ n : Nat, e = .returned (.tuple #[.int .i64 (n : Nat), .bool false]) ∧ p + n ≤ s.size ∧ ∀ st d, Js.T s.data.toList (Js.cK st d) p = (none, p + n)) ∧ w' = w := by
  have hl : s.data.toList.length = s.size := rfl
  have h0 : Js.bt (s.data.toList.drop p) 0 = Js.bt s.data.toList p := Js.bt_drop _ p 0
  have h := sQuoted_any (s.extract p s.size) w (by rw [cut_size]; omega) (by rw [cut_tail]; exact hal.drop _ p has hp)
  rw [cut_tail] at h
  refine h.mono ?_
  rintro e w' ⟨hq, hb⟩
  refine ⟨?_, hb⟩
  have hT : ∀ c, Js.T s.data.toList c p = ((Js.T (s.data.toList.drop p) c 0).1, (Js.T (s.data.toList.drop p) c 0).2 + p) := fun c => Js.T_drop s.data.toList c p 0
  have hK : Js.bt s.data.toList p = 34 → ∀ st d, Js.T (s.data.toList.drop p) (Js.cK st d) 0 = Js.T (s.data.toList.drop p) (Js.cS 0 true st d) 1 := fun h34 st d => Js.T_go _ _ _ 0 (by rw [h0, h34]; decide) (by rw [h0, h34]; rfl)
  rcases hq with ⟨n, he, h1, h2, h3, h5, h4⟩ | ⟨n, he, h1, h4, h5⟩
  · rw [List.length_drop, hl] at h1
    rw [Js.bt_drop] at h3
    rw [h0] at h5
    refine .inl ⟨n, he, by omega, h2, by rw [Nat.add_sub_assoc h2]; exact h3, fun st d => ?_⟩
    rw [hT, hK h5, h4 true st d, Js.T_drop]
    rfl
  · rw [List.length_drop, hl] at h1
    rw [h0] at h4 h5
    refine .inr ⟨n, he, by omega, fun st d => ?_⟩
    by_cases h34 : Js.bt s.data.toList p = 34
    · rw [hT, hK h34, h5 h34 true st d]
      show (none, n + p) = (none, p + n)
      rw [Nat.add_comm]
    · rw [h4 h34]
      exact Js.T_no _ _ p hp rfl fun _ => by rw [Js.step_K _ _ _ hB, if_neg h34]
theorem Stk.below {w' w2 : World} {B b : Nat} {st : List Bool} {D : Nat} (h : Stk w' B b st D) (hb : Below w'.heap.size w' w2) : Stk w2 B b st D := by
  obtain ⟨v, x, bl, hk⟩ := h
  refine ⟨v, x, bl, hk.base, hk.lt, hk.all, hk.few, hk.said, by rw [hb.block b (lt_of_block hk.cells)]; exact hk.cells, hk.own.1, ?_⟩
  rcases hk.own.2 with h | ⟨g, cap, cur, hv, hB, hg, r⟩
  · exact .inl h
  · exact .inr ⟨g, cap, cur, hv, hB, by rw [hb.block g (lt_of_block hg)]; exact hg, r⟩
theorem Stk.new (w : World) : Stk (w.alloc (.cells #[.slice none 0 0, .int .u64 0, .int .i64 0, .int .i64 0] 48)) w.heap.size w.heap.size [] 0 :=
  ⟨.slice none 0 0, 0, [], Nat.le_refl _, by decide, fun y hy => absurd hy List.not_mem_nil, Nat.le_refl _, rfl, heap_alloc_new w _, World.ownsRow_nil _ _ _ _⟩
theorem Stk.size {w' : World} {B b : Nat} {st : List Bool} {D : Nat} (h : Stk w' B b st D) : w'.cell? ⟨b, 2, none⟩ = some (.int .i64 (st.length : Nat)) ∧ w'.cell? ⟨b, 3, none⟩ = some (.int .i64 (D : Nat)) := by
  obtain ⟨v, x, bl, hk⟩ := h
  exact ⟨Lib.cell_of_heap hk.cells 2, Lib.cell_of_heap hk.cells 3⟩
def frWk (s : ByteArray) (b a : Nat) (u : Nat → Value) : Array Value := #[.string s, undef, .int .i64 0, .int .i64 0, .bool false, .pointer (some ⟨b, 0, none⟩), .int .i64 (a : Nat), u 7, u 8, u 9, u 10, u 11, u 12, u 13, u 14, u 15, u 16, u 17, u 18, u 19, u 20, u 21, u 22, u 23, u 24, u 25, u 26, u 27, u 28, u 29, u 30, u 31, u 32, u 33, u 34, u 35, u 36, u 37, u 38, u 39, u 40, u 41, u 42, u 43, u 44, u 45, u 46, u 47, u 48, u 49, u 50, u 51, u 52, u 53, u 54, u 55, u 56, u 57, u 58, u 59, u 60, u 61, u 62, u 63, u 64, u 65, u 66, u 67, u 68, u 69, u 70, u 71, u 72, u 73, u 74, u 75, u 76, u 77, u 78, u 79, u 80, u 81, u 82, u 83, u 84, u 85, u 86, u 87, u 88, u 89, u 90, u 91, u 92, u 93, u 94, u 95, u 96, u 97, u 98, u 99, u 100, u 101, u 102, u 103, u 104, u 105, u 106, u 107, u 108, u 109, u 110, u 111, u 112, u 113, u 114, u 115, u 116, u 117]
theorem frWk_is {s : ByteArray} {b a : Nat} {x6 u7 u8 u9 u10 u11 u12 u13 u14 u15 u16 u17 u18 u19 u20 u21 u22 u23 u24 u25 u26 u27 u28 u29 u30 u31 u32 u33 u34 u35 u36 u37 u38 u39 u40 u41 u42 u43 u44 u45 u46 u47 u48 u49 u50 u51 u52 u53 u54 u55 u56 u57 u58 u59 u60 u61 u62 u63 u64 u65 u66 u67 u68 u69 u70 u71 u72 u73 u74 u75 u76 u77 u78 u79 u80 u81 u82 u83 u84 u85 u86 u87 u88 u89 u90 u91 u92 u93 u94 u95 u96 u97 u98 u99 u100 u101 u102 u103 u104 u105 u106 u107 u108 u109 u110 u111 u112 u113 u114 u115 u116 u117 : Value} (h : x6 = .int .i64 (a : Nat)) : ∃ u, #[.string s, undef, .int .i64 0, .int .i64 0, .bool false, .pointer (some ⟨b, 0, none⟩), x6, u7, u8, u9, u10, u11, u12, u13, u14, u15, u16, u17, u18, u19, u20, u21, u22, u23, u24, u25, u26, u27, u28, u29, u30, u31, u32, u33, u34, u35, u36, u37, u38, u39, u40, u41, u42, u43, u44, u45, u46, u47, u48, u49, u50, u51, u52, u53, u54, u55, u56, u57, u58, u59, u60, u61, u62, u63, u64, u65, u66, u67, u68, u69, u70, u71, u72, u73, u74, u75, u76, u77, u78, u79, u80, u81, u82, u83, u84, u85, u86, u87, u88, u89, u90, u91, u92, u93, u94, u95, u96, u97, u98, u99, u100, u101, u102, u103, u104, u105, u106, u107, u108, u109, u110, u111, u112, u113, u114, u115, u116, u117] = frWk s b a u := by
  subst h
  exact ⟨fun j => [u7, u8, u9, u10, u11, u12, u13, u14, u15, u16, u17, u18, u19, u20, u21, u22, u23, u24, u25, u26, u27, u28, u29, u30, u31, u32, u33, u34, u35, u36, u37, u38, u39, u40, u41, u42, u43, u44, u45, u46, u47, u48, u49, u50, u51, u52, u53, u54, u55, u56, u57, u58, u59, u60, u61, u62, u63, u64, u65, u66, u67, u68, u69, u70, u71, u72, u73, u74, u75, u76, u77, u78, u79, u80, u81, u82, u83, u84, u85, u86, u87, u88, u89, u90, u91, u92, u93, u94, u95, u96, u97, u98, u99, u100, u101, u102, u103, u104, u105, u106, u107, u108, u109, u110, u111, u112, u113, u114, u115, u116, u117].getD (j - 7) undef, rfl⟩
namespace Js
/-- What holds at the labels: value, array, object, behind, wrong, end, member. -/
def W0 (l : List UInt8) (p : Nat) (st : List Bool) (D : Nat) : Prop := As l p ∧ st.length ≤ p ∧ T l c0 0 = T l (cV st D) p
def W1 (l : List UInt8) (p : Nat) (st : List Bool) (D : Nat) : Prop := bt l p = 91 ∧ st.length ≤ p ∧ T l c0 0 = T l (cV st D) p
def W2 (l : List UInt8) (p : Nat) (st : List Bool) (D : Nat) : Prop := bt l p = 123 ∧ st.length ≤ p ∧ T l c0 0 = T l (cV st D) p
def W3 (l : List UInt8) (p : Nat) (st : List Bool) (D : Nat) : Prop := As l p ∧ st.length ≤ p ∧ T l c0 0 = T l (cE st D) p
def W4 (l : List UInt8) (p : Nat) : Prop := T l c0 0 = (none, p)
def W5 (l : List UInt8) (p : Nat) (st : List Bool) (D : Nat) : Prop := bt l p ≠ 0 ∧ bt l p < 128 ∧ ∃ c t, st = c :: t ∧ t.length ≤ p ∧ T l c0 0 = T l (cE t D) (p + 1)
def W6 (l : List UInt8) (p : Nat) (st : List Bool) (D : Nat) : Prop := As l p ∧ st.length ≤ p ∧ T l c0 0 = T l (cK st D) p
def WAt (l : List UInt8) (lb p : Nat) (st : List Bool) (D : Nat) : Prop := (lb = 0 ∧ W0 l p st D) ∨ (lb = 1 ∧ W1 l p st D) ∨ (lb = 2 ∧ W2 l p st D) ∨ (lb = 3 ∧ W3 l p st D) ∨ (lb = 4 ∧ W4 l p) ∨ (lb = 5 ∧ W5 l p st D) ∨ (lb = 6 ∧ W6 l p st D)
def rk (lb : Nat) : Nat := if lb = 0 then 2 else if lb = 3 then 2 else if lb = 4 then 0 else 1
theorem rk0 : rk 0 = 2 := rfl
theorem rk1 : rk 1 = 1 := rfl
theorem rk2 : rk 2 = 1 := rfl
theorem rk3 : rk 3 = 2 := rfl
theorem rk4 : rk 4 = 0 := rfl
theorem rk5 : rk 5 = 1 := rfl
theorem rk6 : rk 6 = 1 := rfl
theorem mes {a b c d : Nat} (hs : Nat) (h1 : 3 * (hs - a) + c < 3 * (hs - b) + d) : 3 * (hs - (intOf (.int .i64 (a : Nat))).toNat) + c < 3 * (hs - (intOf (.int .i64 (b : Nat))).toNat) + d := by
  simp only [intOf, Int.toNat_natCast]
  exact h1
end Js
/-- What walk tells. -/
def WalkPost (l : List UInt8) (e : Ending) : Prop :=
  (∃ D n : Nat, e = .returned (.tuple #[.int .i64 (n : Nat), .int .i64 (D : Nat), .bool true]) ∧ n ≤ l.length ∧ Js.T l Js.c0 0 = (some D, n))
  ∨ ∃ D n : Nat, e = .returned (.tuple #[.int .i64 (n : Nat), .int .i64 (D : Nat), .bool false]) ∧ n ≤ l.length ∧ Js.T l Js.c0 0 = (none, n)
set_option maxHeartbeats 8000000 in
set_option maxRecDepth 100000 in
theorem sWalk_any (s : ByteArray) (w : World) (hs : s.size ≤ 1000000) (hal : Js.Al s.data.toList) :
    Calls Try.prog 15 #[.string s] w fun e w' => WalkPost s.data.toList e ∧ Below w.heap.size w w' := by
  have HAL := hidden hal
  clear hal
  go_enter Try.func15, Try.ntmps15
  go_wp2_with fail
  refine wp_scope_all (fun l a' w' => ∃ p A st D, a' = { tmps := A, defers := [] } ∧ (∃ u, A = frWk s w.heap.size p u) ∧ Stk w' w.heap.size w.heap.size st D ∧ Below w.heap.size w w' ∧ p ≤ s.size ∧ Js.WAt s.data.toList l p st D) (fun l a' _ => 3 * (s.size - (intOf (a'.tmps.getD 6 undef)).toNat) + Js.rk l) ?_ ?_
  · have HST := hidden (Stk.new w)
    have HB : Hid (Below w.heap.size w (w.alloc (.cells #[.slice none 0 0, .int .u64 0, .int .i64 0, .int .i64 0] 48))) := (Below.refl _ _).alloc (Nat.le_refl _) _
    have H : Hid (Js.W0 s.data.toList 0 [] 0) := ⟨.inl rfl, Nat.le_refl _, rfl⟩
    have hps : 0 ≤ s.size := Nat.zero_le _
    go_wp2_with fail
    refine wp_label ?_
    go_wp2_with fail
    refine (sSkip_any s _ 0 _ rfl hs hps).mono ?_
    rintro e w1 ⟨⟨q, rfl, hqle, hqs, hnb, hT, hA⟩, hw⟩
    have hw := hw.symm
    subst hw
    have HNBq := hidden hnb
    have HTq := hidden (hT (Js.cV [] 0) (Js.sp_V [] 0))
    have HAq := hidden hA
    clear hnb hT hA
    have HC : Hid (Js.As s.data.toList q ∧ [].length ≤ q ∧ Js.T s.data.toList Js.c0 0 = Js.T s.data.toList (Js.cV [] 0) q) := ⟨HAq.out H.out.1, Nat.le_trans H.out.2.1 hqle, H.out.2.2.trans HTq.out⟩
    clear HAq HTq
    go_wp2_with fail
    refine (sFirst_at s q _).mono ?_
    rintro e w1 ⟨rfl, hw⟩
    have hw := hw.symm
    subst hw
    obtain ⟨b, hb⟩ : ∃ b, b = Js.bt s.data.toList q := ⟨_, rfl⟩
    rw [← hb]
    have HBTq := hidden hb
    clear hb
    by_cases h91 : b = 91
    · subst h91
      go_wp2_with fail
      apply wp_goto
      exact ⟨q, _, [], 0, rfl, frWk_is rfl, HST.out, HB.out, hqs, .inr (.inl ⟨rfl, HBTq.out.symm, HC.out.2⟩)⟩
    by_cases h123 : b = 123
    · subst h123
      go_wp2_with fail
      apply wp_goto
      exact ⟨q, _, [], 0, rfl, frWk_is rfl, HST.out, HB.out, hqs, .inr (.inr (.inl ⟨rfl, HBTq.out.symm, HC.out.2⟩))⟩
    have e91 : ((b : Int) == 91) = false := by rw [beq_eq_false_iff_ne]; omega
    have e123 : ((b : Int) == 123) = false := by rw [beq_eq_false_iff_ne]; omega
    have HS := hidden (fun w => sSingle_at s q w hs hqs HAL.out HC.out.1 HNBq.out (by rw [← HBTq.out]; exact h91) (by rw [← HBTq.out]; exact h123))
    clear h91 h123
    go_wp2_with fail
    refine (HS.out _).mono ?_
    rintro e w2 ⟨hq, hbel2⟩
    have HST2 := hidden (HST.out.below hbel2)
    have HB2 := hidden (HB.out.trans (hbel2.mono HB.out.size))
    clear hbel2
    rcases hq with ⟨n, rfl, h1, h2, h3, h4⟩ | ⟨n, rfl, h1, h4⟩
    · obtain ⟨t, ht⟩ : ∃ t, t = q + n := ⟨_, rfl⟩
      have ht2 : (q : Int) + (n : Int) = (t : Int) := by omega
      have hts : t ≤ s.size := by omega
      have hqt : q < t := by omega
      have HX : Hid (Js.W3 s.data.toList t [] 0) := by
        subst ht
        exact ⟨Js.As.at _ _ (by omega) h3, by have := HC.out.2.1; omega, HC.out.2.2.trans (h4 _ _)⟩
      clear ht h1 h2 h3 h4
      go_wp2_with fail
      apply wp_goto
      exact ⟨t, _, [], 0, rfl, frWk_is rfl, HST2.out, HB2.out, hts, .inr (.inr (.inr (.inl ⟨rfl, HX.out⟩)))⟩
    · obtain ⟨t, ht⟩ : ∃ t, t = q + n := ⟨_, rfl⟩
      have ht2 : (q : Int) + (n : Int) = (t : Int) := by omega
      have hts : t ≤ s.size := by omega
      have hqt : q ≤ t := by omega
      have HX : Hid (Js.W4 s.data.toList t) := by
        subst ht
        exact HC.out.2.2.trans (h4 _ _)
      clear ht h1 h4
      go_wp2_with fail
      apply wp_goto
      exact ⟨t, _, [], 0, rfl, frWk_is rfl, HST2.out, HB2.out, hts, .inr (.inr (.inr (.inr (.inl ⟨rfl, HX.out⟩))))⟩
  · rintro l a' w' ⟨p, A, st, D, rfl, ⟨u, rfl⟩, hstk, hbel, hps, hcase⟩
    have HST := hidden hstk
    have HB := hidden hbel
    clear hstk hbel
    unfold frWk
    rcases hcase with ⟨rfl, h⟩ | ⟨rfl, h⟩ | ⟨rfl, h⟩ | ⟨rfl, h⟩ | ⟨rfl, h⟩ | ⟨rfl, h⟩ | ⟨rfl, h⟩
    · refine ⟨_, rfl, ?_⟩
      have H := hidden h
      clear h
      go_wp2_with fail
      refine (sSkip_any s _ p _ rfl hs hps).mono ?_
      rintro e w1 ⟨⟨q, rfl, hqle, hqs, hnb, hT, hA⟩, hw⟩
      have hw := hw.symm
      subst hw
      have HNBq := hidden hnb
      have HTq := hidden (hT (Js.cV st D) (Js.sp_V st D))
      have HAq := hidden hA
      clear hnb hT hA
      have HC : Hid (Js.As s.data.toList q ∧ st.length ≤ q ∧ Js.T s.data.toList Js.c0 0 = Js.T s.data.toList (Js.cV st D) q) := ⟨HAq.out H.out.1, Nat.le_trans H.out.2.1 hqle, H.out.2.2.trans HTq.out⟩
      clear HAq HTq
      go_wp2_with fail
      refine (sFirst_at s q _).mono ?_
      rintro e w1 ⟨rfl, hw⟩
      have hw := hw.symm
      subst hw
      obtain ⟨b, hb⟩ : ∃ b, b = Js.bt s.data.toList q := ⟨_, rfl⟩
      rw [← hb]
      have HBTq := hidden hb
      clear hb
      by_cases h91 : b = 91
      · subst h91
        go_wp2_with fail
        apply wp_goto
        refine And.intro ?_ ?_
        · exact ⟨q, _, st, D, rfl, frWk_is rfl, HST.out, HB.out, hqs, .inr (.inl ⟨rfl, HBTq.out.symm, HC.out.2⟩)⟩
        · show 3 * (s.size - (intOf (Value.int .i64 _)).toNat) + 1 < 3 * (s.size - (intOf (Value.int .i64 _)).toNat) + 2
          simp only [intOf, Int.toNat_natCast]
          all_goals omega
      by_cases h123 : b = 123
      · subst h123
        go_wp2_with fail
        apply wp_goto
        refine And.intro ?_ ?_
        · exact ⟨q, _, st, D, rfl, frWk_is rfl, HST.out, HB.out, hqs, .inr (.inr (.inl ⟨rfl, HBTq.out.symm, HC.out.2⟩))⟩
        · show 3 * (s.size - (intOf (Value.int .i64 _)).toNat) + 1 < 3 * (s.size - (intOf (Value.int .i64 _)).toNat) + 2
          simp only [intOf, Int.toNat_natCast]
          all_goals omega
      have e91 : ((b : Int) == 91) = false := by rw [beq_eq_false_iff_ne]; omega
      have e123 : ((b : Int) == 123) = false := by rw [beq_eq_false_iff_ne]; omega
      have HS := hidden (fun w => sSingle_at s q w hs hqs HAL.out HC.out.1 HNBq.out (by rw [← HBTq.out]; exact h91) (by rw [← HBTq.out]; exact h123))
      clear h91 h123
      go_wp2_with fail
      refine (HS.out _).mono ?_
      rintro e w2 ⟨hq, hbel2⟩
      have HST2 := hidden (HST.out.below hbel2)
      have HB2 := hidden (HB.out.trans (hbel2.mono HB.out.size))
      clear hbel2
      rcases hq with ⟨n, rfl, h1, h2, h3, h4⟩ | ⟨n, rfl, h1, h4⟩
      · obtain ⟨t, ht⟩ : ∃ t, t = q + n := ⟨_, rfl⟩
        have ht2 : (q : Int) + (n : Int) = (t : Int) := by omega
        have hts : t ≤ s.size := by omega
        have hqt : q < t := by omega
        have HX : Hid (Js.W3 s.data.toList t st D) := by
          subst ht
          exact ⟨Js.As.at _ _ (by omega) h3, by have := HC.out.2.1; omega, HC.out.2.2.trans (h4 _ _)⟩
        clear ht h1 h2 h3 h4
        go_wp2_with fail
        apply wp_goto
        refine And.intro ?_ ?_
        · exact ⟨t, _, st, D, rfl, frWk_is rfl, HST2.out, HB2.out, hts, .inr (.inr (.inr (.inl ⟨rfl, HX.out⟩)))⟩
        · show 3 * (s.size - (intOf (Value.int .i64 _)).toNat) + 2 < 3 * (s.size - (intOf (Value.int .i64 _)).toNat) + 2
          simp only [intOf, Int.toNat_natCast]
          all_goals omega
      · obtain ⟨t, ht⟩ : ∃ t, t = q + n := ⟨_, rfl⟩
        have ht2 : (q : Int) + (n : Int) = (t : Int) := by omega
        have hts : t ≤ s.size := by omega
        have hqt : q ≤ t := by omega
        have HX : Hid (Js.W4 s.data.toList t) := by
          subst ht
          exact HC.out.2.2.trans (h4 _ _)
        clear ht h1 h4
        go_wp2_with fail
        apply wp_goto
        refine And.intro ?_ ?_
        · exact ⟨t, _, st, D, rfl, frWk_is rfl, HST2.out, HB2.out, hts, .inr (.inr (.inr (.inr (.inl ⟨rfl, HX.out⟩))))⟩
        · show 3 * (s.size - (intOf (Value.int .i64 _)).toNat) + 0 < 3 * (s.size - (intOf (Value.int .i64 _)).toNat) + 2
          simp only [intOf, Int.toNat_natCast]
          all_goals omega
    · refine ⟨_, rfl, ?_⟩
      have H := hidden h
      clear h
      have hlt : p < s.size := bt_within s p (by rw [H.out.1]; decide)
      have hlen : st.length ≤ 1000000 := by have := H.out.2.1; omega
      go_wp2_with fail
      refine (sPush_any false 0 _ w.heap.size w.heap.size st D rfl HST.out hlen).mono ?_
      rintro e w2 ⟨rfl, hstk2, hbel2⟩
      have HST2 := hidden hstk2
      have HB2 := hidden (HB.out.trans hbel2)
      clear hstk2 hbel2
      obtain ⟨E, hE⟩ : ∃ E, E = max D (st.length + 1) := ⟨_, rfl⟩
      rw [← hE] at HST2
      obtain ⟨r, hr⟩ : ∃ r, r = p + 1 := ⟨_, rfl⟩
      have hr2 : (p : Int) + 1 = (r : Int) := by omega
      have hrs : r ≤ s.size := by omega
      have hpr : p < r := by omega
      have HR : Hid (Js.As s.data.toList r ∧ (false :: st).length ≤ r ∧ Js.T s.data.toList Js.c0 0 = Js.T s.data.toList (Js.cA (false :: st) E) r) := by
        subst hr
        subst hE
        refine ⟨Js.As.next _ p (by rw [H.out.1]; decide), by rw [List.length_cons]; have := H.out.2.1; omega, H.out.2.2.trans (Js.T_go _ _ _ p (by rw [H.out.1]; decide) (by rw [H.out.1]; rfl))⟩
      clear hE hr
      go_wp2_with fail
      refine (sSkip_any s _ r _ rfl hs hrs).mono ?_
      rintro e w1 ⟨⟨q, rfl, hqle, hqs, hnb, hT, hA⟩, hw⟩
      have hw := hw.symm
      subst hw
      have HNBq := hidden hnb
      have HTq := hidden (hT (Js.cA (false :: st) E) (Js.sp_A (false :: st) E))
      have HAq := hidden hA
      clear hnb hT hA
      have HC : Hid (Js.As s.data.toList q ∧ (false :: st).length ≤ q ∧ Js.T s.data.toList Js.c0 0 = Js.T s.data.toList (Js.cA (false :: st) E) q) := ⟨HAq.out HR.out.1, Nat.le_trans HR.out.2.1 hqle, HR.out.2.2.trans HTq.out⟩
      clear HAq HTq
      have HBACK := HNBq
      go_wp2_with fail
      refine (sFirst_at s q _).mono ?_
      rintro e w1 ⟨rfl, hw⟩
      have hw := hw.symm
      subst hw
      obtain ⟨b, hb⟩ : ∃ b, b = Js.bt s.data.toList q := ⟨_, rfl⟩
      rw [← hb]
      have HBTq := hidden hb
      clear hb
      by_cases hend : b = 93
      · subst hend
        have HX : Hid (Js.W5 s.data.toList q (false :: st) E) := ⟨by rw [← HBTq.out]; decide, by rw [← HBTq.out]; decide, false, st, rfl, by have := HC.out.2.1; rw [List.length_cons] at this; omega, HC.out.2.2.trans (Js.T_go _ _ _ q (by rw [← HBTq.out]; decide) (by rw [← HBTq.out]; rfl))⟩
        go_wp2_with fail
        apply wp_goto
        refine And.intro ?_ ?_
        · exact ⟨q, _, (false :: st), E, rfl, frWk_is rfl, HST2.out, HB2.out, hqs, .inr (.inr (.inr (.inr (.inr (.inl ⟨rfl, HX.out⟩)))))⟩
        · show 3 * (s.size - (intOf (Value.int .i64 _)).toNat) + 1 < 3 * (s.size - (intOf (Value.int .i64 _)).toNat) + 1
          simp only [intOf, Int.toNat_natCast]
          all_goals omega
      · have eend : ((b : Int) == 93) = false := by rw [beq_eq_false_iff_ne]; omega
        have HX : Hid (Js.W0 s.data.toList q (false :: st) E) := ⟨HC.out.1, HC.out.2.1, HC.out.2.2.trans (Js.T_first _ _ _ q fun hi => by rw [← Js.bt_at _ q hi]; exact ⟨HNBq.out, by rw [← HBTq.out]; exact hend⟩)⟩
        clear hend
        go_wp2_with fail
        apply wp_goto
        refine And.intro ?_ ?_
        · exact ⟨q, _, (false :: st), E, rfl, frWk_is rfl, HST2.out, HB2.out, hqs, .inl ⟨rfl, HX.out⟩⟩
        · show 3 * (s.size - (intOf (Value.int .i64 _)).toNat) + 2 < 3 * (s.size - (intOf (Value.int .i64 _)).toNat) + 1
          simp only [intOf, Int.toNat_natCast]
          all_goals omega
    · refine ⟨_, rfl, ?_⟩
      have H := hidden h
      clear h
      have hlt : p < s.size := bt_within s p (by rw [H.out.1]; decide)
      have hlen : st.length ≤ 1000000 := by have := H.out.2.1; omega
      go_wp2_with fail
      refine (sPush_any true 1 _ w.heap.size w.heap.size st D rfl HST.out hlen).mono ?_
      rintro e w2 ⟨rfl, hstk2, hbel2⟩
      have HST2 := hidden hstk2
      have HB2 := hidden (HB.out.trans hbel2)
      clear hstk2 hbel2
      obtain ⟨E, hE⟩ : ∃ E, E = max D (st.length + 1) := ⟨_, rfl⟩
      rw [← hE] at HST2
      obtain ⟨r, hr⟩ : ∃ r, r = p + 1 := ⟨_, rfl⟩
      have hr2 : (p : Int) + 1 = (r : Int) := by omega
      have hrs : r ≤ s.size := by omega
      have hpr : p < r := by omega
      have HR : Hid (Js.As s.data.toList r ∧ (true :: st).length ≤ r ∧ Js.T s.data.toList Js.c0 0 = Js.T s.data.toList (Js.cO (true :: st) E) r) := by
        subst hr
        subst hE
        refine ⟨Js.As.next _ p (by rw [H.out.1]; decide), by rw [List.length_cons]; have := H.out.2.1; omega, H.out.2.2.trans (Js.T_go _ _ _ p (by rw [H.out.1]; decide) (by rw [H.out.1]; rfl))⟩
      clear hE hr
      go_wp2_with fail
      refine (sSkip_any s _ r _ rfl hs hrs).mono ?_
      rintro e w1 ⟨⟨q, rfl, hqle, hqs, hnb, hT, hA⟩, hw⟩
      have hw := hw.symm
      subst hw
      have HNBq := hidden hnb
      have HTq := hidden (hT (Js.cO (true :: st) E) (Js.sp_O (true :: st) E))
      have HAq := hidden hA
      clear hnb hT hA
      have HC : Hid (Js.As s.data.toList q ∧ (true :: st).length ≤ q ∧ Js.T s.data.toList Js.c0 0 = Js.T s.data.toList (Js.cO (true :: st) E) q) := ⟨HAq.out HR.out.1, Nat.le_trans HR.out.2.1 hqle, HR.out.2.2.trans HTq.out⟩
      clear HAq HTq
      have HBACK := HNBq
      go_wp2_with fail
      refine (sFirst_at s q _).mono ?_
      rintro e w1 ⟨rfl, hw⟩
      have hw := hw.symm
      subst hw
      obtain ⟨b, hb⟩ : ∃ b, b = Js.bt s.data.toList q := ⟨_, rfl⟩
      rw [← hb]
      have HBTq := hidden hb
      clear hb
      by_cases hend : b = 125
      · subst hend
        have HX : Hid (Js.W5 s.data.toList q (true :: st) E) := ⟨by rw [← HBTq.out]; decide, by rw [← HBTq.out]; decide, true, st, rfl, by have := HC.out.2.1; rw [List.length_cons] at this; omega, HC.out.2.2.trans (Js.T_go _ _ _ q (by rw [← HBTq.out]; decide) (by rw [← HBTq.out]; rfl))⟩
        go_wp2_with fail
        apply wp_goto
        refine And.intro ?_ ?_
        · exact ⟨q, _, (true :: st), E, rfl, frWk_is rfl, HST2.out, HB2.out, hqs, .inr (.inr (.inr (.inr (.inr (.inl ⟨rfl, HX.out⟩)))))⟩
        · show 3 * (s.size - (intOf (Value.int .i64 _)).toNat) + 1 < 3 * (s.size - (intOf (Value.int .i64 _)).toNat) + 1
          simp only [intOf, Int.toNat_natCast]
          all_goals omega
      · have eend : ((b : Int) == 125) = false := by rw [beq_eq_false_iff_ne]; omega
        have HX : Hid (Js.W6 s.data.toList q (true :: st) E) := ⟨HC.out.1, HC.out.2.1, HC.out.2.2.trans (Js.T_member _ _ _ q fun hi => by rw [← Js.bt_at _ q hi]; exact ⟨HNBq.out, by rw [← HBTq.out]; exact hend⟩)⟩
        clear hend HC HBACK HNBq HBTq HR H HST HB
        have H := HX
        have HST := HST2
        have HB := HB2
        clear HX HST2 HB2
        have hps2 := hqs
        obtain ⟨k, hk⟩ : ∃ k, k = q := ⟨_, rfl⟩
        rw [← hk] at H hqs hqle
        go_wp2_with fail
        refine wp_label ?_
        rw [← hk]
        have hpk : p < k := by omega
        clear hk hps2
        go_wp2_with fail
        refine (sSkip_any s _ k _ rfl hs hqs).mono ?_
        rintro e w1 ⟨⟨r, rfl, hrle, hrs, hnb, hT, hA⟩, hw⟩
        have hw := hw.symm
        subst hw
        have HNBr := hidden hnb
        have HTr := hidden (hT (Js.cK (true :: st) E) (Js.sp_K (true :: st) E))
        have HAr := hidden hA
        clear hnb hT hA
        have HC : Hid (Js.As s.data.toList r ∧ (true :: st).length ≤ r ∧ Js.T s.data.toList Js.c0 0 = Js.T s.data.toList (Js.cK (true :: st) E) r) := ⟨HAr.out H.out.1, Nat.le_trans H.out.2.1 hrle, H.out.2.2.trans HTr.out⟩
        clear HAr HTr
        go_wp2_with fail
        refine (sQuoted_at s r _ hs hrs HAL.out HC.out.1 HNBr.out).mono ?_
        rintro e w1 ⟨hq, hw⟩
        have hw := hw.symm
        subst hw
        rcases hq with ⟨n, rfl, h1, h2, h3, h4⟩ | ⟨n, rfl, h1, h4⟩
        · obtain ⟨t, ht⟩ : ∃ t, t = r + n := ⟨_, rfl⟩
          have ht2 : (r : Int) + (n : Int) = (t : Int) := by omega
          have hts : t ≤ s.size := by omega
          have hrt : r < t := by omega
          have HX : Hid (Js.As s.data.toList t ∧ (true :: st).length ≤ t ∧ Js.T s.data.toList Js.c0 0 = Js.T s.data.toList (Js.cC (true :: st) E) t) := by
            subst ht
            exact ⟨Js.As.at _ _ (by omega) h3, by have := HC.out.2.1; omega, HC.out.2.2.trans (h4 _ _)⟩
          clear ht h1 h2 h3 h4 HC
          go_wp2_with fail
          refine (sSkip_any s _ t _ rfl hs hts).mono ?_
          rintro e w1 ⟨⟨x, rfl, hxle, hxs, hnb, hT, hA⟩, hw⟩
          have hw := hw.symm
          subst hw
          have HNBx := hidden hnb
          have HTx := hidden (hT (Js.cC (true :: st) E) (Js.sp_C (true :: st) E))
          have HAx := hidden hA
          clear hnb hT hA
          have HC : Hid ((true :: st).length ≤ x ∧ Js.T s.data.toList Js.c0 0 = Js.T s.data.toList (Js.cC (true :: st) E) x) := ⟨Nat.le_trans HX.out.2.1 hxle, HX.out.2.2.trans HTx.out⟩
          clear HAx HTx HX
          go_wp2_with fail
          refine (sFirst_at s x _).mono ?_
          rintro e w1 ⟨rfl, hw⟩
          have hw := hw.symm
          subst hw
          obtain ⟨b, hb⟩ : ∃ b, b = Js.bt s.data.toList x := ⟨_, rfl⟩
          rw [← hb]
          have HBTx := hidden hb
          clear hb
          by_cases h58 : b = 58
          · subst h58
            have hlt := bt_within s x (by have := HBTx.out; omega)
            obtain ⟨y, hy⟩ : ∃ y, y = x + 1 := ⟨_, rfl⟩
            have hy2 : (x : Int) + 1 = (y : Int) := by omega
            have hys : y ≤ s.size := by omega
            have hxy : x < y := by omega
            have HY : Hid (Js.W0 s.data.toList y (true :: st) E) := by
              subst hy
              exact ⟨Js.As.next _ x (by rw [← HBTx.out]; decide), by have := HC.out.1; omega, HC.out.2.trans (Js.T_go _ _ _ x (by rw [← HBTx.out]; decide) (by rw [← HBTx.out]; rfl))⟩
            clear hy
            go_wp2_with fail
            apply wp_goto
            refine And.intro ?_ ?_
            · exact ⟨y, _, (true :: st), E, rfl, frWk_is rfl, HST.out, HB.out, hys, .inl ⟨rfl, HY.out⟩⟩
            · show 3 * (s.size - (intOf (Value.int .i64 _)).toNat) + 2 < 3 * (s.size - (intOf (Value.int .i64 _)).toNat) + 1
              simp only [intOf, Int.toNat_natCast]
              all_goals omega
          · have e58 : ((b : Int) != 58) = true := by rw [bne_iff_ne]; omega
            have HY : Hid (Js.W4 s.data.toList x) := HC.out.2.trans (Js.T_no _ _ x hxs rfl fun _ => by rw [Js.step_C _ _ _ HNBx.out, if_neg (by rw [← HBTx.out]; exact h58)])
            clear h58
            go_wp2_with fail
            apply wp_goto
            refine And.intro ?_ ?_
            · exact ⟨x, _, (true :: st), E, rfl, frWk_is rfl, HST.out, HB.out, hxs, .inr (.inr (.inr (.inr (.inl ⟨rfl, HY.out⟩))))⟩
            · show 3 * (s.size - (intOf (Value.int .i64 _)).toNat) + 0 < 3 * (s.size - (intOf (Value.int .i64 _)).toNat) + 1
              simp only [intOf, Int.toNat_natCast]
              all_goals omega
        · obtain ⟨t, ht⟩ : ∃ t, t = r + n := ⟨_, rfl⟩
          have ht2 : (r : Int) + (n : Int) = (t : Int) := by omega
          have hts : t ≤ s.size := by omega
          have hrt : r ≤ t := by omega
          have HX : Hid (Js.W4 s.data.toList t) := by
            subst ht
            exact HC.out.2.2.trans (h4 _ _)
          clear ht h1 h4 HC
          go_wp2_with fail
          apply wp_goto
          refine And.intro ?_ ?_
          · exact ⟨t, _, (true :: st), E, rfl, frWk_is rfl, HST.out, HB.out, hts, .inr (.inr (.inr (.inr (.inl ⟨rfl, HX.out⟩))))⟩
          · show 3 * (s.size - (intOf (Value.int .i64 _)).toNat) + 0 < 3 * (s.size - (intOf (Value.int .i64 _)).toNat) + 1
            simp only [intOf, Int.toNat_natCast]
            all_goals omega
    · refine ⟨_, rfl, ?_⟩
      have H := hidden h
      clear h
      go_wp2_with fail
      refine (sSkip_any s _ p _ rfl hs hps).mono ?_
      rintro e w1 ⟨⟨r, rfl, hrle, hrs, hnb, hT, hA⟩, hw⟩
      have hw := hw.symm
      subst hw
      have HNBr := hidden hnb
      have HTr := hidden (hT (Js.cE st D) (Js.sp_E st D))
      have HAr := hidden hA
      clear hnb hT hA
      have HC : Hid (st.length ≤ r ∧ Js.T s.data.toList Js.c0 0 = Js.T s.data.toList (Js.cE st D) r) := ⟨Nat.le_trans H.out.2.1 hrle, H.out.2.2.trans HTr.out⟩
      clear HAr HTr H
      obtain ⟨c2, c3⟩ := HST.out.size
      cases st with
      | nil =>
        have hz : ((([] : List Bool).length : Nat) : Int) = 0 := rfl
        rw [hz] at c2
        clear hz
        by_cases hlt : r < s.size
        · have e1 : ((r : Int) == (s.size : Int)) = false := by rw [beq_eq_false_iff_ne]; omega
          have e1n : (r == s.size) = false := by rw [beq_eq_false_iff_ne]; omega
          have HW : Hid (Js.T s.data.toList Js.c0 0 = (none, r)) := HC.out.2.trans (Js.text_no _ D r hlt (by rw [← Js.bt_at s.data.toList r hlt]; exact HNBr.out))
          go_wp2_with fail
          go_quiet (fail)
          go_wp2_with fail
          refine jump_ret ?_
          refine bodyPost_ret (results_tmp3 rfl _ _ _) rfl ?_
          exact ⟨.inr ⟨D, r, rfl, hrs, HW.out⟩, sc_drewN HB.out _⟩
        · have hj : r = s.size := by omega
          have e1 : ((r : Int) == (s.size : Int)) = true := by rw [hj]; exact beq_self_eq_true _
          have e1n : (r == s.size) = true := by rw [hj]; exact beq_self_eq_true _
          have HW : Hid (Js.T s.data.toList Js.c0 0 = (some D, r)) := HC.out.2.trans (Js.text_end _ D r hj.symm)
          clear hj
          go_wp2_with fail
          go_quiet (fail)
          go_wp2_with fail
          refine jump_ret ?_
          refine bodyPost_ret (results_tmp3 rfl _ _ _) rfl ?_
          exact ⟨.inl ⟨D, r, rfl, hrs, HW.out⟩, sc_drewN HB.out _⟩
      | cons c t =>
        obtain ⟨m, hm⟩ : ∃ m, m = (c :: t).length := ⟨_, rfl⟩
        have hm0 : 0 < m := by rw [hm]; exact Nat.succ_pos _
        rw [← hm] at c2
        have e0 : ((m : Int) == 0) = false := by rw [beq_eq_false_iff_ne]; omega
        have e0n : (m == 0) = false := by rw [beq_eq_false_iff_ne]; omega
        clear hm
        go_wp2_with fail
        refine (sFirst_at s r _).mono ?_
        rintro e w1 ⟨rfl, hw⟩
        have hw := hw.symm
        subst hw
        obtain ⟨b, hb⟩ : ∃ b, b = Js.bt s.data.toList r := ⟨_, rfl⟩
        rw [← hb]
        have HBTr := hidden hb
        clear hb
        by_cases h44 : b = 44
        · subst h44
          have hlt := bt_within s r (by have := HBTr.out; omega)
          obtain ⟨y, hy⟩ : ∃ y, y = r + 1 := ⟨_, rfl⟩
          have hy2 : (r : Int) + 1 = (y : Int) := by omega
          have hys : y ≤ s.size := by omega
          have hry : r < y := by omega
          have HAS : Hid (Js.As s.data.toList y) := by
            subst hy
            exact Js.As.next _ r (by rw [← HBTr.out]; decide)
          have HL : Hid ((c :: t).length ≤ y) := by have := HC.out.1; show _ ≤ _; omega
          have HYE := hidden hy
          clear hy
          go_wp2_with fail
          refine (sTop_any c _ w.heap.size w.heap.size t D HST.out).mono ?_
          rintro e w1 ⟨rfl, hw⟩
          have hw := hw.symm
          subst hw
          cases c with
          | true =>
            have HY : Hid (Js.W6 s.data.toList y (true :: t) D) := by
              refine ⟨HAS.out, HL.out, HC.out.2.trans ?_⟩
              rw [HYE.out]
              exact Js.T_go _ _ _ r (by rw [← HBTr.out]; decide) (by rw [← HBTr.out]; rfl)
            have ht1 : ((true.toNat : Nat) : Int) = 1 := rfl
            rw [ht1]
            clear ht1
            go_wp2_with fail
            apply wp_goto
            refine And.intro ?_ ?_
            · exact ⟨y, _, (true :: t), D, rfl, frWk_is rfl, HST.out, HB.out, hys, .inr (.inr (.inr (.inr (.inr (.inr ⟨rfl, HY.out⟩)))))⟩
            · show 3 * (s.size - (intOf (Value.int .i64 _)).toNat) + 1 < 3 * (s.size - (intOf (Value.int .i64 _)).toNat) + 2
              simp only [intOf, Int.toNat_natCast]
              all_goals omega
          | false =>
            have HY : Hid (Js.W0 s.data.toList y (false :: t) D) := by
              refine ⟨HAS.out, HL.out, HC.out.2.trans ?_⟩
              rw [HYE.out]
              exact Js.T_go _ _ _ r (by rw [← HBTr.out]; decide) (by rw [← HBTr.out]; rfl)
            have ht1 : ((false.toNat : Nat) : Int) = 0 := rfl
            rw [ht1]
            clear ht1
            go_wp2_with fail
            apply wp_goto
            refine And.intro ?_ ?_
            · exact ⟨y, _, (false :: t), D, rfl, frWk_is rfl, HST.out, HB.out, hys, .inl ⟨rfl, HY.out⟩⟩
            · show 3 * (s.size - (intOf (Value.int .i64 _)).toNat) + 2 < 3 * (s.size - (intOf (Value.int .i64 _)).toNat) + 2
              simp only [intOf, Int.toNat_natCast]
              all_goals omega
        · have e44 : ((b : Int) == 44) = false := by rw [beq_eq_false_iff_ne]; omega
          have H44 := hidden h44
          clear h44
          go_wp2_with fail
          refine (sCloser_any c _ w.heap.size w.heap.size t D HST.out).mono ?_
          rintro e w1 ⟨rfl, hw⟩
          have hw := hw.symm
          subst hw
          obtain ⟨z, hz⟩ : ∃ z : Nat, z = if c then 125 else 93 := ⟨_, rfl⟩
          have hzi : (if c then (125 : Int) else 93) = (z : Int) := by rw [hz]; cases c <;> rfl
          rw [hzi]
          clear hzi
          by_cases hend : b = z
          · have eend : ((b : Int) == (z : Int)) = true := by rw [hend]; exact beq_self_eq_true _
            have eendn : (b == z) = true := by rw [hend]; exact beq_self_eq_true _
            have HY : Hid (Js.W5 s.data.toList r (c :: t) D) := by
              have h1 := HBTr.out
              rw [hend, hz] at h1
              have h3 := HC.out.1
              have h4 := HC.out.2
              rw [List.length_cons] at h3
              cases c with
              | true => exact ⟨by rw [← h1]; decide, by rw [← h1]; decide, true, t, rfl, by omega, h4.trans (Js.T_go _ _ _ r (by rw [← h1]; decide) (by rw [← h1]; rfl))⟩
              | false => exact ⟨by rw [← h1]; decide, by rw [← h1]; decide, false, t, rfl, by omega, h4.trans (Js.T_go _ _ _ r (by rw [← h1]; decide) (by rw [← h1]; rfl))⟩
            clear hend hz
            go_wp2_with fail
            apply wp_goto
            refine And.intro ?_ ?_
            · exact ⟨r, _, (c :: t), D, rfl, frWk_is rfl, HST.out, HB.out, hrs, .inr (.inr (.inr (.inr (.inr (.inl ⟨rfl, HY.out⟩)))))⟩
            · show 3 * (s.size - (intOf (Value.int .i64 _)).toNat) + 1 < 3 * (s.size - (intOf (Value.int .i64 _)).toNat) + 2
              simp only [intOf, Int.toNat_natCast]
              all_goals omega
          · have eend : ((b : Int) == (z : Int)) = false := by rw [beq_eq_false_iff_ne]; omega
            have eendn : (b == z) = false := by rw [beq_eq_false_iff_ne]; exact hend
            have HW : Hid (Js.W4 s.data.toList r) := by
              refine HC.out.2.trans (Js.T_no _ _ r hrs rfl fun _ => Js.step_E_none _ _ _ HNBr.out (by rw [← HBTr.out]; exact H44.out) (fun q hq h => ?_) (fun q hq h => ?_))
              · rw [← HBTr.out] at h
                cases hq
                exact hend (h.trans hz.symm)
              · rw [← HBTr.out] at h
                cases hq
                exact hend (h.trans hz.symm)
            clear hend hz
            go_wp2_with fail
            refine wp_label ?_
            go_wp2_with fail
            go_quiet (fail)
            go_wp2_with fail
            refine jump_ret ?_
            refine bodyPost_ret (results_tmp3 rfl _ _ _) rfl ?_
            exact ⟨.inr ⟨_, r, rfl, hrs, HW.out⟩, sc_drewN HB.out _⟩
    · refine ⟨_, rfl, ?_⟩
      have H := hidden h
      clear h
      obtain ⟨c2, c3⟩ := HST.out.size
      have HW := H
      go_wp2_with fail
      go_quiet (fail)
      go_wp2_with fail
      refine jump_ret ?_
      refine bodyPost_ret (results_tmp3 rfl _ _ _) rfl ?_
      exact ⟨.inr ⟨_, p, rfl, hps, HW.out⟩, sc_drewN HB.out _⟩
    · refine ⟨_, rfl, ?_⟩
      have H := hidden h
      clear h
      obtain ⟨hb0, hb128, c, t, rfl, hlen, hT⟩ := H.out
      have hlt : p < s.size := bt_within s p hb0
      obtain ⟨q, hq⟩ : ∃ q, q = p + 1 := ⟨_, rfl⟩
      have hq2 : (p : Int) + 1 = (q : Int) := by omega
      have hqs : q ≤ s.size := by omega
      have hpq : p < q := by omega
      have HX : Hid (Js.W3 s.data.toList q t D) := by
        subst hq
        exact ⟨Js.As.next _ p hb128, by omega, hT⟩
      clear hb0 hb128 hT hq H
      go_wp2_with fail
      refine (sPop_any c _ w.heap.size w.heap.size t D HST.out (by omega)).mono ?_
      rintro e w2 ⟨rfl, hstk2, hbel2⟩
      have HST2 := hidden hstk2
      have HB2 := hidden (HB.out.trans hbel2)
      clear hstk2 hbel2 HST HB hlen
      have HST := HST2
      have HB := HB2
      clear HST2 HB2
      have H := HX
      clear HX
      obtain ⟨st, hst⟩ : ∃ st, st = t := ⟨_, rfl⟩
      rw [← hst] at H HST
      clear hst t
      go_wp2_with fail
      refine wp_label ?_
      go_wp2_with fail
      refine (sSkip_any s _ q _ rfl hs hqs).mono ?_
      rintro e w1 ⟨⟨r, rfl, hrle, hrs, hnb, hT, hA⟩, hw⟩
      have hw := hw.symm
      subst hw
      have HNBr := hidden hnb
      have HTr := hidden (hT (Js.cE st D) (Js.sp_E st D))
      have HAr := hidden hA
      clear hnb hT hA
      have HC : Hid (st.length ≤ r ∧ Js.T s.data.toList Js.c0 0 = Js.T s.data.toList (Js.cE st D) r) := ⟨Nat.le_trans H.out.2.1 hrle, H.out.2.2.trans HTr.out⟩
      clear HAr HTr H
      obtain ⟨c2, c3⟩ := HST.out.size
      cases st with
      | nil =>
        have hz : ((([] : List Bool).length : Nat) : Int) = 0 := rfl
        rw [hz] at c2
        clear hz
        by_cases hlt : r < s.size
        · have e1 : ((r : Int) == (s.size : Int)) = false := by rw [beq_eq_false_iff_ne]; omega
          have e1n : (r == s.size) = false := by rw [beq_eq_false_iff_ne]; omega
          have HW : Hid (Js.T s.data.toList Js.c0 0 = (none, r)) := HC.out.2.trans (Js.text_no _ D r hlt (by rw [← Js.bt_at s.data.toList r hlt]; exact HNBr.out))
          go_wp2_with fail
          go_quiet (fail)
          go_wp2_with fail
          refine jump_ret ?_
          refine bodyPost_ret (results_tmp3 rfl _ _ _) rfl ?_
          exact ⟨.inr ⟨D, r, rfl, hrs, HW.out⟩, sc_drewN HB.out _⟩
        · have hj : r = s.size := by omega
          have e1 : ((r : Int) == (s.size : Int)) = true := by rw [hj]; exact beq_self_eq_true _
          have e1n : (r == s.size) = true := by rw [hj]; exact beq_self_eq_true _
          have HW : Hid (Js.T s.data.toList Js.c0 0 = (some D, r)) := HC.out.2.trans (Js.text_end _ D r hj.symm)
          clear hj
          go_wp2_with fail
          go_quiet (fail)
          go_wp2_with fail
          refine jump_ret ?_
          refine bodyPost_ret (results_tmp3 rfl _ _ _) rfl ?_
          exact ⟨.inl ⟨D, r, rfl, hrs, HW.out⟩, sc_drewN HB.out _⟩
      | cons c t =>
        obtain ⟨m, hm⟩ : ∃ m, m = (c :: t).length := ⟨_, rfl⟩
        have hm0 : 0 < m := by rw [hm]; exact Nat.succ_pos _
        rw [← hm] at c2
        have e0 : ((m : Int) == 0) = false := by rw [beq_eq_false_iff_ne]; omega
        have e0n : (m == 0) = false := by rw [beq_eq_false_iff_ne]; omega
        clear hm
        go_wp2_with fail
        refine (sFirst_at s r _).mono ?_
        rintro e w1 ⟨rfl, hw⟩
        have hw := hw.symm
        subst hw
        obtain ⟨b, hb⟩ : ∃ b, b = Js.bt s.data.toList r := ⟨_, rfl⟩
        rw [← hb]
        have HBTr := hidden hb
        clear hb
        by_cases h44 : b = 44
        · subst h44
          have hlt := bt_within s r (by have := HBTr.out; omega)
          obtain ⟨y, hy⟩ : ∃ y, y = r + 1 := ⟨_, rfl⟩
          have hy2 : (r : Int) + 1 = (y : Int) := by omega
          have hys : y ≤ s.size := by omega
          have hry : r < y := by omega
          have HAS : Hid (Js.As s.data.toList y) := by
            subst hy
            exact Js.As.next _ r (by rw [← HBTr.out]; decide)
          have HL : Hid ((c :: t).length ≤ y) := by have := HC.out.1; show _ ≤ _; omega
          have HYE := hidden hy
          clear hy
          go_wp2_with fail
          refine (sTop_any c _ w.heap.size w.heap.size t D HST.out).mono ?_
          rintro e w1 ⟨rfl, hw⟩
          have hw := hw.symm
          subst hw
          cases c with
          | true =>
            have HY : Hid (Js.W6 s.data.toList y (true :: t) D) := by
              refine ⟨HAS.out, HL.out, HC.out.2.trans ?_⟩
              rw [HYE.out]
              exact Js.T_go _ _ _ r (by rw [← HBTr.out]; decide) (by rw [← HBTr.out]; rfl)
            have ht1 : ((true.toNat : Nat) : Int) = 1 := rfl
            rw [ht1]
            clear ht1
            go_wp2_with fail
            apply wp_goto
            refine And.intro ?_ ?_
            · exact ⟨y, _, (true :: t), D, rfl, frWk_is rfl, HST.out, HB.out, hys, .inr (.inr (.inr (.inr (.inr (.inr ⟨rfl, HY.out⟩)))))⟩
            · show 3 * (s.size - (intOf (Value.int .i64 _)).toNat) + 1 < 3 * (s.size - (intOf (Value.int .i64 _)).toNat) + 1
              simp only [intOf, Int.toNat_natCast]
              all_goals omega
          | false =>
            have HY : Hid (Js.W0 s.data.toList y (false :: t) D) := by
              refine ⟨HAS.out, HL.out, HC.out.2.trans ?_⟩
              rw [HYE.out]
              exact Js.T_go _ _ _ r (by rw [← HBTr.out]; decide) (by rw [← HBTr.out]; rfl)
            have ht1 : ((false.toNat : Nat) : Int) = 0 := rfl
            rw [ht1]
            clear ht1
            go_wp2_with fail
            apply wp_goto
            refine And.intro ?_ ?_
            · exact ⟨y, _, (false :: t), D, rfl, frWk_is rfl, HST.out, HB.out, hys, .inl ⟨rfl, HY.out⟩⟩
            · show 3 * (s.size - (intOf (Value.int .i64 _)).toNat) + 2 < 3 * (s.size - (intOf (Value.int .i64 _)).toNat) + 1
              simp only [intOf, Int.toNat_natCast]
              all_goals omega
        · have e44 : ((b : Int) == 44) = false := by rw [beq_eq_false_iff_ne]; omega
          have H44 := hidden h44
          clear h44
          go_wp2_with fail
          refine (sCloser_any c _ w.heap.size w.heap.size t D HST.out).mono ?_
          rintro e w1 ⟨rfl, hw⟩
          have hw := hw.symm
          subst hw
          obtain ⟨z, hz⟩ : ∃ z : Nat, z = if c then 125 else 93 := ⟨_, rfl⟩
          have hzi : (if c then (125 : Int) else 93) = (z : Int) := by rw [hz]; cases c <;> rfl
          rw [hzi]
          clear hzi
          by_cases hend : b = z
          · have eend : ((b : Int) == (z : Int)) = true := by rw [hend]; exact beq_self_eq_true _
            have eendn : (b == z) = true := by rw [hend]; exact beq_self_eq_true _
            have HY : Hid (Js.W5 s.data.toList r (c :: t) D) := by
              have h1 := HBTr.out
              rw [hend, hz] at h1
              have h3 := HC.out.1
              have h4 := HC.out.2
              rw [List.length_cons] at h3
              cases c with
              | true => exact ⟨by rw [← h1]; decide, by rw [← h1]; decide, true, t, rfl, by omega, h4.trans (Js.T_go _ _ _ r (by rw [← h1]; decide) (by rw [← h1]; rfl))⟩
              | false => exact ⟨by rw [← h1]; decide, by rw [← h1]; decide, false, t, rfl, by omega, h4.trans (Js.T_go _ _ _ r (by rw [← h1]; decide) (by rw [← h1]; rfl))⟩
            clear hend hz
            go_wp2_with fail
            apply wp_goto
            refine And.intro ?_ ?_
            · exact ⟨r, _, (c :: t), D, rfl, frWk_is rfl, HST.out, HB.out, hrs, .inr (.inr (.inr (.inr (.inr (.inl ⟨rfl, HY.out⟩)))))⟩
            · show 3 * (s.size - (intOf (Value.int .i64 _)).toNat) + 1 < 3 * (s.size - (intOf (Value.int .i64 _)).toNat) + 1
              simp only [intOf, Int.toNat_natCast]
              all_goals omega
          · have eend : ((b : Int) == (z : Int)) = false := by rw [beq_eq_false_iff_ne]; omega
            have eendn : (b == z) = false := by rw [beq_eq_false_iff_ne]; exact hend
            have HW : Hid (Js.W4 s.data.toList r) := by
              refine HC.out.2.trans (Js.T_no _ _ r hrs rfl fun _ => Js.step_E_none _ _ _ HNBr.out (by rw [← HBTr.out]; exact H44.out) (fun q hq h => ?_) (fun q hq h => ?_))
              · rw [← HBTr.out] at h
                cases hq
                exact hend (h.trans hz.symm)
              · rw [← HBTr.out] at h
                cases hq
                exact hend (h.trans hz.symm)
            clear hend hz
            go_wp2_with fail
            refine wp_label ?_
            go_wp2_with fail
            go_quiet (fail)
            go_wp2_with fail
            refine jump_ret ?_
            refine bodyPost_ret (results_tmp3 rfl _ _ _) rfl ?_
            exact ⟨.inr ⟨_, r, rfl, hrs, HW.out⟩, sc_drewN HB.out _⟩
    · refine ⟨_, rfl, ?_⟩
      have H := hidden h
      clear h
      go_wp2_with fail
      refine (sSkip_any s _ p _ rfl hs hps).mono ?_
      rintro e w1 ⟨⟨r, rfl, hrle, hrs, hnb, hT, hA⟩, hw⟩
      have hw := hw.symm
      subst hw
      have HNBr := hidden hnb
      have HTr := hidden (hT (Js.cK st D) (Js.sp_K st D))
      have HAr := hidden hA
      clear hnb hT hA
      have HC : Hid (Js.As s.data.toList r ∧ st.length ≤ r ∧ Js.T s.data.toList Js.c0 0 = Js.T s.data.toList (Js.cK st D) r) := ⟨HAr.out H.out.1, Nat.le_trans H.out.2.1 hrle, H.out.2.2.trans HTr.out⟩
      clear HAr HTr
      go_wp2_with fail
      refine (sQuoted_at s r _ hs hrs HAL.out HC.out.1 HNBr.out).mono ?_
      rintro e w1 ⟨hq, hw⟩
      have hw := hw.symm
      subst hw
      rcases hq with ⟨n, rfl, h1, h2, h3, h4⟩ | ⟨n, rfl, h1, h4⟩
      · obtain ⟨t, ht⟩ : ∃ t, t = r + n := ⟨_, rfl⟩
        have ht2 : (r : Int) + (n : Int) = (t : Int) := by omega
        have hts : t ≤ s.size := by omega
        have hrt : r < t := by omega
        have HX : Hid (Js.As s.data.toList t ∧ st.length ≤ t ∧ Js.T s.data.toList Js.c0 0 = Js.T s.data.toList (Js.cC st D) t) := by
          subst ht
          exact ⟨Js.As.at _ _ (by omega) h3, by have := HC.out.2.1; omega, HC.out.2.2.trans (h4 _ _)⟩
        clear ht h1 h2 h3 h4 HC
        go_wp2_with fail
        refine (sSkip_any s _ t _ rfl hs hts).mono ?_
        rintro e w1 ⟨⟨x, rfl, hxle, hxs, hnb, hT, hA⟩, hw⟩
        have hw := hw.symm
        subst hw
        have HNBx := hidden hnb
        have HTx := hidden (hT (Js.cC st D) (Js.sp_C st D))
        have HAx := hidden hA
        clear hnb hT hA
        have HC : Hid (st.length ≤ x ∧ Js.T s.data.toList Js.c0 0 = Js.T s.data.toList (Js.cC st D) x) := ⟨Nat.le_trans HX.out.2.1 hxle, HX.out.2.2.trans HTx.out⟩
        clear HAx HTx HX
        go_wp2_with fail
        refine (sFirst_at s x _).mono ?_
        rintro e w1 ⟨rfl, hw⟩
        have hw := hw.symm
        subst hw
        obtain ⟨b, hb⟩ : ∃ b, b = Js.bt s.data.toList x := ⟨_, rfl⟩
        rw [← hb]
        have HBTx := hidden hb
        clear hb
        by_cases h58 : b = 58
        · subst h58
          have hlt := bt_within s x (by have := HBTx.out; omega)
          obtain ⟨y, hy⟩ : ∃ y, y = x + 1 := ⟨_, rfl⟩
          have hy2 : (x : Int) + 1 = (y : Int) := by omega
          have hys : y ≤ s.size := by omega
          have hxy : x < y := by omega
          have HY : Hid (Js.W0 s.data.toList y st D) := by
            subst hy
            exact ⟨Js.As.next _ x (by rw [← HBTx.out]; decide), by have := HC.out.1; omega, HC.out.2.trans (Js.T_go _ _ _ x (by rw [← HBTx.out]; decide) (by rw [← HBTx.out]; rfl))⟩
          clear hy
          go_wp2_with fail
          apply wp_goto
          refine And.intro ?_ ?_
          · exact ⟨y, _, st, D, rfl, frWk_is rfl, HST.out, HB.out, hys, .inl ⟨rfl, HY.out⟩⟩
          · show 3 * (s.size - (intOf (Value.int .i64 _)).toNat) + 2 < 3 * (s.size - (intOf (Value.int .i64 _)).toNat) + 1
            simp only [intOf, Int.toNat_natCast]
            all_goals omega
        · have e58 : ((b : Int) != 58) = true := by rw [bne_iff_ne]; omega
          have HY : Hid (Js.W4 s.data.toList x) := HC.out.2.trans (Js.T_no _ _ x hxs rfl fun _ => by rw [Js.step_C _ _ _ HNBx.out, if_neg (by rw [← HBTx.out]; exact h58)])
          clear h58
          go_wp2_with fail
          apply wp_goto
          refine And.intro ?_ ?_
          · exact ⟨x, _, st, D, rfl, frWk_is rfl, HST.out, HB.out, hxs, .inr (.inr (.inr (.inr (.inl ⟨rfl, HY.out⟩))))⟩
          · show 3 * (s.size - (intOf (Value.int .i64 _)).toNat) + 0 < 3 * (s.size - (intOf (Value.int .i64 _)).toNat) + 1
            simp only [intOf, Int.toNat_natCast]
            all_goals omega
      · obtain ⟨t, ht⟩ : ∃ t, t = r + n := ⟨_, rfl⟩
        have ht2 : (r : Int) + (n : Int) = (t : Int) := by omega
        have hts : t ≤ s.size := by omega
        have hrt : r ≤ t := by omega
        have HX : Hid (Js.W4 s.data.toList t) := by
          subst ht
          exact HC.out.2.2.trans (h4 _ _)
        clear ht h1 h4 HC
        go_wp2_with fail
        apply wp_goto
        refine And.intro ?_ ?_
        · exact ⟨t, _, st, D, rfl, frWk_is rfl, HST.out, HB.out, hts, .inr (.inr (.inr (.inr (.inl ⟨rfl, HX.out⟩))))⟩
        · show 3 * (s.size - (intOf (Value.int .i64 _)).toNat) + 0 < 3 * (s.size - (intOf (Value.int .i64 _)).toNat) + 1
          simp only [intOf, Int.toNat_natCast]
          all_goals omega
end Go.Proofs.Ytkjkjnkpncgdnaa
