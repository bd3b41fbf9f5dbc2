/-
  The contract of package scan's number: for every string; nothing in memory is changed.
-/
import Derived.Test.YtkjkjnkpncgdnaaScLow
import Derived.Test.YtkjkjnkpncgdnaaScopeAll
namespace Go.Proofs.Ytkjkjnkpncgdnaa
open Go.RowKit
namespace Js
theorem begun_bt (l : List UInt8) (h : plain (bt l 0)) (h45 : bt l 0 ≠ 45) : Begun l 0 0 := by
  by_cases hi : 0 < l.length
  · rw [bt_at l 0 hi] at h h45
    exact begun_plain l 0 hi h h45
  · exact ⟨fun st d h1 => absurd h1 hi, fun st d h1 => absurd h1 hi, fun st d _ => T_live l _ 0 (by omega) rfl⟩
theorem begun_bt45 (l : List UInt8) (h45 : bt l 0 = 45) : Begun l 0 1 := by
  have hi := bt_in l 0 (by omega)
  rw [bt_at l 0 hi] at h45
  exact begun_minus l 0 hi h45
theorem not_bt (l : List UInt8) (p : Nat) (h : isD (bt l p) = false) : ∀ hj : p < l.length, isD (l[p]).toNat = false := fun hj => by
  rw [bt_at l p hj] at h
  exact h
theorem all_bt (l : List UInt8) (i n : Nat) (h : ∀ j, i ≤ j → j < i + n → isD (bt l j) = true) : ∀ j, i ≤ j → j < i + n → ∃ hj : j < l.length, isD (l[j]).toNat = true := fun j h1 h2 => by
  have h3 := h j h1 h2
  have hj := bt_in l j (isD_bt _ h3).1
  rw [bt_at l j hj] at h3
  exact ⟨hj, h3⟩
theorem whole_at0 (l : List UInt8) (a : Nat) (hb : Begun l 0 a) (h : bt l a = 48) : Whole l 0 (a + 1) 21 := by
  have hi := bt_in l a (by omega)
  rw [bt_at l a hi] at h
  exact whole_zero hb (Nat.zero_le _) hi h
theorem whole_at (l : List UInt8) (a n : Nat) (hb : Begun l 0 a) (hn : 0 < n) (hl : a + n ≤ l.length) (h : ∀ j, a ≤ j → j < a + n → isD (bt l j) = true) (hr : isD (bt l (a + n)) = false) (h48 : bt l a ≠ 48) : Whole l 0 (a + n) 22 :=
  whole_digits hb (Nat.zero_le _) hn hl (all_bt l a n h) (not_bt l _ hr) fun ha => by rw [← bt_at l a ha]; exact h48
theorem frac_no_at {l : List UInt8} {p m : Nat} (hw : Whole l 0 p m) (h : bt l p = 46) (hr : isD (bt l (p + 1)) = false) (st : List Bool) (d : Nat) : T l (cV st d) 0 = (none, p + 1) := by
  have hi := bt_in l p (by omega)
  rw [bt_at l p hi] at h
  exact frac_no hw hi h (not_bt l _ hr) st d
theorem frac_at {l : List UInt8} {p m n : Nat} (hw : Whole l 0 p m) (h : bt l p = 46) (hn : 0 < n) (hl : p + 1 + n ≤ l.length) (hd : ∀ j, p + 1 ≤ j → j < p + 1 + n → isD (bt l j) = true) (hr : isD (bt l (p + 1 + n)) = false) : Frac l 0 (p + 1 + n) 24 := by
  have hi := bt_in l p (by omega)
  rw [bt_at l p hi] at h
  exact frac_some hw hi h hn hl (all_bt l _ n hd) (not_bt l _ hr)
theorem frac_un {l : List UInt8} {p m : Nat} (hw : Whole l 0 p m) (h : bt l p ≠ 46) : Frac l 0 p m := frac_none hw fun hi => by rw [← bt_at l p hi]; exact h
theorem frac_end_at {l : List UInt8} {p m : Nat} (hf : Frac l 0 p m) (h1 : bt l p ≠ 101) (h2 : bt l p ≠ 69) (st : List Bool) (d : Nat) : T l (cV st d) 0 = T l (cE st d) p :=
  frac_end hf (fun hi => by rw [← bt_at l p hi]; exact ⟨h1, h2⟩) st d
/-- Where an exponent may begin: behind a number, at its e. -/
def Xp (l : List UInt8) (p : Nat) : Prop := ∃ m, Frac l 0 p m ∧ (bt l p = 101 ∨ bt l p = 69)
theorem expo_sign_at {l : List UInt8} {p : Nat} (hx : Xp l p) (h1 : bt l (p + 1) = 43 ∨ bt l (p + 1) = 45) : ∃ m, Expo l 0 (p + 1 + 1) m := by
  obtain ⟨m, hf, h⟩ := hx
  have hi := bt_in l p (by omega)
  have hi1 := bt_in l (p + 1) (by omega)
  rw [bt_at l p hi] at h
  rw [bt_at l _ hi1] at h1
  exact ⟨_, expo_sign hf hi h hi1 h1⟩
theorem expo_none_at {l : List UInt8} {p : Nat} (hx : Xp l p) (h1 : bt l (p + 1) ≠ 43) (h2 : bt l (p + 1) ≠ 45) : ∃ m, Expo l 0 (p + 1) m := by
  obtain ⟨m, hf, h⟩ := hx
  have hi := bt_in l p (by omega)
  rw [bt_at l p hi] at h
  exact ⟨_, expo_none hf hi h fun hp => by rw [← bt_at l _ hp]; exact ⟨h1, h2⟩⟩
theorem expo_no_at {l : List UInt8} {p : Nat} (he : ∃ m, Expo l 0 p m) (hr : isD (bt l p) = false) (st : List Bool) (d : Nat) : T l (cV st d) 0 = (none, p) := by
  obtain ⟨m, he⟩ := he
  exact expo_no he (not_bt l _ hr) st d
theorem expo_end_at {l : List UInt8} {p n : Nat} (he : ∃ m, Expo l 0 p m) (hn : 0 < n) (hd : ∀ j, p ≤ j → j < p + n → isD (bt l j) = true) (hr : isD (bt l (p + n)) = false) (st : List Bool) (d : Nat) : T l (cV st d) 0 = T l (cE st d) (p + n) := by
  obtain ⟨m, he⟩ := he
  exact expo_end he hn (all_bt l _ n hd) (not_bt l _ hr) st d
end Js
/-- What a reader of one value tells: how many bytes are alive, and whether they are a value. -/
def OnePost (l : List UInt8) (e : Ending) : Prop :=
  (∃ n : Nat, e = .returned (.tuple #[.int .i64 (n : Nat), .bool true]) ∧ n ≤ l.length ∧ 0 < n ∧ Js.bt l (n - 1) < 128 ∧ ∀ st d, Js.T l (Js.cV st d) 0 = Js.T l (Js.cE st d) n)
  ∨ ∃ n : Nat, e = .returned (.tuple #[.int .i64 (n : Nat), .bool false]) ∧ n ≤ l.length ∧ ∀ st d, Js.T l (Js.cV st d) 0 = (none, n)
def frNu (s : ByteArray) (a : Nat) (u : Nat → Value) : Array Value := #[.string s, undef, .int .i64 0, .bool false, .int .i64 (a : Nat), u 5, u 6, u 7, u 8, u 9, u 10, u 11, u 12, u 13, u 14, u 15, u 16, u 17, u 18, u 19, u 20, u 21, u 22, u 23, u 24, u 25, u 26, u 27, u 28, u 29, u 30, u 31, u 32, u 33, u 34, u 35, u 36, u 37, u 38, u 39, u 40, u 41, u 42, u 43, u 44, u 45, u 46, u 47, u 48, u 49, u 50, u 51, u 52, u 53, u 54, u 55, u 56, u 57, u 58, u 59, u 60, u 61, u 62, u 63, u 64, u 65, u 66, u 67, u 68, u 69, u 70, u 71, u 72, u 73, u 74, u 75, u 76, u 77, u 78, u 79, u 80, u 81, u 82]
def frNun (s : ByteArray) (a n : Nat) (u : Nat → Value) : Array Value := #[.string s, undef, .int .i64 0, .bool false, .int .i64 (a : Nat), .int .i64 (n : Nat), u 6, u 7, u 8, u 9, u 10, u 11, u 12, u 13, u 14, u 15, u 16, u 17, u 18, u 19, u 20, u 21, u 22, u 23, u 24, u 25, u 26, u 27, u 28, u 29, u 30, u 31, u 32, u 33, u 34, u 35, u 36, u 37, u 38, u 39, u 40, u 41, u 42, u 43, u 44, u 45, u 46, u 47, u 48, u 49, u 50, u 51, u 52, u 53, u 54, u 55, u 56, u 57, u 58, u 59, u 60, u 61, u 62, u 63, u 64, u 65, u 66, u 67, u 68, u 69, u 70, u 71, u 72, u 73, u 74, u 75, u 76, u 77, u 78, u 79, u 80, u 81, u 82]
theorem frNu_is {s : ByteArray} {a : Nat} {x4 u5 u6 u7 u8 u9 u10 u11 u12 u13 u14 u15 u16 u17 u18 u19 u20 u21 u22 u23 u24 u25 u26 u27 u28 u29 u30 u31 u32 u33 u34 u35 u36 u37 u38 u39 u40 u41 u42 u43 u44 u45 u46 u47 u48 u49 u50 u51 u52 u53 u54 u55 u56 u57 u58 u59 u60 u61 u62 u63 u64 u65 u66 u67 u68 u69 u70 u71 u72 u73 u74 u75 u76 u77 u78 u79 u80 u81 u82 : Value} (h : x4 = .int .i64 (a : Nat)) : ∃ u, #[.string s, undef, .int .i64 0, .bool false, x4, u5, u6, u7, u8, u9, u10, u11, u12, u13, u14, u15, u16, u17, u18, u19, u20, u21, u22, u23, u24, u25, u26, u27, u28, u29, u30, u31, u32, u33, u34, u35, u36, u37, u38, u39, u40, u41, u42, u43, u44, u45, u46, u47, u48, u49, u50, u51, u52, u53, u54, u55, u56, u57, u58, u59, u60, u61, u62, u63, u64, u65, u66, u67, u68, u69, u70, u71, u72, u73, u74, u75, u76, u77, u78, u79, u80, u81, u82] = frNu s a u := by
  subst h
  exact ⟨fun j => [u5, u6, u7, u8, u9, u10, u11, u12, u13, u14, u15, u16, u17, u18, u19, u20, u21, u22, u23, u24, u25, u26, u27, u28, u29, u30, u31, u32, u33, u34, u35, u36, u37, u38, u39, u40, u41, u42, u43, u44, u45, u46, u47, u48, u49, u50, u51, u52, u53, u54, u55, u56, u57, u58, u59, u60, u61, u62, u63, u64, u65, u66, u67, u68, u69, u70, u71, u72, u73, u74, u75, u76, u77, u78, u79, u80, u81, u82].getD (j - 5) undef, rfl⟩
theorem frNun_is {s : ByteArray} {a n : Nat} {x4 x5 u6 u7 u8 u9 u10 u11 u12 u13 u14 u15 u16 u17 u18 u19 u20 u21 u22 u23 u24 u25 u26 u27 u28 u29 u30 u31 u32 u33 u34 u35 u36 u37 u38 u39 u40 u41 u42 u43 u44 u45 u46 u47 u48 u49 u50 u51 u52 u53 u54 u55 u56 u57 u58 u59 u60 u61 u62 u63 u64 u65 u66 u67 u68 u69 u70 u71 u72 u73 u74 u75 u76 u77 u78 u79 u80 u81 u82 : Value} (h : x4 = .int .i64 (a : Nat)) (h5 : x5 = .int .i64 (n : Nat)) : ∃ u, #[.string s, undef, .int .i64 0, .bool false, x4, x5, u6, u7, u8, u9, u10, u11, u12, u13, u14, u15, u16, u17, u18, u19, u20, u21, u22, u23, u24, u25, u26, u27, u28, u29, u30, u31, u32, u33, u34, u35, u36, u37, u38, u39, u40, u41, u42, u43, u44, u45, u46, u47, u48, u49, u50, u51, u52, u53, u54, u55, u56, u57, u58, u59, u60, u61, u62, u63, u64, u65, u66, u67, u68, u69, u70, u71, u72, u73, u74, u75, u76, u77, u78, u79, u80, u81, u82] = frNun s a n u := by
  subst h h5
  exact ⟨fun j => [u6, u7, u8, u9, u10, u11, u12, u13, u14, u15, u16, u17, u18, u19, u20, u21, u22, u23, u24, u25, u26, u27, u28, u29, u30, u31, u32, u33, u34, u35, u36, u37, u38, u39, u40, u41, u42, u43, u44, u45, u46, u47, u48, u49, u50, u51, u52, u53, u54, u55, u56, u57, u58, u59, u60, u61, u62, u63, u64, u65, u66, u67, u68, u69, u70, u71, u72, u73, u74, u75, u76, u77, u78, u79, u80, u81, u82].getD (j - 6) undef, rfl⟩
set_option maxHeartbeats 4000000 in
theorem sNumber_any (s : ByteArray) (w : World) (hs : s.size ≤ 1000000) (hp : Js.plain (Js.bt s.data.toList 0)) :
    Calls Try.prog 34 #[.string s] w fun e w' => OnePost s.data.toList e ∧ w' = w := by
  have HP := hidden hp
  clear hp
  have hlen : s.data.toList.length = s.size := rfl
  have HLEN := hidden hlen
  clear hlen
  go_enter Try.func34, Try.ntmps34
  go_wp2_with fail
  refine wp_scope_all (fun l a' w' => w' = w ∧ ∃ p A, a' = { tmps := A, defers := [] } ∧ (∃ u, A = frNu s p u) ∧ p < s.size ∧ ((l = 0 ∧ Js.bt s.data.toList p = 46 ∧ ∃ m, Js.Whole s.data.toList 0 p m) ∨ (l = 1 ∧ Js.Xp s.data.toList p))) (fun _ _ _ => 0) ?_ ?_
  · refine wp_seq_k fun KA hKA => ?_
    have HKA := hidden hKA
    clear hKA
    go_wp2_with fail
    refine HKA.out _ _ ?_
    refine wp_seq_k fun KJ hKJ => ?_
    have HJ : Hid (∀ (a : Nat) A, (∃ u, A = frNu s a u) → a ≤ s.size → Js.Begun s.data.toList 0 a → KJ { tmps := A, defers := [] } w) := by
      rintro a A ⟨u, rfl⟩ ha hb
      have HB := hidden hb
      clear hb
      refine hKJ _ _ ?_
      unfold frNu
      refine wp_seq_k fun K1 h1 => ?_
      have H1 := hidden h1
      clear h1 hKJ
      go_wp2_with fail
      refine (sDigits_at s a _ hs ha).mono ?_
      rintro e w1 ⟨⟨n, rfl, hn, hnd, hall⟩, hw⟩
      have hw := hw.symm
      subst hw
      have HND := hidden hnd
      have HAL := hidden hall
      clear hnd hall
      go_wp2_with fail
      refine H1.out _ _ ?_
      clear H1
      refine wp_seq_k fun K2 h2 => ?_
      have H2 := hidden h2
      clear h2
      by_cases h0 : n = 0
      · subst h0
        go_wp2_with fail
        refine jump_ret ?_
        go_ret2
        exact ⟨.inr ⟨a, rfl, ha, fun st d => HB.out.no st d (Js.not_bt _ _ HND.out)⟩, rfl⟩
      · have e0 : ((n : Int) == 0) = false := by rw [beq_eq_false_iff_ne]; omega
        have e0n : (n == 0) = false := by rw [beq_eq_false_iff_ne]; exact h0
        have halt : a < s.size := by omega
        have H0 := hidden h0
        clear h0
        go_wp2_with fail
        refine H2.out _ _ ?_
        clear H2
        refine wp_seq_k fun K3 hK3 => ?_
        have HW : Hid (∀ (n p m : Nat) A, (∃ u, A = frNun s a n u) → p = a + n → p ≤ s.size → Js.bt s.data.toList (p - 1) < 128 → Js.Whole s.data.toList 0 p m → K3 { tmps := A, defers := [] } w) := by
          rintro n p m A ⟨u, rfl⟩ hpn hps hlet hw
          have HLET := hidden hlet
          have HW := hidden hw
          have hpn2 : (a : Int) + (n : Int) = (p : Int) := by omega
          have hpos : Hid (0 < p) := hidden hw.far
          clear hpn hw hlet
          refine hK3 _ _ ?_
          unfold frNun
          clear hK3
          go_wp2_with fail
          refine (sFirst_at s p _).mono ?_
          rintro e w1 ⟨rfl, hw⟩
          have hw := hw.symm
          subst hw
          obtain ⟨b, hb⟩ : ∃ b, b = Js.bt s.data.toList p := ⟨_, rfl⟩
          rw [← hb]
          have HBT := hidden hb
          clear hb
          by_cases h46 : b = 46
          · subst h46
            go_wp2_with fail
            apply wp_goto
            refine And.intro rfl ?_
            exact ⟨p, _, rfl, frNu_is rfl, bt_within s p (by have := HBT.out; omega), .inl ⟨rfl, HBT.out.symm, m, HW.out⟩⟩
          by_cases h101 : b = 101
          · subst h101
            go_wp2_with fail
            apply wp_goto
            refine And.intro rfl ?_
            exact ⟨p, _, rfl, frNu_is rfl, bt_within s p (by have := HBT.out; omega), .inr ⟨rfl, m, Js.frac_un HW.out (by have := HBT.out; omega), .inl HBT.out.symm⟩⟩
          by_cases h69 : b = 69
          · subst h69
            go_wp2_with fail
            apply wp_goto
            refine And.intro rfl ?_
            exact ⟨p, _, rfl, frNu_is rfl, bt_within s p (by have := HBT.out; omega), .inr ⟨rfl, m, Js.frac_un HW.out (by have := HBT.out; omega), .inr HBT.out.symm⟩⟩
          · have e1 : ((b : Int) == 46) = false := by rw [beq_eq_false_iff_ne]; omega
            have e2 : ((b : Int) == 101) = false := by rw [beq_eq_false_iff_ne]; omega
            have e3 : ((b : Int) == 69) = false := by rw [beq_eq_false_iff_ne]; omega
            have hn : Hid (b ≠ 46 ∧ b ≠ 101 ∧ b ≠ 69) := hidden ⟨h46, h101, h69⟩
            clear h46 h101 h69
            go_wp2_with fail
            refine jump_ret ?_
            go_ret2
            have h1 := HBT.out
            have h2 := hn.out
            exact ⟨.inl ⟨p, rfl, hps, hpos.out, HLET.out, fun st d => Js.frac_end_at (Js.frac_un HW.out (by omega)) (by omega) (by omega) st d⟩, rfl⟩
        have HK3 := hidden hK3
        clear hK3
        have hbt := bt_byte s a halt
        by_cases h48 : s[a].toNat = 48
        · have HH : Hid (Js.bt s.data.toList a = 48) := hidden (hbt.trans h48)
          clear hbt
          go_wp2_with fail
          exact HW.out 1 (a + 1) 21 _ (frNun_is rfl rfl) rfl halt (by rw [Nat.add_sub_cancel, HH.out]; decide) (Js.whole_at0 _ a HB.out HH.out)
        · have e48 : (((s[a].toNat : Nat) : Int) == 48) = false := by rw [beq_eq_false_iff_ne]; omega
          have HH : Hid (Js.bt s.data.toList a ≠ 48) := hidden (by rw [hbt]; exact h48)
          clear hbt h48
          go_wp2_with fail
          have hn0 := H0.out
          exact HW.out n (a + n) 22 _ (frNun_is rfl rfl) rfl hn (Js.isD_bt _ (HAL.out (a + n - 1) (by omega) (by omega))).2 (Js.whole_at _ a n HB.out (by omega) hn HAL.out HND.out HH.out)
    clear hKJ
    by_cases h45 : Js.bt s.data.toList 0 = 45
    · have HBE := hidden (Js.begun_bt45 _ h45)
      have h1 : 1 ≤ s.size := bt_within s 0 (by omega)
      go_wp2_with fail
      refine (sFirst_any s _).mono ?_
      rintro e w1 ⟨rfl, hw⟩
      have hw := hw.symm
      subst hw
      rw [h45]
      clear h45
      go_wp2_with fail
      exact HJ.out 1 _ (frNu_is rfl) h1 HBE.out
    · have HBE := hidden (Js.begun_bt _ HP.out h45)
      go_wp2_with fail
      refine (sFirst_any s _).mono ?_
      rintro e w1 ⟨rfl, hw⟩
      have hw := hw.symm
      subst hw
      have e45 : (((Js.bt s.data.toList 0 : Nat) : Int) == 45) = false := by rw [beq_eq_false_iff_ne]; omega
      clear h45
      go_wp2_with fail
      exact HJ.out 0 _ (frNu_is rfl) (Nat.zero_le _) HBE.out
  · rintro l a' w' ⟨rfl, p, A, rfl, ⟨u, rfl⟩, hps, hcase⟩
    unfold frNu
    rcases hcase with ⟨rfl, hb46, m, hw⟩ | ⟨rfl, hx⟩
    · refine ⟨_, rfl, ?_⟩
      have HW := hidden hw
      have H46 := hidden hb46
      clear hw hb46
      obtain ⟨q, hq⟩ : ∃ q, q = p + 1 := ⟨_, rfl⟩
      have hq2 : (p : Int) + 1 = (q : Int) := by omega
      have hrq : q ≤ s.size := by omega
      have HQ := hidden hq
      clear hq
      go_wp2_with fail
      refine (sDigits_at s q _ hs hrq).mono ?_
      rintro e w1 ⟨⟨n, rfl, hn, hnd, hall⟩, hw⟩
      have hw := hw.symm
      subst hw
      have HND := hidden hnd
      have HAL := hidden hall
      clear hnd hall
      by_cases h0 : n = 0
      · subst h0
        go_wp2_with fail
        refine jump_ret ?_
        go_ret2
        refine ⟨.inr ⟨q, rfl, hrq, fun st d => ?_⟩, rfl⟩
        have h1 := HQ.out
        have h2 := HND.out
        subst h1
        exact Js.frac_no_at HW.out H46.out h2 st d
      · have e0 : ((n : Int) == 0) = false := by rw [beq_eq_false_iff_ne]; omega
        have e0n : (n == 0) = false := by rw [beq_eq_false_iff_ne]; exact h0
        obtain ⟨t, ht⟩ : ∃ t, t = q + n := ⟨_, rfl⟩
        have ht2 : (q : Int) + (n : Int) = (t : Int) := by omega
        have hts : t ≤ s.size := by omega
        have HT := hidden ht
        have HF : Hid (Js.Frac s.data.toList 0 t 24) := by
          have h1 := HQ.out
          have h2 := HND.out
          have h3 := HAL.out
          subst h1
          subst ht
          exact Js.frac_at HW.out H46.out (by omega) hn h3 h2
        have HL : Hid (0 < t ∧ Js.bt s.data.toList (t - 1) < 128) := by
          refine ⟨by omega, (Js.isD_bt _ (HAL.out (t - 1) (by omega) (by omega))).2⟩
        clear h0 ht HND HAL
        go_wp2_with fail
        refine (sFirst_at s t _).mono ?_
        rintro e w1 ⟨rfl, hw⟩
        have hw := hw.symm
        subst hw
        obtain ⟨b, hb⟩ : ∃ b, b = Js.bt s.data.toList t := ⟨_, rfl⟩
        rw [← hb]
        have HBB := hidden hb
        clear hb
        by_cases h101 : b = 101
        · subst h101
          have HX : Hid (Js.Xp s.data.toList t) := ⟨24, HF.out, .inl HBB.out.symm⟩
          have hP := bt_within s t (by have := HBB.out; omega)
          clear HF HBB hq2 ht2 HQ HT hrq
          go_wp2_with fail
          refine wp_label ?_
          obtain ⟨q, hq⟩ : ∃ q, q = t + 1 := ⟨_, rfl⟩
          have hq2 : (t : Int) + 1 = (q : Int) := by omega
          have hrq : q ≤ s.size := by omega
          have HQ := hidden hq
          clear hq
          go_wp2_with fail
          refine (sFirst_at s q _).mono ?_
          rintro e w1 ⟨rfl, hw⟩
          have hw := hw.symm
          subst hw
          obtain ⟨b, hb⟩ : ∃ b, b = Js.bt s.data.toList q := ⟨_, rfl⟩
          rw [← hb]
          have HBT := hidden hb
          clear hb
          by_cases h43 : b = 43
          · subst h43
            obtain ⟨t, ht⟩ : ∃ t, t = q + 1 := ⟨_, rfl⟩
            have ht2 : (q : Int) + 1 = (t : Int) := by omega
            have hqs := bt_within s q (by have := HBT.out; omega)
            have hrt : t ≤ s.size := by omega
            have HE : Hid (∃ m, Js.Expo s.data.toList 0 t m) := by
              have h1 := HQ.out
              have h2 := HBT.out
              subst h1
              subst ht
              exact Js.expo_sign_at HX.out (.inl h2.symm)
            clear ht
            go_wp2_with fail
            refine (sDigits_at s t _ hs hrt).mono ?_
            rintro e w1 ⟨⟨n, rfl, hn, hnd, hall⟩, hw⟩
            have hw := hw.symm
            subst hw
            have HND := hidden hnd
            have HAL := hidden hall
            clear hnd hall
            by_cases h0 : n = 0
            · subst h0
              go_wp2_with fail
              refine jump_ret ?_
              go_ret2
              exact ⟨.inr ⟨t, rfl, hrt, fun st d => Js.expo_no_at HE.out HND.out st d⟩, rfl⟩
            · have hpos : 0 < n := by omega
              have H0 := hidden hpos
              have e0 : decide ((0 : Int) < (n : Int)) = true := decide_eq_true (by omega)
              clear h0
              go_wp2_with fail
              refine jump_ret ?_
              go_ret2
              have hn0 := H0.out
              exact ⟨.inl ⟨t + n, rfl, hn, by omega, (Js.isD_bt _ (HAL.out (t + n - 1) (by omega) (by omega))).2, fun st d => Js.expo_end_at HE.out hn0 HAL.out HND.out st d⟩, rfl⟩
          by_cases h45 : b = 45
          · subst h45
            obtain ⟨t, ht⟩ : ∃ t, t = q + 1 := ⟨_, rfl⟩
            have ht2 : (q : Int) + 1 = (t : Int) := by omega
            have hqs := bt_within s q (by have := HBT.out; omega)
            have hrt : t ≤ s.size := by omega
            have HE : Hid (∃ m, Js.Expo s.data.toList 0 t m) := by
              have h1 := HQ.out
              have h2 := HBT.out
              subst h1
              subst ht
              exact Js.expo_sign_at HX.out (.inr h2.symm)
            clear ht
            go_wp2_with fail
            refine (sDigits_at s t _ hs hrt).mono ?_
            rintro e w1 ⟨⟨n, rfl, hn, hnd, hall⟩, hw⟩
            have hw := hw.symm
            subst hw
            have HND := hidden hnd
            have HAL := hidden hall
            clear hnd hall
            by_cases h0 : n = 0
            · subst h0
              go_wp2_with fail
              refine jump_ret ?_
              go_ret2
              exact ⟨.inr ⟨t, rfl, hrt, fun st d => Js.expo_no_at HE.out HND.out st d⟩, rfl⟩
            · have hpos : 0 < n := by omega
              have H0 := hidden hpos
              have e0 : decide ((0 : Int) < (n : Int)) = true := decide_eq_true (by omega)
              clear h0
              go_wp2_with fail
              refine jump_ret ?_
              go_ret2
              have hn0 := H0.out
              exact ⟨.inl ⟨t + n, rfl, hn, by omega, (Js.isD_bt _ (HAL.out (t + n - 1) (by omega) (by omega))).2, fun st d => Js.expo_end_at HE.out hn0 HAL.out HND.out st d⟩, rfl⟩
          · have e43 : ((b : Int) == 43) = false := by rw [beq_eq_false_iff_ne]; omega
            have e45 : ((b : Int) == 45) = false := by rw [beq_eq_false_iff_ne]; omega
            have HE : Hid (∃ m, Js.Expo s.data.toList 0 q m) := by
              have h1 := HQ.out
              have h2 := HBT.out
              subst h1
              exact Js.expo_none_at HX.out (by omega) (by omega)
            clear h43 h45
            go_wp2_with fail
            refine (sDigits_at s q _ hs hrq).mono ?_
            rintro e w1 ⟨⟨n, rfl, hn, hnd, hall⟩, hw⟩
            have hw := hw.symm
            subst hw
            have HND := hidden hnd
            have HAL := hidden hall
            clear hnd hall
            by_cases h0 : n = 0
            · subst h0
              go_wp2_with fail
              refine jump_ret ?_
              go_ret2
              exact ⟨.inr ⟨q, rfl, hrq, fun st d => Js.expo_no_at HE.out HND.out st d⟩, rfl⟩
            · have hpos : 0 < n := by omega
              have H0 := hidden hpos
              have e0 : decide ((0 : Int) < (n : Int)) = true := decide_eq_true (by omega)
              clear h0
              go_wp2_with fail
              refine jump_ret ?_
              go_ret2
              have hn0 := H0.out
              exact ⟨.inl ⟨q + n, rfl, hn, by omega, (Js.isD_bt _ (HAL.out (q + n - 1) (by omega) (by omega))).2, fun st d => Js.expo_end_at HE.out hn0 HAL.out HND.out st d⟩, rfl⟩
        by_cases h69 : b = 69
        · subst h69
          have HX : Hid (Js.Xp s.data.toList t) := ⟨24, HF.out, .inr HBB.out.symm⟩
          have hP := bt_within s t (by have := HBB.out; omega)
          clear HF HBB hq2 ht2 HQ HT hrq
          go_wp2_with fail
          refine wp_label ?_
          obtain ⟨q, hq⟩ : ∃ q, q = t + 1 := ⟨_, rfl⟩
          have hq2 : (t : Int) + 1 = (q : Int) := by omega
          have hrq : q ≤ s.size := by omega
          have HQ := hidden hq
          clear hq
          go_wp2_with fail
          refine (sFirst_at s q _).mono ?_
          rintro e w1 ⟨rfl, hw⟩
          have hw := hw.symm
          subst hw
          obtain ⟨b, hb⟩ : ∃ b, b = Js.bt s.data.toList q := ⟨_, rfl⟩
          rw [← hb]
          have HBT := hidden hb
          clear hb
          by_cases h43 : b = 43
          · subst h43
            obtain ⟨t, ht⟩ : ∃ t, t = q + 1 := ⟨_, rfl⟩
            have ht2 : (q : Int) + 1 = (t : Int) := by omega
            have hqs := bt_within s q (by have := HBT.out; omega)
            have hrt : t ≤ s.size := by omega
            have HE : Hid (∃ m, Js.Expo s.data.toList 0 t m) := by
              have h1 := HQ.out
              have h2 := HBT.out
              subst h1
              subst ht
              exact Js.expo_sign_at HX.out (.inl h2.symm)
            clear ht
            go_wp2_with fail
            refine (sDigits_at s t _ hs hrt).mono ?_
            rintro e w1 ⟨⟨n, rfl, hn, hnd, hall⟩, hw⟩
            have hw := hw.symm
            subst hw
            have HND := hidden hnd
            have HAL := hidden hall
            clear hnd hall
            by_cases h0 : n = 0
            · subst h0
              go_wp2_with fail
              refine jump_ret ?_
              go_ret2
              exact ⟨.inr ⟨t, rfl, hrt, fun st d => Js.expo_no_at HE.out HND.out st d⟩, rfl⟩
            · have hpos : 0 < n := by omega
              have H0 := hidden hpos
              have e0 : decide ((0 : Int) < (n : Int)) = true := decide_eq_true (by omega)
              clear h0
              go_wp2_with fail
              refine jump_ret ?_
              go_ret2
              have hn0 := H0.out
              exact ⟨.inl ⟨t + n, rfl, hn, by omega, (Js.isD_bt _ (HAL.out (t + n - 1) (by omega) (by omega))).2, fun st d => Js.expo_end_at HE.out hn0 HAL.out HND.out st d⟩, rfl⟩
          by_cases h45 : b = 45
          · subst h45
            obtain ⟨t, ht⟩ : ∃ t, t = q + 1 := ⟨_, rfl⟩
            have ht2 : (q : Int) + 1 = (t : Int) := by omega
            have hqs := bt_within s q (by have := HBT.out; omega)
            have hrt : t ≤ s.size := by omega
            have HE : Hid (∃ m, Js.Expo s.data.toList 0 t m) := by
              have h1 := HQ.out
              have h2 := HBT.out
              subst h1
              subst ht
              exact Js.expo_sign_at HX.out (.inr h2.symm)
            clear ht
            go_wp2_with fail
            refine (sDigits_at s t _ hs hrt).mono ?_
            rintro e w1 ⟨⟨n, rfl, hn, hnd, hall⟩, hw⟩
            have hw := hw.symm
            subst hw
            have HND := hidden hnd
            have HAL := hidden hall
            clear hnd hall
            by_cases h0 : n = 0
            · subst h0
              go_wp2_with fail
              refine jump_ret ?_
              go_ret2
              exact ⟨.inr ⟨t, rfl, hrt, fun st d => Js.expo_no_at HE.out HND.out st d⟩, rfl⟩
            · have hpos : 0 < n := by omega
              have H0 := hidden hpos
              have e0 : decide ((0 : Int) < (n : Int)) = true := decide_eq_true (by omega)
              clear h0
              go_wp2_with fail
              refine jump_ret ?_
              go_ret2
              have hn0 := H0.out
              exact ⟨.inl ⟨t + n, rfl, hn, by omega, (Js.isD_bt _ (HAL.out (t + n - 1) (by omega) (by omega))).2, fun st d => Js.expo_end_at HE.out hn0 HAL.out HND.out st d⟩, rfl⟩
          · have e43 : ((b : Int) == 43) = false := by rw [beq_eq_false_iff_ne]; omega
            have e45 : ((b : Int) == 45) = false := by rw [beq_eq_false_iff_ne]; omega
            have HE : Hid (∃ m, Js.Expo s.data.toList 0 q m) := by
              have h1 := HQ.out
              have h2 := HBT.out
              subst h1
              exact Js.expo_none_at HX.out (by omega) (by omega)
            clear h43 h45
            go_wp2_with fail
            refine (sDigits_at s q _ hs hrq).mono ?_
            rintro e w1 ⟨⟨n, rfl, hn, hnd, hall⟩, hw⟩
            have hw := hw.symm
            subst hw
            have HND := hidden hnd
            have HAL := hidden hall
            clear hnd hall
            by_cases h0 : n = 0
            · subst h0
              go_wp2_with fail
              refine jump_ret ?_
              go_ret2
              exact ⟨.inr ⟨q, rfl, hrq, fun st d => Js.expo_no_at HE.out HND.out st d⟩, rfl⟩
            · have hpos : 0 < n := by omega
              have H0 := hidden hpos
              have e0 : decide ((0 : Int) < (n : Int)) = true := decide_eq_true (by omega)
              clear h0
              go_wp2_with fail
              refine jump_ret ?_
              go_ret2
              have hn0 := H0.out
              exact ⟨.inl ⟨q + n, rfl, hn, by omega, (Js.isD_bt _ (HAL.out (q + n - 1) (by omega) (by omega))).2, fun st d => Js.expo_end_at HE.out hn0 HAL.out HND.out st d⟩, rfl⟩
        · have e101 : ((b : Int) != 101) = true := by rw [bne_iff_ne]; omega
          have e69 : ((b : Int) != 69) = true := by rw [bne_iff_ne]; omega
          have HNE : Hid (b ≠ 101 ∧ b ≠ 69) := hidden ⟨h101, h69⟩
          clear h101 h69
          go_wp2_with fail
          refine jump_ret ?_
          go_ret2
          have h1 := HBB.out
          have h2 := HNE.out
          exact ⟨.inl ⟨t, rfl, hts, HL.out.1, HL.out.2, fun st d => Js.frac_end_at HF.out (by omega) (by omega) st d⟩, rfl⟩
    · refine ⟨_, rfl, ?_⟩
      have HX := hidden hx
      clear hx
      obtain ⟨q, hq⟩ : ∃ q, q = p + 1 := ⟨_, rfl⟩
      have hq2 : (p : Int) + 1 = (q : Int) := by omega
      have hrq : q ≤ s.size := by omega
      have HQ := hidden hq
      clear hq
      go_wp2_with fail
      refine (sFirst_at s q _).mono ?_
      rintro e w1 ⟨rfl, hw⟩
      have hw := hw.symm
      subst hw
      obtain ⟨b, hb⟩ : ∃ b, b = Js.bt s.data.toList q := ⟨_, rfl⟩
      rw [← hb]
      have HBT := hidden hb
      clear hb
      by_cases h43 : b = 43
      · subst h43
        obtain ⟨t, ht⟩ : ∃ t, t = q + 1 := ⟨_, rfl⟩
        have ht2 : (q : Int) + 1 = (t : Int) := by omega
        have hqs := bt_within s q (by have := HBT.out; omega)
        have hrt : t ≤ s.size := by omega
        have HE : Hid (∃ m, Js.Expo s.data.toList 0 t m) := by
          have h1 := HQ.out
          have h2 := HBT.out
          subst h1
          subst ht
          exact Js.expo_sign_at HX.out (.inl h2.symm)
        clear ht
        go_wp2_with fail
        refine (sDigits_at s t _ hs hrt).mono ?_
        rintro e w1 ⟨⟨n, rfl, hn, hnd, hall⟩, hw⟩
        have hw := hw.symm
        subst hw
        have HND := hidden hnd
        have HAL := hidden hall
        clear hnd hall
        by_cases h0 : n = 0
        · subst h0
          go_wp2_with fail
          refine jump_ret ?_
          go_ret2
          exact ⟨.inr ⟨t, rfl, hrt, fun st d => Js.expo_no_at HE.out HND.out st d⟩, rfl⟩
        · have hpos : 0 < n := by omega
          have H0 := hidden hpos
          have e0 : decide ((0 : Int) < (n : Int)) = true := decide_eq_true (by omega)
          clear h0
          go_wp2_with fail
          refine jump_ret ?_
          go_ret2
          have hn0 := H0.out
          exact ⟨.inl ⟨t + n, rfl, hn, by omega, (Js.isD_bt _ (HAL.out (t + n - 1) (by omega) (by omega))).2, fun st d => Js.expo_end_at HE.out hn0 HAL.out HND.out st d⟩, rfl⟩
      by_cases h45 : b = 45
      · subst h45
        obtain ⟨t, ht⟩ : ∃ t, t = q + 1 := ⟨_, rfl⟩
        have ht2 : (q : Int) + 1 = (t : Int) := by omega
        have hqs := bt_within s q (by have := HBT.out; omega)
        have hrt : t ≤ s.size := by omega
        have HE : Hid (∃ m, Js.Expo s.data.toList 0 t m) := by
          have h1 := HQ.out
          have h2 := HBT.out
          subst h1
          subst ht
          exact Js.expo_sign_at HX.out (.inr h2.symm)
        clear ht
        go_wp2_with fail
        refine (sDigits_at s t _ hs hrt).mono ?_
        rintro e w1 ⟨⟨n, rfl, hn, hnd, hall⟩, hw⟩
        have hw := hw.symm
        subst hw
        have HND := hidden hnd
        have HAL := hidden hall
        clear hnd hall
        by_cases h0 : n = 0
        · subst h0
          go_wp2_with fail
          refine jump_ret ?_
          go_ret2
          exact ⟨.inr ⟨t, rfl, hrt, fun st d => Js.expo_no_at HE.out HND.out st d⟩, rfl⟩
        · have hpos : 0 < n := by omega
          have H0 := hidden hpos
          have e0 : decide ((0 : Int) < (n : Int)) = true := decide_eq_true (by omega)
          clear h0
          go_wp2_with fail
          refine jump_ret ?_
          go_ret2
          have hn0 := H0.out
          exact ⟨.inl ⟨t + n, rfl, hn, by omega, (Js.isD_bt _ (HAL.out (t + n - 1) (by omega) (by omega))).2, fun st d => Js.expo_end_at HE.out hn0 HAL.out HND.out st d⟩, rfl⟩
      · have e43 : ((b : Int) == 43) = false := by rw [beq_eq_false_iff_ne]; omega
        have e45 : ((b : Int) == 45) = false := by rw [beq_eq_false_iff_ne]; omega
        have HE : Hid (∃ m, Js.Expo s.data.toList 0 q m) := by
          have h1 := HQ.out
          have h2 := HBT.out
          subst h1
          exact Js.expo_none_at HX.out (by omega) (by omega)
        clear h43 h45
        go_wp2_with fail
        refine (sDigits_at s q _ hs hrq).mono ?_
        rintro e w1 ⟨⟨n, rfl, hn, hnd, hall⟩, hw⟩
        have hw := hw.symm
        subst hw
        have HND := hidden hnd
        have HAL := hidden hall
        clear hnd hall
        by_cases h0 : n = 0
        · subst h0
          go_wp2_with fail
          refine jump_ret ?_
          go_ret2
          exact ⟨.inr ⟨q, rfl, hrq, fun st d => Js.expo_no_at HE.out HND.out st d⟩, rfl⟩
        · have hpos : 0 < n := by omega
          have H0 := hidden hpos
          have e0 : decide ((0 : Int) < (n : Int)) = true := decide_eq_true (by omega)
          clear h0
          go_wp2_with fail
          refine jump_ret ?_
          go_ret2
          have hn0 := H0.out
          exact ⟨.inl ⟨q + n, rfl, hn, by omega, (Js.isD_bt _ (HAL.out (q + n - 1) (by omega) (by omega))).2, fun st d => Js.expo_end_at HE.out hn0 HAL.out HND.out st d⟩, rfl⟩
end Go.Proofs.Ytkjkjnkpncgdnaa
