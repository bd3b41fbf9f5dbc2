/-
  The contracts of package esc's character, scalar and inside: for every string; nothing that was there is changed.
-/
import Derived.Lib.Strings
import Derived.Lib.Slices
import Derived.Lib.Walk
import Derived.Test.YtjhjkahjljikhaaEsLow
namespace Go.Proofs.Ytjhjkahjljikhaa
open Go.RowKit
theorem Scalar_all (s : ByteArray) (w : World) (hs : s.size ≤ 9223372036854775807) :
    Calls Try.prog 25 #[.string s] w fun e w' => e = .returned (.tuple #[.int .i64 ((Ut.sc s.data.toList).1 : Nat), .int .i64 ((Ut.sc s.data.toList).2 : Nat)]) ∧ ∃ m, w' = w.drewN m := by
  by_cases h : Ut.ld 0 s.data.toList = 0
  · rw [show Ut.sc s.data.toList = (0, 0) from if_pos h]
    refine (Scalar_none s w hs h).mono ?_
    rintro e w' ⟨rfl, rfl⟩
    exact ⟨rfl, 0, rfl⟩
  · rw [show Ut.sc s.data.toList = _ from if_neg h]
    exact Scalar_some s _ w hs rfl (by omega)
namespace Es
theorem sc_two (l : List UInt8) : ((Ut.sc l).2 = 0 ↔ Ut.ld 0 l = 0) ∧ (Ut.ld 0 l = 0 → Ut.sc l = (0, 0)) := by
  unfold Ut.sc
  by_cases h : Ut.ld 0 l = 0
  · rw [if_pos h]
    exact ⟨⟨fun _ => h, fun _ => rfl⟩, fun _ => rfl⟩
  · rw [if_neg h]
    exact ⟨Iff.rfl, fun h2 => absurd h2 h⟩
theorem first_92 (s : ByteArray) (h : Ut.ld 0 s.data.toList ≠ 0) (h2 : (Ut.sc s.data.toList).1 = 92) : ∃ h : 0 < s.size, s[0].toNat = 92 := by
  obtain ⟨⟨l⟩⟩ := s
  match l, h, h2 with
  | [], h, _ => exact absurd rfl h
  | a :: t, h, h2 =>
    have := sc_byte a t h
    have h2' : (Ut.sc (a :: t)).1 = 92 := h2
    refine ⟨by simp [ByteArray.size], ?_⟩
    show a.toNat = 92
    omega
end Es
set_option maxHeartbeats 1000000 in
theorem character_any (s : ByteArray) (w : World) (hs : s.size ≤ 9223372036854775807) :
    Calls Try.prog 42 #[.string s] w fun e w' => e = .returned (.tuple #[.int .i64 (Es.cr s.data.toList).1, .int .i64 ((Es.cr s.data.toList).2 : Nat)]) ∧ ∃ m, w' = w.drewN m := by
  have HS := hidden (Scalar_all s w hs)
  obtain ⟨h1, h2⟩ := Es.sc_two s.data.toList
  by_cases h0 : Ut.ld 0 s.data.toList = 0
  · rw [Es.cr_none _ (.inl h0)]
    rw [h2 h0] at HS
    clear h0 h1 h2
    go_enter Try.func42, Try.ntmps42
    go_wp2_with fail
    refine HS.out.mono ?_
    rintro e w1 ⟨rfl, m, rfl⟩
    go_wp2_with fail
    go_ret2
    exact ⟨rfl, m, rfl⟩
  · have hn : (Ut.sc s.data.toList).2 ≠ 0 := fun h => h0 (h1.1 h)
    obtain ⟨n, hn2⟩ : ∃ n, n = (Ut.sc s.data.toList).2 := ⟨_, rfl⟩
    obtain ⟨c, hc2⟩ : ∃ c, c = (Ut.sc s.data.toList).1 := ⟨_, rfl⟩
    have hnz : ((n : Int) == 0) = false := by rw [beq_eq_false_iff_ne]; omega
    rw [← hn2, ← hc2] at HS
    by_cases hc : c < 32
    · rw [Es.cr_none _ (.inr (.inl (by omega)))]
      clear h0 h1 h2 hn hn2 hc2
      go_enter Try.func42, Try.ntmps42
      go_wp2_with fail
      refine HS.out.mono ?_
      rintro e w1 ⟨rfl, m, rfl⟩
      go_wp2_with fail
      go_ret2
      exact ⟨rfl, m, rfl⟩
    by_cases hc3 : c = 34
    · rw [Es.cr_none _ (.inr (.inr (by omega)))]
      subst hc3
      clear h0 h1 h2 hn hn2 hc2 hc
      go_enter Try.func42, Try.ntmps42
      go_wp2_with fail
      refine HS.out.mono ?_
      rintro e w1 ⟨rfl, m, rfl⟩
      go_wp2_with fail
      go_ret2
      exact ⟨rfl, m, rfl⟩
    by_cases hc4 : c = 92
    · rw [Es.cr_sign _ h0 (by omega)]
      obtain ⟨h3, h4⟩ := Es.first_92 s h0 (by omega)
      have HG := hidden (fun w => signed_any s w hs h3 h4)
      subst hc4
      clear h0 h1 h2 hn hn2 hc2 hc hc3 h3 h4
      go_enter Try.func42, Try.ntmps42
      go_wp2_with fail
      refine HS.out.mono ?_
      rintro e w1 ⟨rfl, m, rfl⟩
      go_wp2_with fail
      refine (HG.out _).mono ?_
      rintro e w2 ⟨rfl, rfl⟩
      go_wp2_with fail
      go_ret2
      exact ⟨rfl, m, rfl⟩
    · rw [Es.cr_plain _ h0 (by omega) (by omega) (by omega), ← hn2, ← hc2]
      clear h0 h1 h2 hn hn2 hc2
      go_enter Try.func42, Try.ntmps42
      go_wp2_with fail
      refine HS.out.mono ?_
      rintro e w1 ⟨rfl, m, rfl⟩
      go_wp2_with fail
      go_ret2
      exact ⟨rfl, m, rfl⟩
namespace Es
theorem and1023 (a : Nat) : a &&& 1023 = a % 1024 := Nat.and_two_pow_sub_one_eq_mod a 10
theorem low_ten (c : Nat) (h : c < 9223372036854775808) : bits .and .i64 (c : Int) 1023 = ((c % 1024 : Nat) : Int) := by
  have e := Ut.and_i64 c 1023 h (by omega)
  rw [and1023] at e
  exact e
theorem cr_le (l : List UInt8) : -1 ≤ (cr l).1 ∧ (cr l).1 ≤ 1114111 ∧ (cr l).2 ≤ l.length := by
  rcases cr_cases l with h | ⟨c, n, h, _, h2, h3⟩
  · rw [h]
    exact ⟨by decide, by decide, Nat.zero_le _⟩
  · rw [h]
    refine ⟨?_, ?_, h2⟩
    · show (-1 : Int) ≤ (c : Int)
      omega
    · show (c : Int) ≤ 1114111
      rcases h3 with ⟨_, h3, _⟩ | ⟨h3, _⟩ | ⟨_, h3⟩
      · omega
      · have := h3.1
        omega
      · omega
theorem extract_drop (s : ByteArray) (n : Nat) (h : n ≤ s.size) : (s.extract n s.size).data.toList = s.data.toList.drop n := by
  obtain ⟨⟨l⟩⟩ := s
  rw [ByteArray.extract_mk]
  show List.take (l.length - n) (List.drop n l) = List.drop n l
  rw [List.take_of_length_le (by rw [List.length_drop]; exact Nat.le_refl _)]
theorem ret_pair {k j : IntKind} {a b c d : Int} (h1 : a = c) (h2 : b = d) : Ending.returned (.tuple #[.int k a, .int j b]) = .returned (.tuple #[.int k c, .int j d]) := by rw [h1, h2]
end Es
set_option maxHeartbeats 1000000 in
theorem scalar_any (s : ByteArray) (w : World) (hs : s.size ≤ 9223372036854775807) :
    Calls Try.prog 30 #[.string s] w fun e w' => e = .returned (.tuple #[.int .i64 (Es.so s.data.toList).1, .int .i64 ((Es.so s.data.toList).2 : Nat)]) ∧ ∃ m, w' = w.drewN m := by
  have HS := character_any s w hs
  by_cases h : 55296 ≤ (Es.cr s.data.toList).1 ∧ (Es.cr s.data.toList).1 ≤ 57343
  · have hcr := Es.cr_half _ h.1 h.2
    have hlen := (Es.cr_le s.data.toList).2.2
    rw [hcr] at hlen HS
    have h6 : 6 ≤ s.size := hlen
    obtain ⟨c, hc⟩ : ∃ c : Nat, Es.ru s.data.toList = (c : Int) := ⟨(Es.ru s.data.toList).toNat, by rw [hcr] at h; have h1 : 55296 ≤ Es.ru s.data.toList := h.1; omega⟩
    have hc1 : (Es.cr s.data.toList).1 = (c : Int) := by rw [hcr]; exact hc
    rw [hc] at HS
    rw [hc1] at h
    obtain ⟨hA, hB⟩ := h
    have HD := hidden (fun w => character_any (s.extract 6 s.size) w (by rw [ByteArray.size_extract]; omega))
    rw [Es.extract_drop s 6 h6] at HD
    obtain ⟨d, hd⟩ : ∃ d, d = (Es.cr (s.data.toList.drop 6)).1 := ⟨_, rfl⟩
    obtain ⟨m0, hm0⟩ : ∃ m, m = (Es.cr (s.data.toList.drop 6)).2 := ⟨_, rfl⟩
    have hle := Es.cr_le (s.data.toList.drop 6)
    have hiff := Es.half_iff (s.data.toList.drop 6)
    have hcd := Es.cr_half (s.data.toList.drop 6)
    have HH := hidden HS
    clear HS hlen hcr
    by_cases hp : c ≤ 56319
    · have hsh : (c : Int) / 1024 = 54 := by omega
      by_cases hq : 56320 ≤ Es.ru (s.data.toList.drop 6) ∧ Es.ru (s.data.toList.drop 6) ≤ 57343
      · obtain ⟨q1, q2⟩ := hiff.2 hq
        have hcd2 := hcd (by omega) q2
        have hso := Es.so_pair s.data.toList (by rw [hc1]; exact hA) (by rw [hc1]; omega) hq.1 hq.2
        rw [hc1] at hso
        obtain ⟨D, hD⟩ : ∃ D : Nat, Es.ru (s.data.toList.drop 6) = (D : Int) := ⟨(Es.ru (s.data.toList.drop 6)).toNat, by omega⟩
        rw [hcd2, hD] at HD
        rw [hD] at hso hq
        have HSO := hidden hso
        have hsh2 : (D : Int) / 1024 = 55 := by omega
        have e1 := Es.low_ten c (by omega)
        have e2 := Es.low_ten D (by omega)
        have hD1 : (D : Int) ≤ 57343 := hq.2
        have hD2 : 56320 ≤ (D : Int) := hq.1
        clear hiff hcd hle hso hcd2 q1 q2 hq hd hm0 hD hc hc1
        go_enter Try.func30, Try.ntmps30
        go_wp2_with fail
        refine HH.out.mono ?_
        rintro e w1 ⟨rfl, m, rfl⟩
        go_wp2_with fail
        refine (HD.out _).mono ?_
        rintro e w2 ⟨rfl, m2, rfl⟩
        go_wp2_with fail
        go_ret2
        rw [HSO.out]
        refine ⟨?_, m + m2, ?_⟩
        · apply Es.ret_pair
          · omega
          · rfl
        · rfl
      · have hso := Es.so_lost s.data.toList (by rw [hc1]; exact hA) (by rw [hc1]; exact hB) (fun h => hq h.2)
        have HSO := hidden hso
        have hsh2 : (d / 1024 == 55) = false := by
          rw [beq_eq_false_iff_ne]
          intro e
          have h1 : ¬ (56320 ≤ d ∧ d ≤ 57343) := fun h2 => hq (hiff.1 (by rw [← hd]; exact h2))
          omega
        have hle1 := hle.1
        have hle2 := hle.2.1
        rw [← hd, ← hm0] at HD
        rw [← hd] at hle1 hle2
        clear hiff hcd hle hso hq hd hm0 hc hc1
        go_enter Try.func30, Try.ntmps30
        go_wp2_with fail
        refine HH.out.mono ?_
        rintro e w1 ⟨rfl, m, rfl⟩
        go_wp2_with fail
        refine (HD.out _).mono ?_
        rintro e w2 ⟨rfl, m2, rfl⟩
        go_wp2_with fail
        go_ret2
        rw [HSO.out]
        exact ⟨rfl, m + m2, rfl⟩
    · have hsh : (c : Int) / 1024 = 55 := by omega
      have hso := Es.so_lost s.data.toList (by rw [hc1]; exact hA) (by rw [hc1]; exact hB) (fun h => hp (by have := h.1; rw [hc1] at this; omega))
      have HSO := hidden hso
      clear hiff hcd hle hso hd hm0 hc hc1 HD
      go_enter Try.func30, Try.ntmps30
      go_wp2_with fail
      refine HH.out.mono ?_
      rintro e w1 ⟨rfl, m, rfl⟩
      go_wp2_with fail
      go_ret2
      rw [HSO.out]
      exact ⟨rfl, m, rfl⟩
  · rw [Es.so_cr _ h]
    have hle := Es.cr_le s.data.toList
    have HH := hidden HS
    obtain ⟨c, hc⟩ : ∃ c, c = (Es.cr s.data.toList).1 := ⟨_, rfl⟩
    obtain ⟨n, hn⟩ : ∃ n, n = (Es.cr s.data.toList).2 := ⟨_, rfl⟩
    rw [← hc, ← hn] at HH ⊢
    rw [← hc] at h hle
    have h1 := hle.1
    have h2 := hle.2.1
    have e1 : (c / 1024 == 54) = false := by rw [beq_eq_false_iff_ne]; omega
    have e2 : (c / 1024 == 55) = false := by rw [beq_eq_false_iff_ne]; omega
    clear HS hle hc hn h
    go_enter Try.func30, Try.ntmps30
    go_wp2_with fail
    refine HH.out.mono ?_
    rintro e w1 ⟨rfl, m, rfl⟩
    go_wp2_with fail
    go_ret2
    exact ⟨rfl, m, rfl⟩
namespace Es
theorem pre_cons (a : UInt8) (t : List UInt8) : Lib.hasPrefix (a :: t) [34] = (34 == a) := by
  unfold Lib.hasPrefix
  simp [List.isPrefixOf]
theorem suf_iff (t : List UInt8) : Lib.hasSuffix t [34] = true ↔ ∃ m, t = m ++ [34] := by
  unfold Lib.hasSuffix
  rw [List.isSuffixOf_iff_suffix]
  constructor
  · rintro ⟨m, rfl⟩
    exact ⟨m, rfl⟩
  · rintro ⟨m, rfl⟩
    exact ⟨m, rfl⟩
/-- What the two cuts leave. -/
theorem ins_cut (l : List UInt8) : (∃ m, ins l = some m ∧ Lib.hasPrefix l [34] = true ∧ Lib.hasSuffix (Lib.trimPrefix l [34]) [34] = true ∧ Lib.trimSuffix (Lib.trimPrefix l [34]) [34] = m) ∨ (ins l = none ∧ (Lib.hasPrefix l [34] = false ∨ Lib.hasSuffix (Lib.trimPrefix l [34]) [34] = false)) := by
  match l with
  | [] => exact .inr ⟨rfl, .inl rfl⟩
  | a :: t =>
    by_cases ha : a = 34
    · subst ha
      have h1 : Lib.hasPrefix (34 :: t) [34] = true := by rw [pre_cons]; rfl
      have h2 : Lib.trimPrefix (34 :: t) [34] = t := by
        unfold Lib.trimPrefix
        rw [if_pos h1]
        rfl
      rw [h1, h2]
      cases h3 : Lib.hasSuffix t [34] with
      | true =>
        obtain ⟨m, rfl⟩ := (suf_iff t).1 h3
        refine .inl ⟨m, ins_mk m, rfl, rfl, ?_⟩
        unfold Lib.trimSuffix
        rw [if_pos h3, List.length_append]
        simp
      | false =>
        refine .inr ⟨?_, .inr rfl⟩
        cases h4 : ins (34 :: t) with
        | none => rfl
        | some m =>
          have h5 := ins_of _ m h4
          rw [List.cons.injEq] at h5
          have := (suf_iff t).2 ⟨m, h5.2⟩
          rw [h3] at this
          cases this
    · refine .inr ⟨if_neg (fun h => ha h.1), .inl ?_⟩
      rw [pre_cons, beq_eq_false_iff_ne]
      exact fun h => ha h.symm
end Es
set_option maxHeartbeats 1000000 in
theorem CutPrefix_any (s p : ByteArray) (w : World) :
    Calls Try.prog 40 #[.string s, .string p] w fun e w' => e = .returned (.tuple #[.string ⟨(Lib.trimPrefix s.data.toList p.data.toList).toArray⟩, .bool (Lib.hasPrefix s.data.toList p.data.toList)]) ∧ w' = w := by
  have hraw := hidden (Lib.hasPrefix_raw s p)
  have hhit := hidden (Lib.trimPrefix_hit s p)
  have hmiss := hidden (Lib.trimPrefix_miss s p)
  by_cases h1 : p.size ≤ s.size
  · cases h2 : ((s.extract 0 p.size).toList == p.toList) with
    | true =>
      have e := hraw.out
      rw [h2, decide_eq_true h1, Bool.true_and] at e
      rw [← e, hhit.out h1 h2]
      clear e
      go_enter Try.func40, Try.ntmps40
      go_wp2
      go_ret2
      exact ⟨rfl, rfl⟩
    | false =>
      have e := hraw.out
      rw [h2, Bool.and_false] at e
      rw [← e, hmiss.out (by rw [h2, Bool.and_false])]
      clear e
      go_enter Try.func40, Try.ntmps40
      go_wp2
      go_ret2
      exact ⟨rfl, rfl⟩
  · have e := hraw.out
    rw [decide_eq_false h1, Bool.false_and] at e
    rw [← e, hmiss.out (by rw [decide_eq_false h1, Bool.false_and])]
    clear e
    go_enter Try.func40, Try.ntmps40
    go_wp2
    go_ret2
    exact ⟨rfl, rfl⟩
set_option maxHeartbeats 1000000 in
theorem CutSuffix_any (s p : ByteArray) (w : World) (hs : s.size ≤ 9223372036854775807) :
    Calls Try.prog 41 #[.string s, .string p] w fun e w' => e = .returned (.tuple #[.string ⟨(Lib.trimSuffix s.data.toList p.data.toList).toArray⟩, .bool (Lib.hasSuffix s.data.toList p.data.toList)]) ∧ w' = w := by
  have hraw := hidden (Lib.hasSuffix_raw s p)
  have hhit := hidden (Lib.trimSuffix_hit s p)
  have hmiss := hidden (Lib.trimSuffix_miss s p)
  by_cases h1 : p.size ≤ s.size
  · have hd : ((s.size : Int) - (p.size : Int)) = ((s.size - p.size : Nat) : Int) := by omega
    cases h2 : ((s.extract (s.size - p.size) s.size).toList == p.toList) with
    | true =>
      have e := hraw.out
      rw [h2, decide_eq_true h1, Bool.true_and] at e
      rw [← e, hhit.out h1 h2]
      clear e
      go_enter Try.func41, Try.ntmps41
      go_wp2
      go_ret2
      exact ⟨rfl, rfl⟩
    | false =>
      have e := hraw.out
      rw [h2, Bool.and_false] at e
      rw [← e, hmiss.out (by rw [h2, Bool.and_false])]
      clear e
      go_enter Try.func41, Try.ntmps41
      go_wp2
      go_ret2
      exact ⟨rfl, rfl⟩
  · have e := hraw.out
    rw [decide_eq_false h1, Bool.false_and] at e
    rw [← e, hmiss.out (by rw [decide_eq_false h1, Bool.false_and])]
    clear e
    go_enter Try.func41, Try.ntmps41
    go_wp2
    go_ret2
    exact ⟨rfl, rfl⟩
set_option maxHeartbeats 1000000 in
theorem inside_some (s : ByteArray) (m : List UInt8) (w : World) (hs : s.size ≤ 9223372036854775807) (h : Es.ins s.data.toList = some m) :
    Calls Try.prog 29 #[.string s] w fun e w' => e = .returned (.tuple #[.string ⟨m.toArray⟩, .bool true]) ∧ w' = w := by
  have hp := hidden (CutPrefix_any s ⟨#[34]⟩ w)
  rcases Es.ins_cut s.data.toList with ⟨m', h1, h2, h3, h4⟩ | ⟨h1, _⟩
  · obtain rfl : m = m' := by rw [h] at h1; exact Option.some.inj h1
    have hlen : (Lib.trimPrefix s.data.toList [34]).length ≤ s.size := by
      unfold Lib.trimPrefix
      rw [if_pos h2, List.length_drop]
      show s.size - _ ≤ _
      omega
    have hq := hidden (CutSuffix_any ⟨(Lib.trimPrefix s.data.toList [34]).toArray⟩ ⟨#[34]⟩ w (by show (Lib.trimPrefix s.data.toList [34]).toArray.size ≤ _; rw [List.size_toArray]; omega))
    have e1 : (⟨#[34]⟩ : ByteArray).data.toList = [34] := rfl
    rw [e1] at hp hq
    rw [h2] at hp
    rw [show (⟨(Lib.trimPrefix s.data.toList [34]).toArray⟩ : ByteArray).data.toList = Lib.trimPrefix s.data.toList [34] from rfl, h3, h4] at hq
    clear h h1 h2 h3 h4 e1 hlen
    go_enter Try.func29, Try.ntmps29
    go_wp2_with fail
    refine hp.out.mono ?_
    rintro e w1 ⟨rfl, rfl⟩
    go_wp2_with fail
    refine hq.out.mono ?_
    rintro e w2 ⟨rfl, rfl⟩
    go_wp2_with fail
    go_ret2
    exact ⟨rfl, rfl⟩
  · rw [h] at h1
    cases h1
set_option maxHeartbeats 1000000 in
theorem inside_none (s : ByteArray) (w : World) (hs : s.size ≤ 9223372036854775807) (h : Es.ins s.data.toList = none) :
    Calls Try.prog 29 #[.string s] w fun e w' => (∃ t, e = .returned (.tuple #[.string t, .bool false])) ∧ w' = w := by
  have hp := hidden (CutPrefix_any s ⟨#[34]⟩ w)
  rcases Es.ins_cut s.data.toList with ⟨m', h1, _⟩ | ⟨h1, h2⟩
  · rw [h] at h1
    cases h1
  · have hlen : (Lib.trimPrefix s.data.toList [34]).length ≤ s.size := by
      unfold Lib.trimPrefix
      split
      · rw [List.length_drop]
        show s.size - _ ≤ _
        omega
      · exact Nat.le_refl _
    have hq := hidden (CutSuffix_any ⟨(Lib.trimPrefix s.data.toList [34]).toArray⟩ ⟨#[34]⟩ w (by show (Lib.trimPrefix s.data.toList [34]).toArray.size ≤ _; rw [List.size_toArray]; omega))
    have e1 : (⟨#[34]⟩ : ByteArray).data.toList = [34] := rfl
    rw [e1] at hp hq
    rw [show (⟨(Lib.trimPrefix s.data.toList [34]).toArray⟩ : ByteArray).data.toList = Lib.trimPrefix s.data.toList [34] from rfl] at hq
    obtain ⟨b1, hb1⟩ : ∃ b, b = Lib.hasPrefix s.data.toList [34] := ⟨_, rfl⟩
    obtain ⟨b2, hb2⟩ : ∃ b, b = Lib.hasSuffix (Lib.trimPrefix s.data.toList [34]) [34] := ⟨_, rfl⟩
    rw [← hb1] at hp h2
    rw [← hb2] at hq h2
    clear h h1 e1 hlen hb1 hb2
    go_enter Try.func29, Try.ntmps29
    go_wp2_with fail
    refine hp.out.mono ?_
    rintro e w1 ⟨rfl, rfl⟩
    go_wp2_with fail
    refine hq.out.mono ?_
    rintro e w2 ⟨rfl, rfl⟩
    rcases h2 with rfl | rfl
    · go_wp2_with fail
      go_ret2
      exact ⟨⟨_, rfl⟩, rfl⟩
    · cases b1
      all_goals go_wp2_with fail
      all_goals go_ret2
      all_goals exact ⟨⟨_, rfl⟩, rfl⟩
end Go.Proofs.Ytjhjkahjljikhaa
