/-
  The contracts of package num's small functions over texts: sign, digits, first, unled: for every text; nothing in memory is changed.
-/
import Derived.WalkKit
import Derived.WalkSpells
import Derived.WalkLawsBesides
import Derived.Lib.Strings
import Derived.Lib.Walk
import Derived.Test.YthimbaflodphmaaDoorNuMath
namespace Go.Proofs.YthimbaflodphmaaDoor
open Go.RowKit
theorem hidden {p : Prop} (h : p) : Hid p := h
theorem ret_int {k : IntKind} {a b : Int} (h : a = b) : Ending.returned (.int k a) = .returned (.int k b) := by rw [h]
theorem ret_bool {a b : Bool} (h : a = b) : Ending.returned (.bool a) = .returned (.bool b) := by rw [h]
namespace Nu
/-- A list of bytes as a text. -/
def str (l : List UInt8) : ByteArray := ⟨l.toArray⟩
theorem str_size (l : List UInt8) : (str l).size = l.length := by simp [str, ByteArray.size]
theorem str_at (l : List UInt8) (i : Nat) (h : i < (str l).size) (h2 : i < l.length) : (str l)[i]'h = l[i]'h2 := by
  simp [str, ByteArray.getElem_eq_getElem_data]
theorem str_mt (l : List UInt8) : (str l).toList.isEmpty = l.isEmpty := by
  rw [Lib.toList_data]
  simp [str]
theorem str_open (l : List UInt8) : ∃ s : ByteArray, s = str l ∧ s.size = l.length ∧ ∀ (i : Nat) (h : i < s.size) (h2 : i < l.length), s[i]'h = l[i]'h2 := ⟨str l, rfl, str_size l, str_at l⟩
theorem str_of (s : ByteArray) : str s.data.toList = s := by simp [str]
theorem str_nil : str [] = ⟨#[]⟩ := rfl
theorem str_inj {a b : List UInt8} (h : str a = str b) : a = b := by
  simpa [str] using h
theorem str_extract (l : List UInt8) (a b : Nat) : (str l).extract a b = str ((l.drop a).take (b - a)) := by
  apply ByteArray.ext
  rw [ByteArray.data_extract]
  simp [str]
theorem str_to (l : List UInt8) (n : Nat) : (str l).extract 0 n = str (l.take n) := by
  rw [str_extract]
  simp
theorem str_from (l : List UInt8) (n : Nat) : (str l).extract n (str l).size = str (l.drop n) := by
  rw [str_extract, str_size, List.take_of_length_le (by simp)]
theorem run_from (l : List UInt8) (n : Nat) (h : n ≤ l.length) (w : World) :
    (Instr.slice 9 (.string (str l)) (some (.int .i64 (n : Int))) none none).run Tryd.prog w = .ok (.string (str (l.drop n))) w := by
  rw [run_slice_string_l w 9 (str l) Tryd.underlying9 .i64 n (by omega) (by rw [str_size]; omega), show ((n : Int)).toNat = n by omega, str_from]
theorem run_to (l : List UInt8) (n : Nat) (h : n ≤ l.length) (w : World) :
    (Instr.slice 9 (.string (str l)) none (some (.int .i64 (n : Int))) none).run Tryd.prog w = .ok (.string (str (l.take n))) w := by
  rw [run_slice_string_h w 9 (str l) Tryd.underlying9 .i64 n (by omega) (by rw [str_size]; omega), show ((n : Int)).toNat = n by omega, str_to]
end Nu
open Nu
set_option maxHeartbeats 1000000 in
theorem digits_any (l : List UInt8) (w : World) (hs : l.length ≤ 9223372036854775806) :
    Calls Tryd.prog 35 #[.string (str l)] w fun e w' => e = .returned (.int .i64 ((dc l : Nat) : Int)) ∧ w' = w := by
  have hgo := dc_go l
  have hstop := dc_stop l
  have hle := dc_le l
  obtain ⟨s, hS, hsz, hat⟩ := str_open l
  rw [← hS]
  generalize dc l = n at hgo hstop hle ⊢
  clear hS
  go_enter Tryd.func35, Tryd.ntmps35
  go_wp2_with fail
  go_loop [3] (fun v => ∃ k : Nat, k ≤ n ∧ v = .int .i64 k) (fun v => s.size - (intOf v).toNat)
  case atStart => exact ⟨0, by omega, rfl⟩
  case round =>
    obtain ⟨k, hk, rfl⟩ := hrel
    by_cases hlt : k < n
    · obtain ⟨h2, h3⟩ := hgo k hlt
      have h4 := hat k (by omega) h2
      have h5 := dig_le h3
      rw [← h4] at h5
      have h6 : k < s.size := by omega
      have H := hidden (And.intro hsz hlt)
      clear hgo hstop hat h3 h4
      go_wp2_with fail
      go_round
      case rel => exact ⟨k + 1, H.out.2, by go_num⟩
      case measure => simp [intOf]; omega
    · obtain rfl : k = n := by omega
      by_cases h6 : k < s.size
      · have h3 := hstop (by omega)
        rw [← hat k h6 (by omega)] at h3
        have h4 : (s[k]).toNat < 48 ∨ 57 < (s[k]).toNat := by
          unfold dig at h3
          rw [Bool.and_eq_false_iff, decide_eq_false_iff_not, decide_eq_false_iff_not] at h3
          omega
        clear hgo hstop hat h3
        rcases h4 with h4 | h4
        · go_wp2_with fail
          go_ret
          exact ⟨rfl, rfl⟩
        · have h5 : 48 ≤ (s[k]).toNat := by omega
          go_wp2_with fail
          go_ret
          exact ⟨rfl, rfl⟩
      · clear hgo hstop hat
        go_wp2_with fail
        go_ret
        exact ⟨rfl, rfl⟩
theorem first_any (l : List UInt8) (w : World) :
    Calls Tryd.prog 36 #[.string (str l)] w fun e w' => e = .returned (.int .u8 (((l.headD 0).toNat : Nat) : Int)) ∧ w' = w := by
  have he := str_mt l
  obtain ⟨s, hS, hsz, hat⟩ := str_open l
  rw [← hS] at he
  rw [← hS]
  clear hS
  cases l with
  | nil =>
    rw [List.isEmpty_nil] at he
    clear hat
    go_enter Tryd.func36, Tryd.ntmps36
    go_wp2_with fail
    go_ret
    exact ⟨rfl, rfl⟩
  | cons c m =>
    rw [List.isEmpty_cons] at he
    have h1 : 0 < s.size := by rw [hsz]; simp
    have h2 := hat 0 h1 (by simp)
    rw [List.getElem_cons_zero] at h2
    have H2 := hidden h2
    clear hat h2
    go_enter Tryd.func36, Tryd.ntmps36
    go_wp2_with fail
    go_ret
    rw [H2.out]
    exact ⟨rfl, rfl⟩
set_option maxHeartbeats 1000000 in
theorem trimLeftByte_any (l : List UInt8) (w : World) :
    Calls Tryd.prog 51 #[.string (str l), .int .u8 48] w fun e w' => e = .returned (.string (str (unled l))) ∧ w' = w := by
  go_enter Tryd.func51, Tryd.ntmps51
  go_wp2_with fail
  go_loop [0] (fun v => ∃ m : List UInt8, unled m = unled l ∧ m.length ≤ l.length ∧ v = .string (str m)) (fun v => match v with | .string s => s.size | _ => 0)
  case atStart => exact ⟨l, rfl, Nat.le_refl _, rfl⟩
  case round =>
    obtain ⟨m, hm, hl, rfl⟩ := hrel
    have hfr := str_from m 1
    have HU := hidden hm
    obtain ⟨s, hS, hsz, hat⟩ := str_open m
    rw [← hS] at hfr
    rw [← hS]
    have HS := hidden hS
    clear hm hS
    cases m with
    | nil =>
      clear hat hfr
      rw [List.length_nil] at hsz
      go_wp2_with fail
      go_ret
      rw [← HU.out, HS.out]
      exact ⟨rfl, rfl⟩
    | cons c m =>
      have h1 : 0 < s.size := by rw [hsz]; simp
      have h2 := hat 0 h1 (by simp)
      rw [List.getElem_cons_zero] at h2
      rw [List.drop_one, List.tail_cons] at hfr
      rw [List.length_cons] at hl
      have hsl : ∀ w, (Instr.slice 9 (.string s) (some (.int .i64 1)) none none).run Tryd.prog w = .ok (.string (str m)) w := fun w => by
        rw [HS.out]
        exact run_from (c :: m) 1 (by simp) w
      by_cases hc : c = 48
      · subst hc
        have h3 : (s[0]'h1).toNat = 48 := by rw [h2]; rfl
        have H := hidden (And.intro hsz hl)
        clear hat h2 hfr hsz
        go_wp2_with fail
        go_round
        case rel => exact ⟨m, HU.out, by omega, rfl⟩
        case measure => 
          have := H.out
          have := str_size m
          simp at *
          omega
      · have h3 : (s[0]'h1).toNat ≠ 48 := by
          rw [h2]
          intro e
          exact hc (UInt8.toNat_inj.1 (by simpa using e))
        have h4 : unled (c :: m) = c :: m := by rw [unled, if_neg (by simpa using hc)]
        have H := hidden h4
        clear hat h2 hfr hsz h4 hsl
        go_wp2_with fail
        go_ret
        rw [← HU.out, H.out, ← HS.out]
        exact ⟨rfl, rfl⟩
set_option maxRecDepth 100000 in
theorem unled_any (l : List UInt8) (w : World) :
    Calls Tryd.prog 37 #[.string (str l)] w fun e w' => e = .returned (.string (str (unled l))) ∧ w' = w := by
  have he := str_mt l
  by_cases hl : l = []
  · subst hl
    rw [List.isEmpty_nil] at he
    go_enter Tryd.func37, Tryd.ntmps37
    go_wp2
    go_ret
    exact ⟨rfl, rfl⟩
  · have hl2 : l.isEmpty = false := by simpa using hl
    rw [hl2] at he
    clear hl hl2
    go_enter Tryd.func37, Tryd.ntmps37
    go_wp2_with (first
      | (go_at_call 51; refine (trimLeftByte_any l _).mono ?_; rintro e w' ⟨rfl, rfl⟩)
      | go_in)
    go_ret
    exact ⟨rfl, rfl⟩
set_option maxHeartbeats 1000000 in
theorem sign_any (l : List UInt8) (c : UInt8) (w : World) :
    Calls Tryd.prog 34 #[.string (str l), .string (str [c])] w fun e w' => e = .returned (.tuple #[.bool (has c l), .string (str (off c l))]) ∧ w' = w := by
  have hc1 := str_size [c]
  rw [List.length_cons, List.length_nil] at hc1
  have hcl : (str [c]).toList = [c] := by rw [Lib.toList_data]; rfl
  have hsz := str_size l
  cases l with
  | nil =>
    rw [List.length_nil] at hsz
    go_enter Tryd.func34, Tryd.ntmps34
    go_wp2
    go_ret2
    exact ⟨rfl, rfl⟩
  | cons x m =>
    rw [List.length_cons] at hsz
    have h1 : (str (x :: m)).extract 0 1 = str [x] := by rw [str_to]; simp
    have h2 : (str (x :: m)).extract 1 (m.length + 1) = str m := by rw [str_extract]; simp
    have hxl : (str [x]).toList = [x] := by rw [Lib.toList_data]; rfl
    have ho : off c (x :: m) = if x == c then m else x :: m := rfl
    have hh : has c (x :: m) = (x == c) := rfl
    by_cases hx : x = c
    · subst hx
      rw [show (x == x) = true by simp] at ho hh
      rw [if_pos rfl] at ho
      rw [ho, hh]
      have hb : ([x] == [x]) = true := by simp
      clear ho hh
      go_enter Tryd.func34, Tryd.ntmps34
      go_wp2
      go_ret2
      exact ⟨rfl, rfl⟩
    · have hx2 : (x == c) = false := by simpa using hx
      rw [hx2] at ho hh
      rw [if_neg (by simp)] at ho
      rw [ho, hh]
      have hb : ([x] == [c]) = false := by simpa using hx
      clear ho hh
      go_enter Tryd.func34, Tryd.ntmps34
      go_wp2
      go_ret2
      exact ⟨rfl, rfl⟩
end Go.Proofs.YthimbaflodphmaaDoor
