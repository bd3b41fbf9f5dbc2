/-
  The contracts of package esc's shortest, between, Quote and Single: for every text; nothing that was there is changed.
-/
import Derived.Test.YtjhjkahjljikhaaEsText
import Derived.Test.YtjhjkahjljikhaaUtRefP
namespace Go.Proofs.Ytjhjkahjljikhaa
open Go.RowKit Go.Shelf
namespace Es
theorem nums_list (xs : List Nat) : strOfNums (xs.map fun n : Nat => (n : Int)) = ⟨(xs.map UInt8.ofNat).toArray⟩ := by
  unfold strOfNums
  rw [List.map_map]
  rfl
theorem bytes_app (a b : List UInt8) : (⟨a.toArray⟩ : ByteArray) ++ ⟨b.toArray⟩ = ⟨(a ++ b).toArray⟩ := by
  apply ByteArray.ext
  rw [ByteArray.data_append]
  simp
theorem ret_str {a b : ByteArray} (h : a = b) : Ending.returned (.string a) = .returned (.string b) := by rw [h]
theorem hex_get (d : Nat) (h : d < 16) (h2 : d < (⟨#[48, 49, 50, 51, 52, 53, 54, 55, 56, 57, 97, 98, 99, 100, 101, 102]⟩ : ByteArray).size) : ((⟨#[48, 49, 50, 51, 52, 53, 54, 55, 56, 57, 97, 98, 99, 100, 101, 102]⟩ : ByteArray)[d]'h2).toNat = dg d := by
  obtain rfl | rfl | rfl | rfl | rfl | rfl | rfl | rfl | rfl | rfl | rfl | rfl | rfl | rfl | rfl | rfl : d = 0 ∨ d = 1 ∨ d = 2 ∨ d = 3 ∨ d = 4 ∨ d = 5 ∨ d = 6 ∨ d = 7 ∨ d = 8 ∨ d = 9 ∨ d = 10 ∨ d = 11 ∨ d = 12 ∨ d = 13 ∨ d = 14 ∨ d = 15 := by omega
  all_goals rfl
end Es
set_option maxHeartbeats 2000000 in
set_option maxRecDepth 100000 in
theorem shortest_any (m b : Nat) (w : World) (hb : b < 256) :
    Calls Try.prog 39 #[.int .u8 (m : Nat), .int .u8 (b : Nat)] w fun e w' => e = .returned (.string ⟨(Es.sh m b).toArray⟩) ∧ Below w.heap.size w w' := by
  have b1 : ∀ (x : Int) (u : World), _ := fun x u => bytes_new [x] 1 #[.int .u8 x] rfl rfl u
  have b2 : ∀ (x y : Int) (u : World), _ := fun x y u => bytes_new [x, y] 2 #[.int .u8 x, .int .u8 y] rfl rfl u
  unfold Es.sh
  by_cases h1 : b = m
  · subst h1
    rw [if_pos (.inl rfl)]
    have hsz : ∀ p : Int, (strOfNums [p]).size = 1 := fun _ => rfl
    clear b2
    go_enter Try.func39, Try.ntmps39
    go_wp2
    go_ret
    refine ⟨Es.ret_str ?_, (Below.refl _ _).alloc (Nat.le_refl _) _⟩
    exact (congrArg (fun x => (⟨#[92]⟩ : ByteArray) ++ x) (Es.nums_list [b])).trans (Es.bytes_app [92] [UInt8.ofNat b])
  by_cases h2 : b = 92
  · subst h2
    rw [if_pos (.inr rfl)]
    have hm : ((92 : Int) == (m : Int)) = false := by rw [beq_eq_false_iff_ne]; omega
    have hsz : ∀ p : Int, (strOfNums [p]).size = 1 := fun _ => rfl
    clear b2
    go_enter Try.func39, Try.ntmps39
    go_wp2
    go_ret
    refine ⟨Es.ret_str ?_, (Below.refl _ _).alloc (Nat.le_refl _) _⟩
    exact (congrArg (fun x => (⟨#[92]⟩ : ByteArray) ++ x) (Es.nums_list [92])).trans (Es.bytes_app [92] [UInt8.ofNat 92])
  rw [if_neg (by omega)]
  have hm : ((b : Int) == (m : Int)) = false := by rw [beq_eq_false_iff_ne]; omega
  have h92 : ((b : Int) == 92) = false := by rw [beq_eq_false_iff_ne]; omega
  by_cases h3 : b = 8
  · subst h3
    rw [if_pos rfl]
    clear b1 b2
    go_enter Try.func39, Try.ntmps39
    go_wp2
    go_ret
    exact ⟨rfl, Below.refl _ _⟩
  rw [if_neg h3]
  by_cases h4 : b = 12
  · subst h4
    rw [if_pos rfl]
    clear b1 b2
    go_enter Try.func39, Try.ntmps39
    go_wp2
    go_ret
    exact ⟨rfl, Below.refl _ _⟩
  rw [if_neg h4]
  by_cases h5 : b = 10
  · subst h5
    rw [if_pos rfl]
    clear b1 b2
    go_enter Try.func39, Try.ntmps39
    go_wp2
    go_ret
    exact ⟨rfl, Below.refl _ _⟩
  rw [if_neg h5]
  by_cases h6 : b = 13
  · subst h6
    rw [if_pos rfl]
    clear b1 b2
    go_enter Try.func39, Try.ntmps39
    go_wp2
    go_ret
    exact ⟨rfl, Below.refl _ _⟩
  rw [if_neg h6]
  by_cases h7 : b = 9
  · subst h7
    rw [if_pos rfl]
    clear b1 b2
    go_enter Try.func39, Try.ntmps39
    go_wp2
    go_ret
    exact ⟨rfl, Below.refl _ _⟩
  rw [if_neg h7]
  have e3 : ((b : Int) == 8) = false := by rw [beq_eq_false_iff_ne]; omega
  have e4 : ((b : Int) == 12) = false := by rw [beq_eq_false_iff_ne]; omega
  have e5 : ((b : Int) == 10) = false := by rw [beq_eq_false_iff_ne]; omega
  have e6 : ((b : Int) == 13) = false := by rw [beq_eq_false_iff_ne]; omega
  have e7 : ((b : Int) == 9) = false := by rw [beq_eq_false_iff_ne]; omega
  clear h1 h2 h3 h4 h5 h6 h7
  by_cases h8 : b < 32
  · rw [if_pos h8]
    clear b1
    have hand : bits .and .u8 (b : Int) 15 = ((b % 16 : Nat) : Int) := by
      have e := Ut.and_u8 b 15 hb (by omega)
      rw [show b &&& 15 = b % 16 from Nat.and_two_pow_sub_one_eq_mod b 4] at e
      exact e
    obtain ⟨x, hx⟩ : ∃ x, x = b / 16 := ⟨_, rfl⟩
    obtain ⟨y, hy⟩ : ∃ y, y = b % 16 := ⟨_, rfl⟩
    have hdiv : (b : Int) / 16 = (x : Int) := by omega
    have hx16 : x < 16 := by omega
    have hy16 : y < 16 := by omega
    have b2d : ∀ (p q : Int) (u : World), Sem.run Try.prog (convert 33 9 (.slice (some ⟨u.heap.size, 0, none⟩) 2 2)) (u.alloc (.cells #[.int .u8 p, .int .u8 q] 5)).drew = .ok (.string (strOfNums [p, q])) (u.alloc (.cells #[.int .u8 p, .int .u8 q] 5)).drew := fun p q u => bytes_new [p, q] 2 #[.int .u8 p, .int .u8 q] rfl rfl u.drew
    have hsz : ∀ p q : Int, (strOfNums [p, q]).size = 2 := fun _ _ => rfl
    clear b2
    have hxi : (x : Int) < 16 := by omega
    have hyi : (y : Int) < 16 := by omega
    rw [← hy] at hand
    rw [← hx, ← hy]
    clear hx hy
    go_enter Try.func39, Try.ntmps39
    go_wp2
    go_region
    go_wp2
    go_ret
    refine ⟨Es.ret_str ?_, ((Below.refl _ _).alloc (Nat.le_refl _) _).drew⟩
    rw [Es.hex_get x hx16, Es.hex_get y hy16]
    exact (congrArg (fun x => (⟨#[92, 117, 48, 48]⟩ : ByteArray) ++ x) (Es.nums_list [Es.dg x, Es.dg y])).trans (Es.bytes_app [92, 117, 48, 48] [UInt8.ofNat (Es.dg x), UInt8.ofNat (Es.dg y)])
  · rw [if_neg h8]
    have hsz : ∀ p : Int, (strOfNums [p]).size = 1 := fun _ => rfl
    clear b2
    go_enter Try.func39, Try.ntmps39
    go_wp2
    go_ret
    exact ⟨Es.ret_str (Es.nums_list [b]), (Below.refl _ _).alloc (Nat.le_refl _) _⟩
namespace Es
/-- What between tells. -/
def bt (m : Nat) (l : List UInt8) : List UInt8 := if Ut.run 0 l = 0 then qu m l else []
def be (l : List UInt8) : Int := if Ut.run 0 l = 0 then 0 else 3
theorem shs_le (m : Nat) (l : List UInt8) : (shs m l).length ≤ 6 * l.length := by
  induction l with
  | nil => exact Nat.zero_le _
  | cons b l ih =>
    rw [shs_cons, List.length_append, List.length_cons]
    have := (sh_len m b.toNat).2
    omega
theorem shs_next (m : Nat) (s : ByteArray) (k : Nat) (h : k < s.size) : shs m (s.data.toList.take (k + 1)) = shs m (s.data.toList.take k) ++ sh m s[k].toNat := by
  rw [List.take_add_one, List.getElem?_eq_getElem (show k < s.data.toList.length from h), shs_append]
  show _ ++ shs m [s.data.toList[k]] = _
  rw [shs_cons, shs_nil, List.append_nil]
  rfl
end Es
set_option maxHeartbeats 2000000 in
set_option maxRecDepth 100000 in
theorem between_any (m : Nat) (s : ByteArray) (w : World) (hm : m < 256) (hs : s.size ≤ 1000000) :
    Calls Try.prog 26 #[.int .u8 (m : Nat), .string s] w fun e w' => e = .returned (.tuple #[.string ⟨(Es.bt m s.data.toList).toArray⟩, .int .i64 (Es.be s.data.toList)]) ∧ Below w.heap.size w w' := by
  have HR := hidden (Right_any s w (by omega))
  unfold Es.bt Es.be
  by_cases hr : Ut.run 0 s.data.toList = 0
  · rw [if_pos hr, if_pos hr]
    rw [hr] at HR
    clear hr
    go_enter Try.func26, Try.ntmps26
    go_wp2_with fail
    refine HR.out.mono ?_
    rintro e w1 ⟨rfl, rfl⟩
    go_wp2_with fail
    obtain ⟨w0, hw0⟩ : ∃ w0, w0 = w1.alloc (.cells #[.pointer none, .slice none 0 0] 37) := ⟨_, rfl⟩
    have hb0 : Below w1.heap.size w1 w0 := by rw [hw0]; exact (Below.refl _ _).alloc (Nat.le_refl _) _
    have he0 : Eb w1.heap.size w1.heap.size [] w0 := by
      rw [hw0]
      exact Eb.fresh _ _ _ (Nat.le_refl _) (heap_new_at rfl)
    have hsz0 : w1.heap.size ≤ w0.heap.size := hb0.size
    rw [← hw0]
    have HB0 := hidden hb0
    clear hw0 hb0
    refine (kWriteB w1.heap.size w1.heap.size [] (UInt8.ofNat m) (m : Int) w0 he0 (by rw [Ut.toNat_ofNat _ hm]) (by decide) hsz0).mono ?_
    rintro e w2 ⟨rfl, he2, hk2⟩
    have HE2 := hidden he2
    have HB2 := hidden (HB0.out.trans hk2.1)
    clear he2 hk2 he0
    go_wp2_with fail
    go_loopw [15] (fun i wr => ∃ k : Nat, k ≤ s.size ∧ i = .int .i64 k ∧ Eb w1.heap.size w1.heap.size (UInt8.ofNat m :: Es.shs m (s.data.toList.take k)) wr ∧ Below w1.heap.size w1 wr) (fun i _ => s.size - (intOf i).toNat)
    case atStart => exact ⟨0, Nat.zero_le _, rfl, HE2.out, HB2.out⟩
    case round =>
      obtain ⟨k, hk, rfl, hE, hB⟩ := hrel
      have HE := hidden hE
      have HB := hidden hB
      have hsz := hB.size
      have hlen : (Es.shs m (s.data.toList.take k)).length ≤ 6000000 := by
        have h1 := Es.shs_le m (s.data.toList.take k)
        rw [List.length_take] at h1
        have h2 : s.data.toList.length = s.size := rfl
        omega
      clear hE hB
      by_cases hlt : k < s.size
      · have HN := hidden (Es.shs_next m s k hlt)
        have hb := s[k].toNat_lt
        go_wp2_with fail
        refine (shortest_any m s[k].toNat wr hb).mono ?_
        rintro e w3 ⟨rfl, hb3⟩
        have HE3 := hidden (HE.out.below hb3)
        have HB3 := hidden (Es.below_after HB.out hb3)
        have hsz3 := HB3.out.size
        have hl2 := (Es.sh_len m s[k].toNat).2
        have HW := hidden (kWriteS w1.heap.size w1.heap.size (UInt8.ofNat m :: Es.shs m (s.data.toList.take k)) (Es.sh m s[k].toNat) ⟨(Es.sh m s[k].toNat).toArray⟩ w3 HE3.out rfl (by rw [List.length_cons]; omega) hsz3)
        clear hb3
        go_wp2_with fail
        refine HW.out.mono ?_
        rintro e w4 ⟨rfl, hE4, hk4⟩
        have HE4 := hidden hE4
        have HB4 := hidden (HB3.out.trans hk4.1)
        clear hE4 hk4 HW
        go_wp2_with fail
        go_roundw
        case rel => exact ⟨k + 1, hlt, by go_num, by rw [HN.out]; exact HE4.out, HB4.out⟩
        case measure => simp [intOf]; omega
      · obtain rfl : k = s.size := by omega
        have HW := hidden (kWriteB w1.heap.size w1.heap.size (UInt8.ofNat m :: Es.shs m (s.data.toList.take s.size)) (UInt8.ofNat m) (m : Int) wr HE.out (by rw [Ut.toNat_ofNat _ hm]) (by rw [List.length_cons]; omega) hsz)
        have HT : Hid (s.data.toList.take s.size = s.data.toList) := hidden (List.take_length ..)
        go_wp2_with fail
        refine HW.out.mono ?_
        rintro e w4 ⟨rfl, hE4, hk4⟩
        have HE4 := hidden hE4
        have HB4 := hidden (HB.out.trans hk4.1)
        have hsz4 := HB4.out.size
        clear hE4 hk4 HW
        go_wp2_with fail
        refine (kString w1.heap.size w1.heap.size _ w4 HE4.out hsz4).mono ?_
        rintro e w5 ⟨rfl, _, hk5⟩
        have HB5 := hidden (HB4.out.trans hk5.1)
        clear hk5
        go_wp2_with fail
        go_ret2
        refine ⟨?_, HB5.out⟩
        rw [HT.out]
        rfl
  · rw [if_neg hr, if_neg hr]
    have hb : (Ut.run 0 s.data.toList == 0) = false := by rw [beq_eq_false_iff_ne]; exact hr
    rw [hb] at HR
    clear hr hb
    go_enter Try.func26, Try.ntmps26
    go_wp2_with fail
    refine HR.out.mono ?_
    rintro e w1 ⟨rfl, rfl⟩
    go_wp2_with fail
    go_ret2
    exact ⟨rfl, Below.refl _ _⟩
set_option maxHeartbeats 1000000 in
theorem esQuote_any (s : ByteArray) (w : World) (hs : s.size ≤ 1000000) :
    Calls Try.prog 14 #[.string s] w fun e w' => e = .returned (.tuple #[.string ⟨(Es.bt 34 s.data.toList).toArray⟩, .int .i64 (Es.be s.data.toList)]) ∧ Below w.heap.size w w' := by
  have HB := hidden (between_any 34 s w (by decide) hs)
  go_enter Try.func14, Try.ntmps14
  go_wp2_with fail
  refine HB.out.mono ?_
  rintro e w1 ⟨rfl, hb⟩
  have HB1 := hidden hb
  clear hb
  go_wp2_with fail
  go_ret2
  exact ⟨rfl, HB1.out⟩
set_option maxHeartbeats 1000000 in
theorem esSingle_any (s : ByteArray) (w : World) (hs : s.size ≤ 1000000) :
    Calls Try.prog 15 #[.string s] w fun e w' => e = .returned (.tuple #[.string ⟨(Es.bt 39 s.data.toList).toArray⟩, .int .i64 (Es.be s.data.toList)]) ∧ Below w.heap.size w w' := by
  have HB := hidden (between_any 39 s w (by decide) hs)
  go_enter Try.func15, Try.ntmps15
  go_wp2_with fail
  refine HB.out.mono ?_
  rintro e w1 ⟨rfl, hb⟩
  have HB1 := hidden hb
  clear hb
  go_wp2_with fail
  go_ret2
  exact ⟨rfl, HB1.out⟩
end Go.Proofs.Ytjhjkahjljikhaa
