/-
  The contracts of laceworkref11's Between and Quote: of every text of at most 10000 bytes; nothing that was there is changed.
-/
import Derived.Test.YtjhjkahjljikhaaEsRefS
namespace Go.Proofs.Ytjhjkahjljikhaa
open Go.RowKit
namespace Es
/-- The signs of what is written by two bytes, and their place. -/
def wl (j : Nat) : Nat := match j with | 0 => 8 | 1 => 12 | 2 => 10 | 3 => 13 | _ => 9
def vl (j : Nat) : Nat := match j with | 0 => 98 | 1 => 102 | 2 => 110 | 3 => 114 | _ => 116
def wi (b : Nat) : Nat := if b = 8 then 0 else if b = 12 then 1 else if b = 10 then 2 else if b = 13 then 3 else if b = 9 then 4 else 5
theorem five {j : Nat} (h : j < 5) : j = 0 ∨ j = 1 ∨ j = 2 ∨ j = 3 ∨ j = 4 := by omega
theorem wi_at (b j : Nat) (h : j < 5) : wl j = b ↔ wi b = j := by
  unfold wi
  rcases five h with rfl | rfl | rfl | rfl | rfl
  all_goals simp only [wl]
  all_goals repeat' split
  all_goals omega
theorem wi_le (b : Nat) : wi b ≤ 5 := by
  unfold wi
  repeat' split
  all_goals omega
theorem vl_lt (j : Nat) : vl j < 256 := by
  unfold vl
  split <;> decide
theorem wl_at (j : Nat) (h : j < 5) (h2 : j < (⟨#[8, 12, 10, 13, 9]⟩ : ByteArray).size) : ((⟨#[8, 12, 10, 13, 9]⟩ : ByteArray)[j]'h2).toNat = wl j := by
  rcases five h with rfl | rfl | rfl | rfl | rfl <;> rfl
theorem vl_at (j : Nat) (h : j < 5) (h2 : j < (⟨#[98, 102, 110, 114, 116]⟩ : ByteArray).size) : ((⟨#[98, 102, 110, 114, 116]⟩ : ByteArray)[j]'h2).toNat = vl j := by
  rcases five h with rfl | rfl | rfl | rfl | rfl <;> rfl
theorem sh_mark (m b : Nat) (h : b = m ∨ b = 92) : sh m b = [92, UInt8.ofNat b] := if_pos h
theorem sh_sign (m b j : Nat) (h : ¬ (b = m ∨ b = 92)) (hj : j < 5) (hb : wi b = j) : sh m b = [92, UInt8.ofNat (vl j)] := by
  have e := (wi_at b j hj).2 hb
  unfold sh
  rw [if_neg h]
  subst e
  rcases five hj with rfl | rfl | rfl | rfl | rfl <;> rfl
theorem sh_none (m b : Nat) (h : ¬ (b = m ∨ b = 92)) (hb : wi b = 5) : sh m b = if b < 32 then [92, 117, 48, 48, UInt8.ofNat (dg (b / 16)), UInt8.ofNat (dg (b % 16))] else [UInt8.ofNat b] := by
  have e : ∀ j, j < 5 → wl j ≠ b := fun j hj h2 => by
    have := (wi_at b j hj).1 h2
    omega
  have e0 := e 0 (by decide)
  have e1 := e 1 (by decide)
  have e2 := e 2 (by decide)
  have e3 := e 3 (by decide)
  have e4 := e 4 (by decide)
  simp only [wl] at e0 e1 e2 e3 e4
  unfold sh
  rw [if_neg h, if_neg (by omega), if_neg (by omega), if_neg (by omega), if_neg (by omega), if_neg (by omega)]
end Es
set_option maxRecDepth 100000 in
set_option maxHeartbeats 8000000 in
theorem rBetween_any (t : ByteArray) (m : Nat) (w : World) (hs : t.size ≤ 10000) :
    Calls Try.prog 18 #[.string t, .int .u8 (m : Nat)] w fun e w' => e = .returned (.string ⟨(Es.qu m t.data.toList).toArray⟩) ∧ Below w.heap.size w w' := by
  have b1 : ∀ (x : Int) (u : World), _ := fun x u => bytes_new [x] 1 #[.int .u8 x] rfl rfl u
  have z1 : ∀ x : Int, (strOfNums [x]).size = 1 := fun _ => rfl
  go_enter Try.func18, Try.ntmps18
  go_wp2_with fail
  go_loopw [5, 6] (fun v i wr => ∃ (k : Nat) (T : ByteArray), k ≤ t.size ∧ i = .int .i64 k ∧ v = .string T ∧ T = ⟨(UInt8.ofNat m :: Es.shs m (t.data.toList.take k)).toArray⟩ ∧ Below w.heap.size w wr) (fun _ i _ => t.size - (intOf i).toNat)
  case atStart =>
    exact ⟨0, _, Nat.zero_le _, rfl, rfl, Es.nums_list [m], (Below.refl _ _).alloc (Nat.le_refl _) _⟩
  case round =>
    obtain ⟨k, T, hk, rfl, rfl, hT, hB⟩ := hrel
    have hTs : T.size ≤ 60001 := by
      rw [hT]
      show (UInt8.ofNat m :: Es.shs m (t.data.toList.take k)).toArray.size ≤ _
      rw [List.size_toArray, List.length_cons]
      have h1 := Es.shs_le m (t.data.toList.take k)
      rw [List.length_take] at h1
      have h2 : t.data.toList.length = t.size := rfl
      omega
    have HT := hidden hT
    have HB := hidden hB
    have hsz := hB.size
    clear hT hB
    by_cases hlt : k < t.size
    ·
      --round
      have b2 : ∀ (x y : Int) (u : World), _ := fun x y u => bytes_new [x, y] 2 #[.int .u8 x, .int .u8 y] rfl rfl u
      have z2 : ∀ x y : Int, (strOfNums [x, y]).size = 2 := fun _ _ => rfl
      have hb := t[k].toNat_lt
      have HN := hidden (Es.shs_next m t k hlt)
      obtain ⟨c, hc⟩ : ∃ c, c = t[k].toNat := ⟨_, rfl⟩
      have hck : t[k].toNat = c := hc.symm
      rw [hck] at hb HN
      clear hc
      go_wp2_with fail
      go_loop [10] (fun v => ∃ j : Nat, v = .int .i64 j ∧ j ≤ Es.wi c ∧ j ≤ 5) (fun v => 5 - (intOf v).toNat)
      case atStart => exact ⟨0, rfl, Nat.zero_le _, Nat.zero_le _⟩
      case round =>
        obtain ⟨j, rfl, hj, hj5⟩ := hrel
        by_cases hlt5 : j < 5
        · have hlti : (j : Int) < 5 := by omega
          obtain ⟨g, hg⟩ : ∃ g, g = Es.wl j := ⟨_, rfl⟩
          have hsj : ∀ (h : j < (⟨#[8, 12, 10, 13, 9]⟩ : ByteArray).size), ((⟨#[8, 12, 10, 13, 9]⟩ : ByteArray)[j]'h).toNat = g := fun h => by rw [hg]; exact Es.wl_at j hlt5 h
          by_cases hje : Es.wi c = j
          · have hgb : g = c := by rw [hg]; exact (Es.wi_at _ j hlt5).2 hje
            have hne : ((g : Int) != (c : Int)) = false := by rw [hgb]; simp
            have hne2 : (g != c) = false := by rw [hgb]; simp
            have HJ := hidden hje
            by_cases ha : c = m
            · have dm : ((c : Int) == (m : Int)) = true := by rw [beq_iff_eq]; omega
              have HSH := hidden (show Es.sh m c = [92, c].map UInt8.ofNat from Es.sh_mark m c (.inl ha))
              clear ha b1 z1 hg hgb hj hje HJ
              go_wp2_with fail
              go_roundw
              case rel =>
                refine ⟨k + 1, T ++ strOfNums [92, (c : Int)], hlt, by go_num, rfl, ?_, HB.out.alloc hsz _⟩
                rw [HT.out, HN.out, HSH.out]
                exact (congrArg (fun x => (⟨(UInt8.ofNat m :: Es.shs m (t.data.toList.take k)).toArray⟩ : ByteArray) ++ x) (Es.nums_list [92, c])).trans (Es.bytes_app _ _)
              case measure => simp [intOf]; omega
            by_cases ha2 : c = 92
            · have dm : ((c : Int) == (m : Int)) = false := by rw [beq_eq_false_iff_ne]; omega
              have d2 : ((c : Int) == 92) = true := by rw [beq_iff_eq]; omega
              have HSH := hidden (show Es.sh m c = [92, c].map UInt8.ofNat from Es.sh_mark m c (.inr ha2))
              clear ha ha2 b1 z1 hg hgb hj hje HJ
              go_wp2_with fail
              go_roundw
              case rel =>
                refine ⟨k + 1, T ++ strOfNums [92, (c : Int)], hlt, by go_num, rfl, ?_, HB.out.alloc hsz _⟩
                rw [HT.out, HN.out, HSH.out]
                exact (congrArg (fun x => (⟨(UInt8.ofNat m :: Es.shs m (t.data.toList.take k)).toArray⟩ : ByteArray) ++ x) (Es.nums_list [92, c])).trans (Es.bytes_app _ _)
              case measure => simp [intOf]; omega
            have dm : ((c : Int) == (m : Int)) = false := by rw [beq_eq_false_iff_ne]; omega
            have d2 : ((c : Int) == 92) = false := by rw [beq_eq_false_iff_ne]; omega

            obtain ⟨v, hv⟩ : ∃ v, v = Es.vl j := ⟨_, rfl⟩
            have hv8 : v < 256 := by rw [hv]; exact Es.vl_lt j
            have hvj : ∀ (h : j < (⟨#[98, 102, 110, 114, 116]⟩ : ByteArray).size), ((⟨#[98, 102, 110, 114, 116]⟩ : ByteArray)[j]'h).toNat = v := fun h => by rw [hv]; exact Es.vl_at j hlt5 h
            have h5 : decide ((j : Int) < 5) = true := decide_eq_true hlti

            have HSH := hidden (show Es.sh m c = [92, v].map UInt8.ofNat from by rw [Es.sh_sign m c j (by omega) hlt5 hje, ← hv]; rfl)
            clear ha ha2 hv b1 z1 hg hgb hj hje HJ
            go_wp2_with fail
            go_roundw
            case rel =>
              refine ⟨k + 1, T ++ strOfNums [92, (v : Int)], hlt, by go_num, rfl, ?_, HB.out.alloc hsz _⟩
              rw [HT.out, HN.out, HSH.out]
              exact (congrArg (fun x => (⟨(UInt8.ofNat m :: Es.shs m (t.data.toList.take k)).toArray⟩ : ByteArray) ++ x) (Es.nums_list [92, v])).trans (Es.bytes_app _ _)
            case measure => simp [intOf]; omega
          · have hgb : g ≠ c := fun h => hje ((Es.wi_at _ j hlt5).1 (by rw [← hg]; exact h))
            have hne : ((g : Int) != (c : Int)) = true := by rw [bne_iff_ne]; omega
            have hne2 : (g != c) = true := by rw [bne_iff_ne]; exact hgb
            clear hg hgb
            go_wp2_with fail
            go_round
            case rel => exact ⟨j + 1, by go_num, by omega, by omega⟩
            case measure => simp [intOf]; omega
        · obtain rfl : j = 5 := by omega
          have hw5 : Es.wi c = 5 := by have := Es.wi_le c; omega
          by_cases ha : c = m
          · have dm : ((c : Int) == (m : Int)) = true := by rw [beq_iff_eq]; omega
            have HSH := hidden (show Es.sh m c = [92, c].map UInt8.ofNat from Es.sh_mark m c (.inl ha))
            clear ha b1 z1 hj hw5
            go_wp2_with fail
            go_roundw
            case rel =>
              refine ⟨k + 1, T ++ strOfNums [92, (c : Int)], hlt, by go_num, rfl, ?_, HB.out.alloc hsz _⟩
              rw [HT.out, HN.out, HSH.out]
              exact (congrArg (fun x => (⟨(UInt8.ofNat m :: Es.shs m (t.data.toList.take k)).toArray⟩ : ByteArray) ++ x) (Es.nums_list [92, c])).trans (Es.bytes_app _ _)
            case measure => simp [intOf]; omega
          by_cases ha2 : c = 92
          · have dm : ((c : Int) == (m : Int)) = false := by rw [beq_eq_false_iff_ne]; omega
            have d2 : ((c : Int) == 92) = true := by rw [beq_iff_eq]; omega
            have HSH := hidden (show Es.sh m c = [92, c].map UInt8.ofNat from Es.sh_mark m c (.inr ha2))
            clear ha ha2 b1 z1 hj hw5
            go_wp2_with fail
            go_roundw
            case rel =>
              refine ⟨k + 1, T ++ strOfNums [92, (c : Int)], hlt, by go_num, rfl, ?_, HB.out.alloc hsz _⟩
              rw [HT.out, HN.out, HSH.out]
              exact (congrArg (fun x => (⟨(UInt8.ofNat m :: Es.shs m (t.data.toList.take k)).toArray⟩ : ByteArray) ++ x) (Es.nums_list [92, c])).trans (Es.bytes_app _ _)
            case measure => simp [intOf]; omega
          have dm : ((c : Int) == (m : Int)) = false := by rw [beq_eq_false_iff_ne]; omega
          have d2 : ((c : Int) == 92) = false := by rw [beq_eq_false_iff_ne]; omega

          by_cases h32 : c < 32
          · obtain ⟨x, hx⟩ : ∃ x, x = c / 16 := ⟨_, rfl⟩
            obtain ⟨y, hy⟩ : ∃ y, y = c % 16 := ⟨_, rfl⟩
            have hdiv : (c : Int) / 16 = (x : Int) := by omega
            have hmod : (c : Int) % 16 = (y : Int) := by omega
            have hx16 : x < 16 := by omega
            have hy16 : y < 16 := by omega
            have hxi : (x : Int) < 16 := by omega
            have hyi : (y : Int) < 16 := by omega
            obtain ⟨X, hX⟩ : ∃ X, X = Es.dg x := ⟨_, rfl⟩
            obtain ⟨Y, hY⟩ : ∃ Y, Y = Es.dg y := ⟨_, rfl⟩
            have hxa : ∀ (h : x < (⟨#[48, 49, 50, 51, 52, 53, 54, 55, 56, 57, 97, 98, 99, 100, 101, 102]⟩ : ByteArray).size), ((⟨#[48, 49, 50, 51, 52, 53, 54, 55, 56, 57, 97, 98, 99, 100, 101, 102]⟩ : ByteArray)[x]'h).toNat = X := fun h => by rw [hX]; exact Es.hex_get x hx16 h
            have hya : ∀ (h : y < (⟨#[48, 49, 50, 51, 52, 53, 54, 55, 56, 57, 97, 98, 99, 100, 101, 102]⟩ : ByteArray).size), ((⟨#[48, 49, 50, 51, 52, 53, 54, 55, 56, 57, 97, 98, 99, 100, 101, 102]⟩ : ByteArray)[y]'h).toNat = Y := fun h => by rw [hY]; exact Es.hex_get y hy16 h
            have HSH := hidden (show Es.sh m c = [92, 117, 48, 48, X, Y].map UInt8.ofNat from by rw [Es.sh_none m c (by omega) hw5, if_pos h32, ← hx, ← hy, ← hX, ← hY]; rfl)
            have b6 : ∀ (p q : Int) (u : World), Sem.run Try.prog (convert 33 9 (.slice (some ⟨u.heap.size, 0, none⟩) 6 6)) (u.alloc (.cells #[.int .u8 92, .int .u8 117, .int .u8 48, .int .u8 48, .int .u8 p, .int .u8 q] 5)).drew = .ok (.string (strOfNums [92, 117, 48, 48, p, q])) (u.alloc (.cells #[.int .u8 92, .int .u8 117, .int .u8 48, .int .u8 48, .int .u8 p, .int .u8 q] 5)).drew := fun p q u => bytes_new [92, 117, 48, 48, p, q] 6 #[.int .u8 92, .int .u8 117, .int .u8 48, .int .u8 48, .int .u8 p, .int .u8 q] rfl rfl u.drew
            have z6 : ∀ p q : Int, (strOfNums [92, 117, 48, 48, p, q]).size = 6 := fun _ _ => rfl
            clear ha ha2 hx hy hX hY b1 z1 b2 z2 hj hw5
            go_wp2_with fail
            go_region
            go_wp2_with fail
            go_roundw
            case rel =>
              refine ⟨k + 1, T ++ strOfNums [92, 117, 48, 48, (X : Int), (Y : Int)], hlt, by go_num, rfl, ?_, (HB.out.alloc hsz _).drew⟩
              rw [HT.out, HN.out, HSH.out]
              exact (congrArg (fun x => (⟨(UInt8.ofNat m :: Es.shs m (t.data.toList.take k)).toArray⟩ : ByteArray) ++ x) (Es.nums_list [92, 117, 48, 48, X, Y])).trans (Es.bytes_app _ _)
            case measure => simp [intOf]; omega

          have HSH := hidden (show Es.sh m c = [c].map UInt8.ofNat from by rw [Es.sh_none m c (by omega) hw5, if_neg h32]; rfl)
          clear ha ha2 b2 z2 hj hw5
          go_wp2_with fail
          go_roundw
          case rel =>
            refine ⟨k + 1, T ++ strOfNums [(c : Int)], hlt, by go_num, rfl, ?_, HB.out.alloc hsz _⟩
            rw [HT.out, HN.out, HSH.out]
            exact (congrArg (fun x => (⟨(UInt8.ofNat m :: Es.shs m (t.data.toList.take k)).toArray⟩ : ByteArray) ++ x) (Es.nums_list [c])).trans (Es.bytes_app _ _)
          case measure => simp [intOf]; omega
      --round end
    · obtain rfl : k = t.size := by omega
      have HK : Hid (t.data.toList.take t.size = t.data.toList) := hidden (List.take_length ..)
      go_wp2_with fail
      go_ret
      refine ⟨Es.ret_str ?_, (HB.out.alloc hsz _)⟩
      rw [HT.out, HK.out]
      exact (congrArg (fun x => (⟨(UInt8.ofNat m :: Es.shs m t.data.toList).toArray⟩ : ByteArray) ++ x) (Es.nums_list [m])).trans (Es.bytes_app _ _)
theorem rQuote_any (t : ByteArray) (w : World) (hs : t.size ≤ 10000) :
    Calls Try.prog 17 #[.string t] w fun e w' => e = .returned (.string ⟨(Es.qu 34 t.data.toList).toArray⟩) ∧ Below w.heap.size w w' := by
  have HB := hidden (rBetween_any t 34 w hs)
  go_enter Try.func17, Try.ntmps17
  go_wp2_with fail
  refine HB.out.mono ?_
  rintro e w1 ⟨rfl, hb⟩
  have HB1 := hidden hb
  clear hb
  go_wp2_with fail
  go_ret
  exact ⟨rfl, HB1.out⟩
end Go.Proofs.Ytjhjkahjljikhaa
