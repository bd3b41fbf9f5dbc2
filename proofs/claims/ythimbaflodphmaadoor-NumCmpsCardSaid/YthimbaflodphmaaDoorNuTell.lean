/-
  What the reference's digits tell is what the key tells: how a number stands to a whole one, and which whole one it is; and digits in memory that is owned.
-/
import Derived.Test.YthimbaflodphmaaDoorNuLess
import Derived.Test.YthimbaflodphmaaDoorNuPos
import Derived.Test.YthimbaflodphmaaDoorNuAsk
namespace Go.Proofs.YthimbaflodphmaaDoor
open Go.RowKit
open Nu
namespace Nu
theorem cmp_signs {X Y K M : Nat} (a b : Bool) (h : cmp3 X Y = cmp3 K M) (_hx : X = 0 ↔ K = 0) (_hy : Y = 0 ↔ M = 0) : cmp3 (sgn a X) (sgn b Y) = cmp3 (sgn a K) (sgn b M) := by
  have h1 : (X < Y ∧ K < M) ∨ (X = Y ∧ K = M) ∨ (Y < X ∧ M < K) := by
    unfold cmp3 at h
    split at h <;> split at h <;> (try split at h) <;> (try split at h) <;> omega
  clear h
  unfold sgn cmp3
  cases a <;> cases b <;> simp only [if_true, if_false, Bool.false_eq_true] <;> split <;> split <;> (try split) <;> (try split) <;> omega
theorem clip_in (p : Pt) : -1000000000000 ≤ clip 1000000000000 p ∧ clip 1000000000000 p ≤ 1000000000000 := by
  unfold clip
  split <;> omega
section
variable {p : Pt} {m : Nat}
theorem Pt.Ok.all (hp : p.Ok m) : ∀ c ∈ p.wh ++ p.fr, dig c = true := fun c hc => (List.mem_append.1 hc).elim (hp.wh c) (hp.fr c)
theorem Pt.Ok.key_eq (hp : p.Ok m) (hm : m ≤ 1000000) : Nu.key (dn (df (p.wh ++ p.fr)) (p.wh ++ p.fr).length) ((p.wh.length : Int) + clip 1000000000000 p - 1 + 1 - (p.wh ++ p.fr).length) = p.key := by
  rw [← key_clip 1000000000000 p m hp (by omega), dn_df_all, List.length_append]
  unfold Pt.n
  congr 1
  omega
/-- How a number stands to a whole one: by digits, as by the key. -/
theorem tell_cmp (hp : p.Ok m) (hm : m ≤ 1000000) (n : Int) (h0 : -9223372036854775808 ≤ n) (h1 : n ≤ 9223372036854775807) (t : Nat) (ht : 20000000000000 ≤ t) (N : Nat) (hN : n.natAbs < 10 ^ N) :
    cmp3 (sgn p.neg (sc (df (p.wh ++ p.fr)) ((p.wh.length : Int) + clip 1000000000000 p - 1) t)) (sgn (decide (n < 0)) (sc (uf n.natAbs N) ((N : Int) + 0 - 1) t)) = cmp3 p.val (10 * n) := by
  have hle := hp.le
  have hcl := clip_in p
  have hll : (p.wh ++ p.fr).length = p.wh.length + p.fr.length := List.length_append
  have hk := hp.key_eq hm
  have ht2 : 0 ≤ (p.wh.length : Int) + clip 1000000000000 p - 1 + 1 - (p.wh ++ p.fr).length + t := by omega
  rw [sc_eq _ _ _ _ (fun j hj => df_past _ j hj) ht2, sc_eq _ _ _ N (fun j hj => uf_past _ _ j hj) (by omega), dn_uf_all _ _ hN, show ((N : Int) + 0 - 1 + 1 - N + t).toNat = t by omega]
  have hkc := key_cmp (dn (df (p.wh ++ p.fr)) (p.wh ++ p.fr).length) n.natAbs t ((p.wh.length : Int) + clip 1000000000000 p - 1 + 1 - (p.wh ++ p.fr).length) (by omega) ht2
  have hz : dn (df (p.wh ++ p.fr)) (p.wh ++ p.fr).length * 10 ^ ((p.wh.length : Int) + clip 1000000000000 p - 1 + 1 - (p.wh ++ p.fr).length + t).toNat = 0 ↔ p.key = 0 := by
    rw [← hk]
    constructor
    · intro h
      rcases Nat.mul_eq_zero.1 h with h2 | h2
      · rw [h2, key_zero]
      · have := Nat.pow_pos (n := ((p.wh.length : Int) + clip 1000000000000 p - 1 + 1 - (p.wh ++ p.fr).length + t).toNat) (show 0 < 10 by omega)
        omega
    · intro h
      have h2 : dn (df (p.wh ++ p.fr)) (p.wh ++ p.fr).length = 0 := Classical.byContradiction fun hn => key_pos _ _ hn h
      rw [h2, Nat.zero_mul]
  rw [hk] at hkc
  have hy : n.natAbs * 10 ^ t = 0 ↔ 10 * n.natAbs = 0 := by
    have := Nat.pow_pos (n := t) (show 0 < 10 by omega)
    constructor
    · intro h
      rcases Nat.mul_eq_zero.1 h with h2 | h2 <;> omega
    · intro h
      rw [show n.natAbs = 0 by omega, Nat.zero_mul]
  rw [cmp_signs p.neg (decide (n < 0)) hkc.symm hz hy]
  have e1 : sgn p.neg p.key = p.val := rfl
  have e2 : sgn (decide (n < 0)) (10 * n.natAbs) = 10 * n := by
    unfold sgn
    by_cases hn : n < 0
    · rw [decide_eq_true hn, if_pos rfl]
      omega
    · rw [decide_eq_false hn, if_neg (by simp)]
      omega
  rw [e1, e2]
/-- A number's whole part, ahead of the place k, has no more digits than stand there. -/
theorem fl_lt {f : Nat → Nat} {P : Int} {i : Nat} (h9 : ∀ j, f j ≤ 9) (h : ∀ j, j < i → f j = 0) (k : Int) : fl f P k < 10 ^ (P - i + 1 - k).toNat := by
  unfold fl ic
  by_cases hk : (P + 1 - k).toNat ≤ i
  · rw [dn_noughts f _ (fun j hj => h j (by omega))]
    exact Nat.pow_pos (by omega)
  · have h1 := (dn_add f h9 i ((P + 1 - k).toNat - i)).2
    rw [dn_noughts f i h, show i + ((P + 1 - k).toNat - i) = (P + 1 - k).toNat by omega] at h1
    rw [show (P - (i : Int) + 1 - k).toNat = (P + 1 - k).toNat - i by omega]
    simpa using h1
theorem fl_ge {f : Nat → Nat} {P : Int} {i : Nat} (h9 : ∀ j, f j ≤ 9) (h : f i ≠ 0) (k : Int) (hk : k ≤ P - i) : 10 ^ (P - i - k).toNat ≤ fl f P k := by
  unfold fl ic
  have h1 := (dn_add f h9 (i + 1) ((P + 1 - k).toNat - (i + 1))).1
  rw [show i + 1 + ((P + 1 - k).toNat - (i + 1)) = (P + 1 - k).toNat by omega] at h1
  have h2 : 1 * 10 ^ ((P + 1 - k).toNat - (i + 1)) ≤ dn f (i + 1) * 10 ^ ((P + 1 - k).toNat - (i + 1)) := Nat.mul_le_mul_right _ (by rw [dn]; omega)
  rw [show (P - (i : Int) - k).toNat = (P + 1 - k).toNat - (i + 1) by omega]
  omega
theorem fl_le {f : Nat → Nat} {P : Int} (h9 : ∀ j, f j ≤ 9) (k : Int) (hk : 0 ≤ k) : fl f P k ≤ fl f P 0 := by
  unfold fl ic
  by_cases h : 0 ≤ P + 1 - k
  · have h1 := (dn_add f h9 (P + 1 - k).toNat k.toNat).1
    rw [show (P + 1 - k).toNat + k.toNat = (P + 1 - 0).toNat by omega] at h1
    refine Nat.le_trans ?_ h1
    have h2 := Nat.pow_pos (n := k.toNat) (show 0 < 10 by omega)
    exact Nat.le_mul_of_pos_right _ h2
  · rw [show (P + 1 - k).toNat = 0 by omega]
    exact Nat.zero_le _
/-- Which whole number it is: by digits, as by the key. -/
structure WholeIs (p : Pt) (f : Nat → Nat) (P : Int) (i j : Nat) : Prop where
  low : P - j < 0 → wholeZ (some p) = (0, false)
  top : 15 < P - i → wholeZ (some p) = (0, false)
  big : 0 ≤ P - j → P - i ≤ 15 → 9007199254740991 < fl f P 0 → wholeZ (some p) = (0, false)
  is : 0 ≤ P - j → P - i ≤ 15 → fl f P 0 ≤ 9007199254740991 → wholeZ (some p) = (sgn p.neg (fl f P 0), true)
theorem tell_whole (hp : p.Ok m) (hm : m ≤ 1000000) {i j : Nat} (ht : Tips (df (p.wh ++ p.fr)) (p.wh ++ p.fr).length i j) : WholeIs p (df (p.wh ++ p.fr)) ((p.wh.length : Int) + clip 1000000000000 p - 1) i j := by
  have hk := hp.key_eq hm
  have h9 := df_le _ hp.all
  rw [key_digits (df (p.wh ++ p.fr)) (p.wh ++ p.fr).length _ h9 (fun q hq => df_past _ q hq) j ht.lt2 ht.ne2 ht.past] at hk
  obtain ⟨P, hP⟩ : ∃ P, P = (p.wh.length : Int) + clip 1000000000000 p - 1 := ⟨_, rfl⟩
  rw [← hP] at hk ⊢
  have hij : i ≤ j := Nat.le_of_not_lt fun h => ht.ne (ht.past i h)
  have hw : wholeZ (some p) = if p.key % 10 ≠ 0 ∨ 90071992547409910 < p.key then (0, false) else (if p.neg then -((p.key / 10 : Nat) : Int) else ((p.key / 10 : Nat) : Int), true) := rfl
  rw [← hk] at hw
  unfold cap at hw
  refine ⟨fun h => ?_, fun h => ?_, fun h1 h2 h3 => ?_, fun h1 h2 h3 => ?_⟩
  · rw [decide_eq_true h] at hw
    rw [hw, if_pos]
    split
    · exact .inr (by omega)
    · refine .inl ?_
      simp only [Bool.toNat_true]
      omega
  · rw [hw, if_pos]
    by_cases hj : P - (j : Int) < 0
    · rw [decide_eq_true hj]
      split
      · exact .inr (by omega)
      · refine .inl ?_
        simp only [Bool.toNat_true]
        omega
    · have h4 := fl_ge (P := P) h9 ht.ne 0 (by omega)
      have h5 : 10 ^ 16 ≤ 10 ^ (P - (i : Int) - 0).toNat := pow_le (by omega)
      refine .inr ?_
      split <;> omega
  · rw [hw, if_pos, ]
    refine .inr ?_
    split <;> omega
  · rw [decide_eq_false (by omega)] at hw
    have e : (if 10 ^ 19 ≤ fl (df (p.wh ++ p.fr)) P 0 then 10 ^ 20 else 10 * fl (df (p.wh ++ p.fr)) P 0 + Bool.toNat false) = 10 * fl (df (p.wh ++ p.fr)) P 0 := by
      rw [if_neg (by omega)]
      rfl
    rw [e, if_neg (by omega), Nat.mul_div_cancel_left _ (by omega)] at hw
    exact hw
end
/-- What is owned, as digits in a block. -/
theorem dg_own {B L : Nat} {w : World} {v : Value} {D : List Int} {f : Nat → Nat} (h : w.ownsRow B 3 1 v L (iv D)) (hL : 0 < L) (hf : ∀ j, j < L → D[j]? = some ((f j : Nat) : Int)) :
    ∃ g cap, v = .slice (some ⟨g, 0, none⟩) L cap ∧ g < w.heap.size ∧ Dg w g f L := by
  have h2 := h.2
  rcases h2 with ⟨h3, rfl⟩ | ⟨g, cap, cur, hv, _⟩
  · exfalso
    omega
  · refine ⟨g, cap, hv, (h.lt g (by rw [hv]; rfl)).2, fun j hj => ?_⟩
    have hx := h.cells (g := g) (by rw [hv]; rfl) j (.int .i64 ((f j : Nat) : Int)) (by rw [iv, List.getElem?_map, hf j hj]; rfl)
    have e : (⟨g, 0, none⟩ : Addr).add j = ⟨g, j, none⟩ := by unfold Addr.add; split <;> simp_all
    rwa [e] at hx
theorem dz_at (m : List UInt8) (j : Nat) (h : j < m.length) : (dz m)[j]? = some ((df m j : Nat) : Int) := by
  rw [dz, List.getElem?_map, List.getElem?_eq_getElem h, df_at _ _ h]
  rfl
theorem dgs_uf (u j : Nat) (h : j < Lib.nDigits u) : (dgs u)[j]? = some ((uf u (Lib.nDigits u) j : Nat) : Int) := by
  rw [dgs_at u j h, uf, if_pos h]
/-- A truth that stands for a sentence. -/
theorem told (P : Prop) : ∃ z : Bool, z = true ↔ P := by
  by_cases h : P
  · exact ⟨true, by simp [h]⟩
  · exact ⟨false, by simp [h]⟩
end Nu
end Go.Proofs.YthimbaflodphmaaDoor
