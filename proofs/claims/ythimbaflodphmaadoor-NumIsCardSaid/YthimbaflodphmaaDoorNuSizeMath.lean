/-
  A number's columns as they are laid: the digits ahead of the point between noughts, and whether something stands behind it: they are the key's digits. Of no program. And copy out of a text as a law of the walk.
-/
import Derived.Laws.CopyOwn
import Derived.Test.YthimbaflodphmaaDoorNuCol
namespace Go.Proofs.YthimbaflodphmaaDoor
open Go.RowKit
namespace Nu
/-- Bytes as cells. -/
def bcl (l : List UInt8) : List Value := l.map fun c => Value.int .u8 (c.toNat : Int)
theorem bcl_length (l : List UInt8) : (bcl l).length = l.length := List.length_map ..
theorem cv_bcl (K : Nat) : cv K = (bcl (colB K)).toArray := rfl
theorem bcl_at (l : List UInt8) (i : Nat) (c : UInt8) (h : l[i]? = some c) : (bcl l).toArray[i]? = some (.int .u8 (c.toNat : Int)) := by
  rw [List.getElem?_toArray, bcl, List.getElem?_map, h]
  rfl
theorem bcl_set (l : List UInt8) (i : Nat) (c : UInt8) : (bcl l).toArray.setIfInBounds i (.int .u8 (c.toNat : Int)) = (bcl (l.set i c)).toArray := by
  simp [bcl, List.map_set]
theorem bcl_one (l : List UInt8) : (bcl l).toArray.all (·.oneCell') = true := by
  rw [List.all_toArray, List.all_eq_true]
  intro v hv
  obtain ⟨n, _, rfl⟩ := List.mem_map.1 hv
  rfl
theorem bcl_each (l : List UInt8) : ∀ v ∈ bcl l, v.oneCell' = true := by
  intro v hv
  obtain ⟨n, _, rfl⟩ := List.mem_map.1 hv
  rfl
theorem colB_of (l : List UInt8) (h : ∀ c ∈ l, dig c = true) (hl : l.length = 21) : colB (num l) = l := by
  rw [colB, col_num l h hl, List.map_map]
  have : (UInt8.ofNat ∘ fun c : UInt8 => c.toNat) = id := by funext c; simp
  rw [this, List.map_id]
def fin (m : Nat) (D : List UInt8) (r : Bool) : List UInt8 := List.replicate (20 - m) 48 ++ (D.take m ++ List.replicate (m - D.length) 48) ++ [if r then 49 else 48]
theorem dig48 : dig 48 = true := rfl
theorem dig49 : dig 49 = true := rfl
theorem fin_digs (m : Nat) (D : List UInt8) (r : Bool) (hD : ∀ c ∈ D, dig c = true) : ∀ c ∈ fin m D r, dig c = true := by
  intro c hc
  unfold fin at hc
  simp only [List.mem_append, List.mem_replicate, List.mem_singleton] at hc
  rcases hc with (⟨_, rfl⟩ | h | ⟨_, rfl⟩) | rfl
  · rfl
  · exact hD c (List.mem_of_mem_take h)
  · rfl
  · cases r <;> rfl
theorem fin_length (m : Nat) (D : List UInt8) (r : Bool) (h : m ≤ 19) : (fin m D r).length = 21 := by
  unfold fin
  simp
  omega
theorem num_reps (k : Nat) (l : List UInt8) : num (List.replicate k 48 ++ l) = num l := by
  rw [num_append, num_zeros]
  simp
theorem num_fin (m : Nat) (D : List UInt8) (r : Bool) : num (fin m D r) = 10 * (num (D.take m) * 10 ^ (m - D.length)) + r.toNat := by
  unfold fin
  rw [num_snoc, num_reps, num_pad]
  cases r <;> rfl
theorem key_fin (D : List UInt8) (a : Int) (hD : ∀ c ∈ D, dig c = true) (ha : a ≤ 19) :
    num (fin a.toNat D (decide (num (D.drop a.toNat) ≠ 0))) = key (num D) (a - D.length) := by
  rw [num_fin]
  have hlt := num_lt D hD
  by_cases h : (D.length : Int) ≤ a
  · have h1 : D.length ≤ a.toNat := by omega
    rw [List.take_of_length_le h1, List.drop_eq_nil_of_le h1, key, if_pos (by omega), cap, show (a - D.length).toNat = a.toNat - D.length by omega, if_neg]
    · simp [num_nil]
    · have h2 : num D * 10 ^ (a.toNat - D.length) < 10 ^ D.length * 10 ^ (a.toNat - D.length) := Nat.mul_lt_mul_of_pos_right hlt (Nat.pow_pos (by omega))
      rw [← Nat.pow_add] at h2
      have h3 : 10 ^ (D.length + (a.toNat - D.length)) ≤ 10 ^ 19 := pow_le (by omega)
      omega
  · rw [key, if_neg (by omega), cap]
    by_cases h0 : 0 ≤ a
    · have e := List.take_append_drop a.toNat D
      have hl : (D.drop a.toNat).length = (-(a - (D.length : Int))).toNat := by rw [List.length_drop]; omega
      have h1 := num_append (D.take a.toNat) (D.drop a.toNat)
      rw [e, hl] at h1
      have h2 : num (D.drop a.toNat) < 10 ^ (-(a - (D.length : Int))).toNat := by
        rw [← hl]
        exact num_lt _ (fun c hc => hD c (List.mem_of_mem_drop hc))
      have hp : 0 < 10 ^ (-(a - (D.length : Int))).toNat := Nat.pow_pos (by omega)
      have h3 : num D / 10 ^ (-(a - (D.length : Int))).toNat = num (D.take a.toNat) := by
        rw [h1, Nat.add_comm, Nat.add_mul_div_right _ _ hp, Nat.div_eq_of_lt h2, Nat.zero_add]
      have h4 : num D % 10 ^ (-(a - (D.length : Int))).toNat = num (D.drop a.toNat) := by
        rw [h1, Nat.add_comm, Nat.add_mul_mod_self_right, Nat.mod_eq_of_lt h2]
      have h5 := num_lt (D.take a.toNat) (fun c hc => hD c (List.mem_of_mem_take hc))
      have h6 : 10 ^ (D.take a.toNat).length ≤ 10 ^ 19 := pow_le (by rw [List.length_take]; omega)
      rw [h3, h4, if_neg (by omega), show a.toNat - D.length = 0 by omega]
      simp
    · have hm : a.toNat = 0 := by omega
      have h1 : num D < 10 ^ (-(a - (D.length : Int))).toNat := Nat.lt_of_lt_of_le hlt (pow_le (by omega))
      rw [hm, Nat.div_eq_of_lt h1, Nat.mod_eq_of_lt h1, if_neg (by simp)]
      simp [num_nil]
/-- The digits that count, and how many of them stand ahead of the point. -/
theorem key_parts (p : Pt) (m : Nat) (hp : p.Ok m) (E : Int) :
    (unled p.wh ≠ [] → Nu.key (num (unled p.wh ++ p.fr)) ((unled p.wh).length + E - ((unled p.wh ++ p.fr).length : Nat)) = Nu.key p.n (E - p.fr.length)) ∧
    (unled p.wh = [] → Nu.key (num (unled p.fr)) (E - (p.fr.length - (unled p.fr).length) - (unled p.fr).length) = Nu.key p.n (E - p.fr.length)) := by
  constructor
  · intro _
    rw [Pt.n, num_append, num_append, num_unled, List.length_append]
    congr 1
    omega
  · intro h
    have h0 := (unled_nil p.wh hp.wh).1 h
    rw [Pt.n, num_append, h0, num_unled, Nat.zero_mul, Nat.zero_add]
    congr 1
    omega
/-- What the two copies leave. -/
theorem lay_two (W R : List UInt8) (m : Nat) (hm : m ≤ 19) (r : Bool) (L1 L2 : List UInt8) (h1 : L1 = (List.replicate 21 (48 : UInt8)).take (20 - m) ++ (W.take m ++ (List.replicate 21 (48 : UInt8)).drop (20 - m + (W.take m).length)))
    (h2 : L2 = L1.take (20 - m + (W.take m).length) ++ (R.take (m - (W.take m).length) ++ L1.drop (20 - m + (W.take m).length + (R.take (m - (W.take m).length)).length))) :
    (if r then L2.set 20 49 else L2) = fin m (W ++ R) r := by
  have hn : (W.take m).length ≤ m := by rw [List.length_take]; omega
  have hn2 : (W.take m).length = min m W.length := List.length_take
  have hT : W.take m ++ R.take (m - (W.take m).length) = (W ++ R).take m := by
    rw [List.take_append, hn2]
    congr 2
    omega
  have e1 : L1 = (List.replicate (20 - m) 48 ++ W.take m) ++ List.replicate (m + 1 - (W.take m).length) 48 := by
    rw [h1, List.take_replicate, List.drop_replicate, show min (20 - m) 21 = 20 - m by omega, show 21 - (20 - m + (W.take m).length) = m + 1 - (W.take m).length by omega, List.append_assoc]
  have hA : (List.replicate (20 - m) (48 : UInt8) ++ W.take m).length = 20 - m + (W.take m).length := by simp
  have e2 : L2 = List.replicate (20 - m) 48 ++ (W ++ R).take m ++ List.replicate (m + 1 - (W.take m).length - (R.take (m - (W.take m).length)).length) 48 := by
    rw [h2, e1, ← hA, List.take_left', List.drop_append, List.drop_eq_nil_of_le (by omega), List.nil_append, show ∀ x : Nat, (List.replicate (20 - m) (48 : UInt8) ++ W.take m).length + x - (List.replicate (20 - m) (48 : UInt8) ++ W.take m).length = x from fun x => by omega, List.drop_replicate, ← hT]
    · simp only [List.append_assoc]
    · rfl
  have hl : m + 1 - (W.take m).length - (R.take (m - (W.take m).length)).length = (m - (W ++ R).length) + 1 := by
    have : ((W ++ R).take m).length = (W.take m).length + (R.take (m - (W.take m).length)).length := by rw [← hT, List.length_append]
    rw [List.length_take] at this
    omega
  have e3 : L2 = (List.replicate (20 - m) 48 ++ ((W ++ R).take m ++ List.replicate (m - (W ++ R).length) 48)) ++ [48] := by
    rw [e2, hl, List.replicate_succ']
    simp only [List.append_assoc]
  have h20 : (List.replicate (20 - m) (48 : UInt8) ++ ((W ++ R).take m ++ List.replicate (m - (W ++ R).length) 48)).length = 20 := by
    simp
    omega
  unfold fin
  cases r with
  | false =>
    rw [if_neg (by simp), if_neg (by simp)]
    exact e3
  | true =>
    rw [if_pos rfl, if_pos rfl, e3, List.set_append_right _ _ (by omega), h20]
    rfl
theorem colB_zero : colB 0 = List.replicate 21 48 := by decide +kernel
theorem colB_cap : colB (10 ^ 20) = (List.replicate 21 (48 : UInt8)).set 0 49 := by decide +kernel
end Nu
end Go.Proofs.YthimbaflodphmaaDoor
