/-
  JSON texts and UTF-8, by mathematics alone: what is alive as a JSON text is alive as UTF-8; what is told of the part that is alive as UTF-8 is told of the whole.
-/
import Derived.Test.YtkjkjnkpncgdnaaScMath
namespace Go.Proofs.Ytkjkjnkpncgdnaa
namespace Js
/-- The machine against UTF-8's state. -/
structure Rel (c : Cf) (q : Nat) : Prop where
  str : c.m = 6 → c.x = q
  off : c.m ≠ 6 → q = 0
  wd : ∀ a ∈ c.w, a.toNat < 128
theorem rel_off (c : Cf) (h6 : c.m ≠ 6) (hw : ∀ a ∈ c.w, a.toNat < 128) : Rel c 0 := ⟨fun h => absurd h h6, fun _ => rfl, hw⟩
theorem rel_str (k : Bool) (st : List Bool) (d q : Nat) : Rel (cS q k st d) q := ⟨fun _ => rfl, fun h => absurd rfl h, fun _ ha => absurd ha List.not_mem_nil⟩
theorem rel_none (c : Cf) (h6 : c.m ≠ 6) (hw : c.w = []) : Rel c 0 := rel_off c h6 (by rw [hw]; exact fun a ha => absurd ha List.not_mem_nil)
theorem isB_128 {b : Nat} (h : isB b = true) : b < 128 := (isB_bt b h).2
theorem isD_128 {b : Nat} (h : isD b = true) : b < 128 := (isD_bt b h).2
theorem stV_rel (st : List Bool) (d b : Nat) (c' : Cf) (h : stV st d b = some c') : b < 128 ∧ Rel c' 0 := by
  unfold stV at h
  split at h
  · cases h; exact ⟨by omega, rel_str _ _ _ _⟩
  split at h
  · cases h; exact ⟨by omega, rel_none _ (by decide : (1 : Nat) ≠ 6) rfl⟩
  split at h
  · cases h; exact ⟨by omega, rel_none _ (by decide : (2 : Nat) ≠ 6) rfl⟩
  split at h
  · cases h; exact ⟨by omega, rel_off _ (by decide : (9 : Nat) ≠ 6) (by show ∀ a ∈ ([117, 108, 108] : List UInt8), _; decide)⟩
  split at h
  · cases h; exact ⟨by omega, rel_off _ (by decide : (9 : Nat) ≠ 6) (by show ∀ a ∈ ([114, 117, 101] : List UInt8), _; decide)⟩
  split at h
  · cases h; exact ⟨by omega, rel_off _ (by decide : (9 : Nat) ≠ 6) (by show ∀ a ∈ ([97, 108, 115, 101] : List UInt8), _; decide)⟩
  split at h
  · cases h; exact ⟨by omega, rel_none _ (by decide : (20 : Nat) ≠ 6) rfl⟩
  split at h
  · cases h; exact ⟨by omega, rel_none _ (by decide : (21 : Nat) ≠ 6) rfl⟩
  split at h
  · cases h; exact ⟨isD_128 (by assumption), rel_none _ (by decide : (22 : Nat) ≠ 6) rfl⟩
  · cases h
theorem stE_rel (st : List Bool) (d b : Nat) (c' : Cf) (h : stE st d b = some c') : b < 128 ∧ Rel c' 0 := by
  unfold stE at h
  split at h
  · cases h; exact ⟨isB_128 (by assumption), rel_none _ (by decide : (5 : Nat) ≠ 6) rfl⟩
  split at h
  · refine ⟨by omega, ?_⟩
    split at h
    · cases h
    · cases h; exact rel_none _ (by decide : (0 : Nat) ≠ 6) rfl
    · cases h; exact rel_none _ (by decide : (3 : Nat) ≠ 6) rfl
  split at h
  · refine ⟨by omega, ?_⟩
    split at h
    · cases h; exact rel_none _ (by decide : (5 : Nat) ≠ 6) rfl
    · cases h
  split at h
  · refine ⟨by omega, ?_⟩
    split at h
    · cases h; exact rel_none _ (by decide : (5 : Nat) ≠ 6) rfl
    · cases h
  · cases h
theorem num_rel (m : Nat) (hm : m ≠ 6) (st : List Bool) (d : Nat) : Rel (cN m st d) 0 := rel_none _ hm rfl
theorem stN_rel (m : Nat) (st : List Bool) (d b : Nat) (c' : Cf) (h : stN m st d b = some c') : b < 128 ∧ Rel c' 0 := by
  unfold stN at h
  repeat' split at h
  all_goals first
    | (cases h; done)
    | exact stE_rel st d b c' h
    | (cases h; exact ⟨by first | omega | (exact isD_128 (by assumption)), num_rel _ (by decide) st d⟩)
theorem step_rel (c c' : Cf) (q b : Nat) (hr : Rel c q) (h : step c b = some c') : Ut.st q b ≠ 8 ∧ Rel c' (Ut.st q b) := by
  obtain ⟨m, x, w, k, st, d⟩ := c
  have low : b < 128 ∧ Rel c' 0 → q = 0 → Ut.st q b ≠ 8 ∧ Rel c' (Ut.st q b) := fun h1 h2 => by
    have e : Ut.st q b = 0 := by
      subst h2
      exact if_pos h1.1
    rw [e]
    exact ⟨by decide, h1.2⟩
  have hoff : m ≠ 6 → q = 0 := hr.off
  have hwd : ∀ a ∈ w, a.toNat < 128 := hr.wd
  by_cases h6 : m = 6
  · subst h6
    have hx : x = q := hr.str rfl
    subst hx
    have h2 : stS x k st d b = some c' := h
    unfold stS at h2
    split at h2
    · rename_i h3
      obtain ⟨rfl, rfl⟩ := h3
      refine ⟨by decide, ?_⟩
      show Rel c' 0
      cases h2
      unfold aft
      cases k
      · exact rel_none _ (by decide : (5 : Nat) ≠ 6) rfl
      · exact rel_none _ (by decide : (4 : Nat) ≠ 6) rfl
    split at h2
    · cases h2
    split at h2
    · rename_i h3
      obtain ⟨rfl, rfl⟩ := h3
      refine ⟨by decide, ?_⟩
      cases h2
      exact rel_none _ (by decide : (7 : Nat) ≠ 6) rfl
    split at h2
    · cases h2
    · rename_i h8
      cases h2
      exact ⟨h8, rel_str _ _ _ _⟩
  · refine low ?_ (hoff h6)
    match m, h6 with
    | 0, _ =>
      have h2 : (if isB b then some (cV st d) else stV st d b) = some c' := h
      split at h2
      · cases h2; exact ⟨isB_128 (by assumption), rel_none _ (by decide : (0 : Nat) ≠ 6) rfl⟩
      · exact stV_rel st d b c' h2
    | 1, _ =>
      have h2 : (if isB b then some (cA st d) else if b = 93 then stE st d b else stV st d b) = some c' := h
      split at h2
      · cases h2; exact ⟨isB_128 (by assumption), rel_none _ (by decide : (1 : Nat) ≠ 6) rfl⟩
      split at h2
      · exact stE_rel st d b c' h2
      · exact stV_rel st d b c' h2
    | 2, _ =>
      have h2 : (if isB b then some (cO st d) else if b = 125 then stE st d b else if b = 34 then some (cS 0 true st d) else none) = some c' := h
      split at h2
      · cases h2; exact ⟨isB_128 (by assumption), rel_none _ (by decide : (2 : Nat) ≠ 6) rfl⟩
      split at h2
      · exact stE_rel st d b c' h2
      split at h2
      · cases h2; exact ⟨by omega, rel_str _ _ _ _⟩
      · cases h2
    | 3, _ =>
      have h2 : (if isB b then some (cK st d) else if b = 34 then some (cS 0 true st d) else none) = some c' := h
      split at h2
      · cases h2; exact ⟨isB_128 (by assumption), rel_none _ (by decide : (3 : Nat) ≠ 6) rfl⟩
      split at h2
      · cases h2; exact ⟨by omega, rel_str _ _ _ _⟩
      · cases h2
    | 4, _ =>
      have h2 : (if isB b then some (cC st d) else if b = 58 then some (cV st d) else none) = some c' := h
      split at h2
      · cases h2; exact ⟨isB_128 (by assumption), rel_none _ (by decide : (4 : Nat) ≠ 6) rfl⟩
      split at h2
      · cases h2; exact ⟨by omega, rel_none _ (by decide : (0 : Nat) ≠ 6) rfl⟩
      · cases h2
    | 5, _ => exact stE_rel st d b c' h
    | 7, _ =>
      have h2 : (if isS b then some (cS 0 k st d) else if b = 117 then some (cU 0 k st d) else none) = some c' := h
      split at h2
      · rename_i hs
        cases h2
        refine ⟨?_, rel_str _ _ _ _⟩
        unfold isS at hs
        simp only [Bool.or_eq_true, beq_iff_eq] at hs
        omega
      split at h2
      · cases h2; exact ⟨by omega, rel_none _ (by decide : (8 : Nat) ≠ 6) rfl⟩
      · cases h2
    | 8, _ =>
      have h2 : (if isH b then (if x = 3 then some (cS 0 k st d) else some (cU (x + 1) k st d)) else none) = some c' := h
      split at h2
      · rename_i hs
        have hb : b < 128 := by
          unfold isH isD at hs
          simp only [Bool.or_eq_true, Bool.and_eq_true, decide_eq_true_eq] at hs
          omega
        split at h2
        · cases h2; exact ⟨hb, rel_str _ _ _ _⟩
        · cases h2; exact ⟨hb, rel_none _ (by decide : (8 : Nat) ≠ 6) rfl⟩
      · cases h2
    | 9, _ =>
      cases w with
      | nil =>
        have h2 : (none : Option Cf) = some c' := h
        cases h2
      | cons a r =>
        have h2 : (if b = a.toNat then (if r = [] then some (cE st d) else some (cW r st d)) else none) = some c' := h
        have ha := hwd a List.mem_cons_self
        split at h2
        · split at h2
          · cases h2; exact ⟨by omega, rel_none _ (by decide : (5 : Nat) ≠ 6) rfl⟩
          · cases h2; exact ⟨by omega, rel_off _ (by decide : (9 : Nat) ≠ 6) fun y hy => hwd y (List.mem_cons_of_mem _ hy)⟩
        · cases h2
    | m + 10, _ => exact stN_rel (m + 10) st d b c' h
theorem out_utf (l : List UInt8) : ∀ (c : Cf) (q : Nat), Rel c q → (out c l).2 ≤ Ut.alive q l := by
  induction l with
  | nil => intro c q _; exact Nat.zero_le _
  | cons b l ih =>
    intro c q hr
    cases hs : step c b.toNat with
    | none =>
      rw [out_none c b l hs]
      exact Nat.zero_le _
    | some c' =>
      rw [out_some c c' b l hs]
      obtain ⟨h8, hr2⟩ := step_rel c c' q b.toNat hr hs
      have := ih c' _ hr2
      show (out c' l).2 + 1 ≤ (if Ut.st q b.toNat = 8 then 0 else Ut.alive (Ut.st q b.toNat) l + 1)
      rw [if_neg h8]
      omega
theorem out_min (l : List UInt8) : ∀ (c : Cf) (k : Nat), (out c (l.take k)).2 = min k (out c l).2 := by
  induction l with
  | nil => intro c k; cases k <;> rfl
  | cons b l ih =>
    intro c k
    cases k with
    | zero => rw [Nat.zero_min]; rfl
    | succ k =>
      rw [List.take_succ_cons]
      cases hs : step c b.toNat with
      | none =>
        rw [out_none c b l hs, out_none c b _ hs]
        exact (Nat.min_zero _).symm
      | some c' =>
        rw [out_some c c' b l hs, out_some c c' b _ hs]
        show (out c' (l.take k)).2 + 1 = min (k + 1) ((out c' l).2 + 1)
        rw [ih c' k]
        omega
theorem rel_c0 : Rel c0 0 := rel_none _ (by decide : (0 : Nat) ≠ 6) rfl
theorem alive_al (l : List UInt8) : Al (l.take (Ut.alive 0 l)) := fun h => by
  have h1 := Ut.alive_lt 0 (l.take (Ut.alive 0 l)) (by decide) h
  rw [alive_take, Nat.min_self, List.length_take] at h1
  omega
/-- Not all is alive as UTF-8. -/
theorem out_short (l : List UInt8) (h : Ut.alive 0 l < l.length) : out c0 l = (none, (out c0 (l.take (Ut.alive 0 l))).2) := by
  have h1 := out_utf l c0 0 rel_c0
  have h2 := out_min l c0 (Ut.alive 0 l)
  rw [Nat.min_eq_right h1] at h2
  rw [h2]
  refine Prod.ext ?_ rfl
  show (out c0 l).1 = none
  cases ho : (out c0 l).1 with
  | none => rfl
  | some D =>
    have := out_all l c0 D ho
    omega
end Js
end Go.Proofs.Ytkjkjnkpncgdnaa
