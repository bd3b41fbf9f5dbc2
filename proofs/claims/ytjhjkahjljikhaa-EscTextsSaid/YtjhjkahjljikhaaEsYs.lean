/-
  The scalars of a string, in order, its text, and what follows of them: by mathematics alone.
-/
import Derived.Test.YtjhjkahjljikhaaEsMath
namespace Go.Proofs.Ytjhjkahjljikhaa
namespace Es
/-- The scalars of a string's inside; -1 behind those ahead of what is no character. -/
def ysf : Nat → List UInt8 → List Int
  | 0, _ => []
  | k + 1, l => if (so l).2 = 0 then (if l = [] then [] else [-1]) else (so l).1 :: ysf k (l.drop (so l).2)
def ys (l : List UInt8) : List Int := ysf (l.length + 1) l
theorem ysf_any (k j : Nat) (l : List UInt8) (hk : l.length < k) (hj : l.length < j) : ysf k l = ysf j l := by
  induction k generalizing j l with
  | zero => omega
  | succ k ih =>
    obtain ⟨j, rfl⟩ : ∃ i, j = i + 1 := ⟨j - 1, by omega⟩
    show (if (so l).2 = 0 then _ else (so l).1 :: ysf k _) = (if (so l).2 = 0 then _ else (so l).1 :: ysf j _)
    by_cases h : (so l).2 = 0
    · rw [if_pos h, if_pos h]
    · rw [if_neg h, if_neg h]
      have h2 : 0 < l.length := by
        rcases so_cases l with ⟨h1, _⟩ | ⟨c, n, h1, h2, h3, _⟩
        · rw [h1] at h
          exact absurd rfl h
        · omega
      rw [ih j (l.drop (so l).2) (by rw [List.length_drop]; omega) (by rw [List.length_drop]; omega)]
theorem ys_nil : ys [] = [] := rfl
theorem ys_bad (l : List UInt8) (h0 : l ≠ []) (h : (so l).2 = 0) : ys l = [-1] := by
  show (if (so l).2 = 0 then _ else _) = _
  rw [if_pos h, if_neg h0]
theorem ys_next (l : List UInt8) (h : (so l).2 ≠ 0) : ys l = (so l).1 :: ys (l.drop (so l).2) := by
  show (if (so l).2 = 0 then _ else _) = _
  rw [if_neg h]
  have h2 : 0 < l.length := by
    rcases so_cases l with ⟨h1, _⟩ | ⟨c, n, h1, h2, h3, _⟩
    · rw [h1] at h
      exact absurd rfl h
    · omega
  rw [ys, ysf_any l.length ((l.drop (so l).2).length + 1) _ (by rw [List.length_drop]; omega) (by omega)]
/-- From scalar to scalar. -/
theorem ind (P : List UInt8 → Prop) (h0 : P []) (hb : ∀ l, l ≠ [] → so l = (-1, 0) → ys l = [-1] → P l)
    (hn : ∀ l (c n : Nat), so l = ((c : Int), n) → 0 < n → n ≤ l.length → Ut.Sc c → (shs 34 (Ut.enc c)).length ≤ n → (cr l).2 ≠ 0 → ys l = (c : Int) :: ys (l.drop n) → P (l.drop n) → P l) (l : List UInt8) : P l := by
  obtain ⟨k, hk⟩ : ∃ k, l.length < k := ⟨l.length + 1, Nat.lt_succ_self _⟩
  induction k generalizing l with
  | zero => omega
  | succ k ih =>
    by_cases hl : l = []
    · rw [hl]
      exact h0
    · rcases so_cases l with ⟨h1, _⟩ | ⟨c, n, h1, h2, h3, h4, h5, h6⟩
      · exact hb l hl h1 (ys_bad l hl (by rw [h1]))
      · have e := ys_next l (by rw [h1]; show n ≠ 0; omega)
        rw [h1] at e
        exact hn l c n h1 h2 h3 h4 h5 h6 e (ih (l.drop n) (by rw [List.length_drop]; omega))
theorem not_head {c : Nat} {r : List Int} (h : (-1 : Int) ∉ (c : Int) :: r) : (-1 : Int) ∉ r := fun h2 => h (List.mem_cons_of_mem _ h2)
theorem flat_cons (c : Nat) (r : List Int) : ((c : Int) :: r).flatMap Ut.encz = Ut.enc c ++ r.flatMap Ut.encz := by
  rw [List.flatMap_cons, Ut.encz_nat]
theorem ys_vals (l : List UInt8) : ∀ z ∈ ys l, z = -1 ∨ ∃ c : Nat, z = (c : Int) ∧ Ut.Sc c := by
  refine ind (fun l => ∀ z ∈ ys l, z = -1 ∨ ∃ c : Nat, z = (c : Int) ∧ Ut.Sc c) ?_ ?_ ?_ l
  · intro z hz
    cases hz
  · intro l _ _ e z hz
    rw [e] at hz
    exact .inl (List.mem_singleton.1 hz)
  · intro l c n _ _ _ hc _ _ e ih z hz
    rw [e] at hz
    rcases List.mem_cons.1 hz with rfl | hz
    · exact .inr ⟨c, rfl, hc⟩
    · exact ih z hz
theorem enc_le (c : Nat) : (Ut.enc c).length ≤ (shs 34 (Ut.enc c)).length := by
  generalize Ut.enc c = l
  induction l with
  | nil => exact Nat.le_refl _
  | cons b l ih =>
    rw [shs_cons, List.length_append, List.length_cons]
    have := (sh_len 34 b.toNat).1
    omega
theorem ys_flat (l : List UInt8) : ((ys l).flatMap Ut.encz).length ≤ l.length := by
  refine ind (fun l => ((ys l).flatMap Ut.encz).length ≤ l.length) (Nat.le_refl _) ?_ ?_ l
  · intro l _ _ e
    rw [e]
    exact Nat.zero_le _
  · intro l c n _ _ h3 _ h5 _ e ih
    rw [e, flat_cons, List.length_append]
    rw [List.length_drop] at ih
    have := enc_le c
    omega
theorem ys_short (l : List UInt8) (h : (-1 : Int) ∉ ys l) : (shs 34 ((ys l).flatMap Ut.encz)).length ≤ l.length := by
  revert h
  refine ind (fun l => (-1 : Int) ∉ ys l → (shs 34 ((ys l).flatMap Ut.encz)).length ≤ l.length) (fun _ => Nat.le_refl _) ?_ ?_ l
  · intro l _ _ e h
    rw [e] at h
    exact absurd (List.mem_singleton.2 rfl) h
  · intro l c n _ _ h3 _ h5 _ e ih h
    rw [e] at h
    have := ih (not_head h)
    rw [e, flat_cons, shs_append, List.length_append]
    rw [List.length_drop] at this
    omega
theorem run_enc (c : Nat) (h : Ut.Sc c) (t : List UInt8) : Ut.run 0 (Ut.enc c ++ t) = Ut.run 0 t := by
  obtain ⟨h1, _⟩ := Ut.sc_enc c h t
  have h2 := Ut.wid_pos c
  have h3 := Ut.enc_length c h
  have := Ut.run_past (Ut.enc c ++ t) (by omega)
  rw [this, h1, List.drop_left]
theorem ys_right (l : List UInt8) (h : (-1 : Int) ∉ ys l) : Ut.run 0 ((ys l).flatMap Ut.encz) = 0 := by
  revert h
  refine ind (fun l => (-1 : Int) ∉ ys l → Ut.run 0 ((ys l).flatMap Ut.encz) = 0) (fun _ => rfl) ?_ ?_ l
  · intro l _ _ e h
    rw [e] at h
    exact absurd (List.mem_singleton.2 rfl) h
  · intro l c n _ _ _ hc _ _ e ih h
    rw [e] at h
    rw [e, flat_cons, run_enc c hc]
    exact ih (not_head h)
/-- A scalar, written shortest, is read again. -/
theorem so_plain (l : List UInt8) (c n : Nat) (hc : Ut.Sc c) (h : cr l = ((c : Int), n)) : so l = ((c : Int), n) := by
  rw [so_cr, h]
  rw [h]
  have := hc.2
  show ¬ (55296 ≤ (c : Int) ∧ (c : Int) ≤ 57343)
  omega
theorem cr_two (a : UInt8) (c : Nat) (rest : List UInt8) (h : sg a.toNat = (c : Int)) : cr (92 :: a :: rest) = ((c : Int), 2) := by
  have h1 := sg_cases a.toNat
  have h2 : ru (92 :: a :: rest) = -1 := by
    rw [ru_cons, if_neg]
    omega
  rw [cr_cons, if_neg (by decide), if_pos (by decide)]
  unfold bs
  rw [h2, if_neg (by decide)]
  show (if 0 ≤ sg a.toNat then (sg a.toNat, 2) else (-1, 0)) = _
  rw [if_pos (by omega), h]
theorem dg_hx (d : Nat) (h : d < 16) : hx (UInt8.ofNat (dg d)).toNat = (d : Int) := by
  have : dg d < 256 := by unfold dg; split <;> omega
  rw [Ut.toNat_ofNat _ this]
  unfold dg hx
  by_cases h1 : d < 10
  · rw [if_pos h1, if_pos (by omega)]
    omega
  · rw [if_neg h1, if_neg (by omega), if_pos (by omega)]
    omega
theorem up_two (a b : UInt8) (x y : Nat) (rest : List UInt8) (ha : hx a.toNat = (x : Int)) (hb : hx b.toNat = (y : Int)) : up (48 :: 48 :: a :: b :: rest) 4 = ((x * 16 + y : Nat) : Int) := by
  have e0 : up (48 :: 48 :: a :: b :: rest) 1 = 0 := by
    rw [up_succ, up_zero, if_neg]
    · rfl
    · rintro (h | h | h)
      · exact absurd h (by decide)
      · simp at h
      · exact absurd h (by show ¬ hx 48 < 0; decide)
  have e1 : up (48 :: 48 :: a :: b :: rest) 2 = 0 := by
    rw [up_succ, e0, if_neg]
    · rfl
    · rintro (h | h | h)
      · exact absurd h (by decide)
      · simp at h
      · exact absurd h (by show ¬ hx 48 < 0; decide)
  have e2 : up (48 :: 48 :: a :: b :: rest) 3 = (x : Int) := by
    rw [up_succ, e1]
    show (if (0 : Int) < 0 ∨ (rest.length + 1 + 1 + 1 + 1) ≤ 2 ∨ hx a.toNat < 0 then (-1 : Int) else 0 * 16 + hx a.toNat) = _
    rw [ha, if_neg (by omega)]
    omega
  rw [up_succ, e2]
  show (if (x : Int) < 0 ∨ (rest.length + 1 + 1 + 1 + 1) ≤ 3 ∨ hx b.toNat < 0 then (-1 : Int) else (x : Int) * 16 + hx b.toNat) = _
  rw [hb, if_neg (by omega)]
  omega
theorem cr_six (a b : UInt8) (x y : Nat) (rest : List UInt8) (ha : hx a.toNat = (x : Int)) (hb : hx b.toNat = (y : Int)) : cr (92 :: 117 :: 48 :: 48 :: a :: b :: rest) = (((x * 16 + y : Nat) : Int), 6) := by
  have h2 : ru (92 :: 117 :: 48 :: 48 :: a :: b :: rest) = ((x * 16 + y : Nat) : Int) := by
    rw [ru_cons, if_pos (by decide), up_two a b x y rest ha hb]
  rw [cr_unit _ (by rw [h2]; omega), h2]
theorem so_sh (c : Nat) (h : Ut.Sc c) (rest : List UInt8) : so (shs 34 (Ut.enc c) ++ rest) = ((c : Int), (shs 34 (Ut.enc c)).length) ∧ 0 < (shs 34 (Ut.enc c)).length := by
  by_cases h2 : c < 128
  · rw [shs_low 34 c h2]
    refine ⟨?_, (sh_len 34 c).1⟩
    unfold sh
    by_cases h3 : c = 34
    · subst h3
      exact so_plain _ _ _ h (cr_two 34 34 rest rfl)
    by_cases h4 : c = 92
    · subst h4
      exact so_plain _ _ _ h (cr_two 92 92 rest rfl)
    rw [if_neg (by omega)]
    by_cases h5 : c = 8
    · subst h5
      exact so_plain _ _ _ h (cr_two 98 8 rest rfl)
    rw [if_neg h5]
    by_cases h6 : c = 12
    · subst h6
      exact so_plain _ _ _ h (cr_two 102 12 rest rfl)
    rw [if_neg h6]
    by_cases h7 : c = 10
    · subst h7
      exact so_plain _ _ _ h (cr_two 110 10 rest rfl)
    rw [if_neg h7]
    by_cases h8 : c = 13
    · subst h8
      exact so_plain _ _ _ h (cr_two 114 13 rest rfl)
    rw [if_neg h8]
    by_cases h9 : c = 9
    · subst h9
      exact so_plain _ _ _ h (cr_two 116 9 rest rfl)
    rw [if_neg h9]
    by_cases h10 : c < 32
    · rw [if_pos h10]
      have e := cr_six _ _ (c / 16) (c % 16) rest (dg_hx (c / 16) (by omega)) (dg_hx (c % 16) (by omega))
      rw [show c / 16 * 16 + c % 16 = c from by omega] at e
      exact so_plain _ _ _ h e
    · rw [if_neg h10]
      have hb : (UInt8.ofNat c).toNat = c := Ut.toNat_ofNat _ (by omega)
      have hl : Ut.ld 0 (UInt8.ofNat c :: rest) = 1 := Ut.ld_byte _ _ (by omega)
      have hs := sc_byte (UInt8.ofNat c) rest (by omega)
      refine so_plain _ c 1 h ?_
      show cr (UInt8.ofNat c :: rest) = _
      rw [cr_cons, hb, if_neg (by omega), if_neg h4, if_neg (by omega)]
      obtain ⟨e, _, _⟩ := sc_take (UInt8.ofNat c :: rest) (by omega)
      have e2 := congrArg Prod.snd e
      rw [hl] at e2
      rw [show (Ut.sc (UInt8.ofNat c :: rest)).2 = 1 from e2, show (Ut.sc (UInt8.ofNat c :: rest)).1 = c from by omega]
  · have hh := enc_head c h (by omega)
    have hw := Ut.wid_pos c
    have hlen := Ut.enc_length c h
    rw [shs_high 34 _ (by decide) hh]
    refine ⟨?_, by omega⟩
    obtain ⟨h3, h4⟩ := Ut.sc_enc c h rest
    refine so_plain _ c _ h ?_
    have hne : Ut.ld 0 (Ut.enc c ++ rest) ≠ 0 := by omega
    have e : Ut.sc (Ut.enc c ++ rest) = (c, (Ut.enc c).length) := by
      show (if Ut.ld 0 (Ut.enc c ++ rest) = 0 then (0, 0) else (Ut.vl (Ut.enc c ++ rest) (Ut.ld 0 (Ut.enc c ++ rest)) (Ut.ld 0 (Ut.enc c ++ rest) - 1), Ut.ld 0 (Ut.enc c ++ rest))) = _
      rw [if_neg hne, h3, h4]
    rw [cr_plain _ hne (by rw [e]; show ¬ c < 32; omega) (by rw [e]; show c ≠ 34; omega) (by rw [e]; show c ≠ 92; omega), e]
theorem back_len (k : Nat) (t : List UInt8) (hk : t.length < k) (h : Ut.run 0 t = 0) : (-1 : Int) ∉ ys (shs 34 t) ∧ (ys (shs 34 t)).flatMap Ut.encz = t := by
  induction k generalizing t with
  | zero => omega
  | succ k ih =>
    by_cases hl : t = []
    · subst hl
      exact ⟨List.not_mem_nil, rfl⟩
    · by_cases h0 : Ut.ld 0 t = 0
      · exact absurd h (Ut.run_not t h0 hl)
      · obtain ⟨_, h2, h3⟩ := sc_take t h0
        have h4 := Ut.run_past t h0
        rw [h] at h4
        have h5 := Ut.ld_le 0 t
        have e : t = Ut.enc (Ut.sc t).1 ++ t.drop (Ut.ld 0 t) := by rw [h2, List.take_append_drop]
        obtain ⟨ih1, ih2⟩ := ih (t.drop (Ut.ld 0 t)) (by rw [List.length_drop]; omega) h4.symm
        obtain ⟨s1, s2⟩ := so_sh (Ut.sc t).1 h3 (shs 34 (t.drop (Ut.ld 0 t)))
        have e2 : shs 34 t = shs 34 (Ut.enc (Ut.sc t).1) ++ shs 34 (t.drop (Ut.ld 0 t)) := by rw [← shs_append, ← e]
        rw [← e2] at s1
        have e3 := ys_next (shs 34 t) (by rw [s1]; show _ ≠ 0; omega)
        rw [s1] at e3
        simp only [] at e3
        rw [show (shs 34 t).drop (shs 34 (Ut.enc (Ut.sc t).1)).length = shs 34 (t.drop (Ut.ld 0 t)) from by rw [e2, List.drop_left]] at e3
        rw [e3]
        refine ⟨fun hm => ?_, ?_⟩
        · rcases List.mem_cons.1 hm with hm | hm
          · omega
          · exact ih1 hm
        · rw [flat_cons, ih2]
          exact e.symm
/-- Behind a sign 22 nothing of what stands ahead turns. -/
theorem up_quote (t m : List UInt8) (k : Nat) : up (t ++ 34 :: m) k = up t k := by
  induction k with
  | zero => rfl
  | succ k ih =>
    rw [up_succ, up_succ, ih]
    by_cases h1 : up t k < 0
    · rw [if_pos (.inl h1), if_pos (.inl h1)]
    · by_cases h2 : t.length ≤ k
      · have h3 : up t k < 0 ∨ hx ((t ++ 34 :: m).getD k 0).toNat < 0 := by
          rcases Nat.lt_or_ge t.length k with h3 | h3
          · have := up_short t k h3
            exact .inl (by omega)
          · right
            rw [List.getD_eq_getElem?_getD, List.getElem?_append_right h2, show k - t.length = 0 from by omega]
            show hx 34 < 0
            decide
        rw [if_pos (show up t k < 0 ∨ (t ++ 34 :: m).length ≤ k ∨ hx ((t ++ 34 :: m).getD k 0).toNat < 0 from h3.elim .inl (fun h4 => .inr (.inr h4))), if_pos (.inr (.inl h2))]
      · have h3 : (t ++ 34 :: m).getD k 0 = t.getD k 0 := by
          rw [List.getD_eq_getElem?_getD, List.getD_eq_getElem?_getD, List.getElem?_append_left (by omega)]
        rw [h3]
        have h4 : ¬ (t ++ 34 :: m).length ≤ k := by
          rw [List.length_append]
          omega
        simp only [h4, h2, false_or]
theorem ru_quote (q m : List UInt8) : ru (q ++ 34 :: m) = ru q := by
  match q with
  | [] =>
    match m with
    | [] => rfl
    | b :: m =>
      show ru (34 :: b :: m) = -1
      rw [ru_cons, if_neg (fun h => absurd h.1 (by decide))]
  | [a] =>
    show ru (a :: 34 :: m) = -1
    rw [ru_cons, if_neg (fun h => absurd h.2 (by decide))]
  | a :: b :: t =>
    show ru (a :: b :: (t ++ 34 :: m)) = _
    rw [ru_cons, ru_cons, up_quote]
theorem ld_append (q : Nat) (l m : List UInt8) (h : Ut.ld q l ≠ 0) : Ut.ld q (l ++ m) = Ut.ld q l := by
  induction l generalizing q with
  | nil => exact absurd rfl h
  | cons b l ih =>
    rw [List.cons_append, Ut.ld_cons, Ut.ld_cons]
    rw [Ut.ld_cons] at h
    by_cases h1 : Ut.st q b.toNat = 0
    · rw [if_pos h1, if_pos h1]
    · rw [if_neg h1] at h
      rw [if_neg h1, if_neg h1]
      by_cases h2 : Ut.st q b.toNat = 8
      · rw [if_pos h2, if_pos h2]
      · rw [if_neg h2] at h
        rw [if_neg h2, if_neg h2]
        by_cases h3 : Ut.ld (Ut.st q b.toNat) l = 0
        · rw [if_pos h3] at h
          exact absurd rfl h
        · rw [ih _ h3]
theorem vl_append (l m : List UInt8) (n k : Nat) (h : k < l.length) : Ut.vl (l ++ m) n k = Ut.vl l n k := by
  have e : ∀ j, j ≤ k → (l ++ m).getD j 0 = l.getD j 0 := fun j hj => by
    rw [List.getD_eq_getElem?_getD, List.getD_eq_getElem?_getD, List.getElem?_append_left (by omega)]
  induction k with
  | zero =>
    show Ut.top n _ = Ut.top n _
    rw [e 0 (Nat.le_refl _)]
  | succ k ih =>
    show Ut.vl (l ++ m) n k * 64 + ((l ++ m).getD (k + 1) 0).toNat % 64 = Ut.vl l n k * 64 + (l.getD (k + 1) 0).toNat % 64
    rw [ih (by omega) (fun j hj => e j (by omega)), e (k + 1) (Nat.le_refl _)]
theorem sc_append (l m : List UInt8) (h : Ut.ld 0 l ≠ 0) : Ut.sc (l ++ m) = Ut.sc l := by
  have h1 := Ut.ld_le 0 l
  unfold Ut.sc
  rw [ld_append 0 l m h, if_neg h, if_neg h, vl_append l m _ _ (by omega)]
theorem cr_append (l m : List UInt8) (h : (cr l).2 ≠ 0) : cr (l ++ m) = cr l := by
  match l, h with
  | [], h => exact absurd rfl h
  | a :: t, h =>
    rw [List.cons_append, cr_cons, cr_cons]
    rw [cr_cons] at h
    by_cases h1 : a.toNat < 32 ∨ a.toNat = 34
    · rw [if_pos h1] at h
      exact absurd rfl h
    rw [if_neg h1] at h
    rw [if_neg h1, if_neg h1]
    by_cases h2 : a.toNat = 92
    · rw [if_pos h2] at h
      rw [if_pos h2, if_pos h2]
      unfold bs at h ⊢
      by_cases h3 : 0 ≤ ru (a :: t)
      · have := ru_append (a :: t) m h3
        rw [List.cons_append] at this
        rw [this, if_pos h3, if_pos h3]
      · rw [if_neg h3] at h
        rw [if_neg h3]
        by_cases h4 : 0 ≤ sg ((a :: t).getD 1 0).toNat
        · match t, h3, h4 with
          | [], _, h4 => exact absurd h4 (by show ¬ 0 ≤ sg 0; decide)
          | b :: t, h3, h4 =>
            have h4' : 0 ≤ sg b.toNat := h4
            have h5 := sg_cases b.toNat
            have h6 : ru (a :: (b :: t ++ m)) = -1 := by
              show ru (a :: b :: (t ++ m)) = -1
              rw [ru_cons, if_neg]
              omega
            rw [h6, if_neg (by decide)]
            rfl
        · rw [if_neg h4] at h
          exact absurd rfl h
    · rw [if_neg h2] at h
      rw [if_neg h2, if_neg h2]
      by_cases h3 : Ut.ld 0 (a :: t) = 0
      · rw [if_pos h3] at h
        exact absurd rfl h
      · have e1 := ld_append 0 (a :: t) m h3
        have e2 := sc_append (a :: t) m h3
        rw [List.cons_append] at e1 e2
        rw [e1, e2]
theorem so_quote (p m : List UInt8) (h : (cr p).2 ≠ 0) : so (p ++ 34 :: m) = so p := by
  by_cases h6 : 6 ≤ p.length
  · unfold so
    rw [cr_append p (34 :: m) h, List.drop_append_of_le_length h6, ru_quote]
  · have e := cr_append p (34 :: m) h
    have : ¬ (55296 ≤ (cr p).1 ∧ (cr p).1 ≤ 57343) := fun h2 => by
      have h3 := cr_half p h2.1 h2.2
      rcases ru_cases p with h4 | ⟨_, _, h4, _⟩
      · rw [h3, h4] at h2
        exact absurd h2.1 (by decide)
      · exact h6 h4
    rw [so_cr p this, so_cr _ (by rw [e]; exact this), e]
theorem ys_quote (p m : List UInt8) (h : (-1 : Int) ∉ ys p) : (-1 : Int) ∈ ys (p ++ 34 :: m) := by
  revert h
  refine ind (fun p => (-1 : Int) ∉ ys p → (-1 : Int) ∈ ys (p ++ 34 :: m)) ?_ ?_ ?_ p
  · intro _
    have e : so (34 :: m) = (-1, 0) := by
      have h1 : cr (34 :: m) = (-1, 0) := rfl
      rw [so_cr _ (by rw [h1]; exact fun h => absurd h.1 (by decide)), h1]
    rw [List.nil_append, ys_bad _ (by simp) (by rw [e])]
    exact List.mem_singleton.2 rfl
  · intro l _ _ e h
    rw [e] at h
    exact absurd (List.mem_singleton.2 rfl) h
  · intro l c n hso h2 h3 _ _ h6 e ih h
    rw [e] at h
    have hq := so_quote l m h6
    rw [hso] at hq
    have e2 := ys_next (l ++ 34 :: m) (by rw [hq]; show n ≠ 0; omega)
    rw [hq] at e2
    rw [e2]
    refine List.mem_cons_of_mem _ ?_
    show (-1 : Int) ∈ ys ((l ++ 34 :: m).drop n)
    rw [List.drop_append_of_le_length h3]
    exact ih (not_head h)
/-- What stands between a string's marks. -/
def ins : List UInt8 → Option (List UInt8)
  | [] => none
  | a :: t => if a = 34 ∧ t.getLast? = some 34 then some t.dropLast else none
theorem ins_mk (m : List UInt8) : ins (34 :: (m ++ [34])) = some m := by
  show (if _ ∧ _ then _ else _) = _
  rw [if_pos ⟨rfl, by simp⟩, List.dropLast_concat]
theorem ins_of (l m : List UInt8) (h : ins l = some m) : l = 34 :: (m ++ [34]) := by
  match l, h with
  | [], h => exact absurd h (by show ¬ none = some m; simp)
  | a :: t, h =>
    have h0 : (if a = 34 ∧ t.getLast? = some 34 then some t.dropLast else none) = some m := h
    clear h
    split at h0
    · rename_i h1
      obtain ⟨rfl, h2⟩ := h1
      have h3 := List.getLast?_eq_some_iff.1 h2
      obtain ⟨ys, rfl⟩ := h3
      rw [List.dropLast_concat] at h0
      rw [Option.some.inj h0]
    · cases h0
/-- What is gone through of a string. -/
def yl (l : List UInt8) : List Int := match ins l with
  | some m => ys m
  | none => [-1]
theorem yl_some (l m : List UInt8) (h : ins l = some m) : yl l = ys m := by
  unfold yl
  rw [h]
theorem yl_none (l : List UInt8) (h : ins l = none) : yl l = [-1] := by
  unfold yl
  rw [h]
/-- It is a string. -/
def ok (l : List UInt8) : Bool := !(yl l).contains (-1)
theorem ok_true (l : List UInt8) : ok l = true ↔ (-1 : Int) ∉ yl l := by
  unfold ok
  simp
theorem ok_false (l : List UInt8) : ok l = false ↔ (-1 : Int) ∈ yl l := by
  unfold ok
  simp
theorem ok_ins (l : List UInt8) (h : ok l = true) : ∃ m, l = 34 :: (m ++ [34]) ∧ (-1 : Int) ∉ ys m ∧ yl l = ys m := by
  rw [ok_true] at h
  cases hi : ins l with
  | none =>
    rw [yl_none l hi] at h
    exact absurd (List.mem_singleton.2 rfl) h
  | some m => exact ⟨m, ins_of l m hi, by rw [← yl_some l m hi]; exact h, yl_some l m hi⟩
/-- Its text. -/
def tx (l : List UInt8) : List UInt8 := (yl l).flatMap Ut.encz
theorem tx_len (l : List UInt8) : (tx l).length ≤ l.length := by
  unfold tx
  cases hi : ins l with
  | none =>
    rw [yl_none l hi]
    exact Nat.zero_le _
  | some m =>
    rw [yl_some l m hi, ins_of l m hi, List.length_cons, List.length_append]
    have := ys_flat m
    omega
theorem qu_text (t : List UInt8) (h : Ut.run 0 t = 0) : ok (qu 34 t) = true ∧ tx (qu 34 t) = t := by
  obtain ⟨h1, h2⟩ := back_len (t.length + 1) t (Nat.lt_succ_self _) h
  have e : yl (qu 34 t) = ys (shs 34 t) := yl_some _ _ (ins_mk (shs 34 t))
  refine ⟨?_, ?_⟩
  · rw [ok_true, e]
    exact h1
  · unfold tx
    rw [e]
    exact h2
theorem tx_right (l : List UInt8) (h : ok l = true) : Ut.run 0 (tx l) = 0 := by
  obtain ⟨m, _, h2, h3⟩ := ok_ins l h
  unfold tx
  rw [h3]
  exact ys_right m h2
theorem tx_short (l : List UInt8) (h : ok l = true) : (qu 34 (tx l)).length ≤ l.length := by
  obtain ⟨m, h1, h2, h3⟩ := ok_ins l h
  have := ys_short m h2
  unfold tx
  rw [h3]
  unfold qu
  rw [h1]
  simp only [List.length_cons, List.length_append, List.length_nil]
  omega
theorem ok_cut (l : List UInt8) (k : Nat) (h : ok l = true) (h2 : ok (l.take k) = true) : l.length ≤ k := by
  rcases Nat.lt_or_ge k l.length with hk | hk
  · obtain ⟨m, h3, h4, _⟩ := ok_ins l h
    obtain ⟨p, h5, h6, _⟩ := ok_ins _ h2
    obtain ⟨d, hd⟩ : ∃ d, d = l.drop k := ⟨_, rfl⟩
    have e : l = 34 :: (p ++ 34 :: d) := by
      conv => lhs; rw [← List.take_append_drop k l, h5]
      rw [hd]
      simp
    rw [h3, List.cons.injEq] at e
    obtain ⟨_, e⟩ := e
    have hne : d ≠ [] := fun h7 => by
      have := congrArg List.length h7
      rw [hd, List.length_drop] at this
      simp at this
      omega
    obtain ⟨q, x, hq⟩ : ∃ q x, d = q ++ [x] := ⟨_, _, (List.dropLast_concat_getLast hne).symm⟩
    rw [hq, show p ++ 34 :: (q ++ [x]) = (p ++ 34 :: q) ++ [x] from by simp] at e
    obtain ⟨e1, _⟩ := List.append_inj' e rfl
    rw [e1] at h4
    exact absurd (ys_quote p q h6) h4
  · exact hk
theorem ok_more (l : List UInt8) (c : UInt8) (h : ok l = true) : ok (l ++ [c]) = false := by
  cases h2 : ok (l ++ [c]) with
  | false => rfl
  | true =>
    have := ok_cut (l ++ [c]) l.length h2 (by rw [List.take_left]; exact h)
    rw [List.length_append, List.length_singleton] at this
    omega
/-- It is a string of that text. -/
def eqv (l t : List UInt8) : Bool := ok l && (tx l == t)
theorem yl_vals (l : List UInt8) : ∀ z ∈ yl l, z = -1 ∨ ∃ c : Nat, z = (c : Int) ∧ Ut.Sc c := by
  cases hi : ins l with
  | none =>
    rw [yl_none l hi]
    intro z hz
    exact .inl (List.mem_singleton.1 hz)
  | some m =>
    rw [yl_some l m hi]
    exact ys_vals m
/-- One scalar more of the text. -/
theorem eq_next (t t' : List UInt8) (pre : List Int) (d : Nat) (h : t = pre.flatMap Ut.encz ++ t') (h0 : Ut.ld 0 t' ≠ 0) (hd : (Ut.sc t').1 = d) : t = (pre ++ [(d : Int)]).flatMap Ut.encz ++ t'.drop (Ut.ld 0 t') := by
  obtain ⟨_, h2, _⟩ := sc_take t' h0
  rw [List.flatMap_append, List.append_assoc, show [(d : Int)].flatMap Ut.encz = Ut.enc d from by rw [List.flatMap_cons, Ut.encz_nat]; simp, ← hd, h2, List.take_append_drop]
  exact h
theorem eq_stop (l t t' : List UInt8) (pre rest : List Int) (z : Int) (hl : yl l = pre ++ z :: rest) (h : t = pre.flatMap Ut.encz ++ t') (hz : Ut.ld 0 t' = 0 ∨ z ≠ ((Ut.sc t').1 : Nat)) : eqv l t = false := by
  cases he : eqv l t with
  | false => rfl
  | true =>
    unfold eqv at he
    rw [Bool.and_eq_true, beq_iff_eq] at he
    obtain ⟨h1, h2⟩ := he
    rw [ok_true] at h1
    have hz2 : z ∈ yl l := by rw [hl]; simp
    rcases yl_vals l z hz2 with rfl | ⟨c, rfl, hc⟩
    · exact absurd hz2 h1
    · unfold tx at h2
      rw [hl, List.flatMap_append, h, flat_cons] at h2
      have h3 := List.append_cancel_left h2
      obtain ⟨h4, h5⟩ := Ut.sc_enc c hc (rest.flatMap Ut.encz)
      rw [h3] at h4 h5
      have h6 := Ut.wid_pos c
      have h7 := Ut.enc_length c hc
      rcases hz with hz | hz
      · omega
      · exfalso
        apply hz
        show (c : Int) = (((if Ut.ld 0 t' = 0 then (0, 0) else (Ut.vl t' (Ut.ld 0 t') (Ut.ld 0 t' - 1), Ut.ld 0 t')) : Nat × Nat).1 : Nat)
        rw [if_neg (by omega), h4, h5]
theorem eq_done (l t t' : List UInt8) (h1 : (-1 : Int) ∉ yl l) (h : t = (yl l).flatMap Ut.encz ++ t') : eqv l t = (t' == []) := by
  rw [Bool.eq_iff_iff]
  unfold eqv
  rw [Bool.and_eq_true, ok_true, beq_iff_eq, beq_iff_eq, h]
  unfold tx
  constructor
  · rintro ⟨_, h2⟩
    have := congrArg List.length h2
    rw [List.length_append] at this
    exact List.eq_nil_of_length_eq_zero (by omega)
  · rintro rfl
    exact ⟨h1, by rw [List.append_nil]⟩
end Es
end Go.Proofs.Ytjhjkahjljikhaa
