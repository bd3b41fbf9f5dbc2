/-
  The contract of laceworkref11's Scalars: of every string of at most 10000 bytes; nothing that was there is changed.
-/
import Derived.Test.YtjhjkahjljikhaaEsRefS
namespace Go.Proofs.Ytjhjkahjljikhaa
open Go.RowKit
/-- What Scalars tells. -/
def SsPost (L : List UInt8) (w : World) (e : Ending) (w' : World) : Prop :=
  ((Es.ok L = false ∧ e = .returned (.tuple #[.slice none 0 0, .bool false])) ∨ (Es.ok L = true ∧ ∃ v, e = .returned (.tuple #[v, .bool true]) ∧ Og w' w.heap.size v (Es.yl L))) ∧ Below w.heap.size w w'
theorem SsPost.no {L : List UInt8} {w w' : World} {e : Ending} (h : Es.ok L = false) (he : e = .returned (.tuple #[.slice none 0 0, .bool false])) (hb : Below w.heap.size w w') : SsPost L w e w' := ⟨.inl ⟨h, he⟩, hb⟩
theorem SsPost.yes {L : List UInt8} {w w' : World} {e : Ending} {v : Value} {O : List Int} (h : Es.ok L = true ∧ Es.yl L = O) (he : e = .returned (.tuple #[v, .bool true])) (ho : Og w' w.heap.size v O) (hb : Below w.heap.size w w') : SsPost L w e w' :=
  ⟨.inr ⟨h.1, v, he, by rw [h.2]; exact ho⟩, hb⟩
set_option maxRecDepth 100000 in
set_option maxHeartbeats 4000000 in
theorem rScalars_no (s : ByteArray) (w : World) (hs : s.size ≤ 10000) (h : s.size < 2 ∨ ∃ E, s.size = E + 1 ∧ 1 ≤ E ∧ ∃ (h0 : 0 < s.size) (hE : E < s.size), s[0].toNat ≠ 34 ∨ s[0].toNat = 34 ∧ s[E].toNat ≠ 34) :
    Calls Try.prog 23 #[.string s] w fun e w' => SsPost s.data.toList w e w' := by
  rcases h with h | ⟨E, hE1, hE0, h0, hE, h | ⟨h, h2⟩⟩
  · have HO := hidden (Es.ok_none (Es.ins_small s h))
    go_enter Try.func23, Try.ntmps23
    go_wp2_with fail
    go_ret2
    exact SsPost.no HO.out rfl (Below.refl _ _)
  · have HO := hidden (Es.ok_none ((Es.ins_ends s E hE1 hE0 h0 hE).2 (.inl h)))
    have hn : ¬ ((s[0].toNat : Nat) : Int) = 34 := by omega
    have h2 : ¬ s.size < 2 := by omega
    have HH := hidden hE1
    clear h hE1
    go_enter Try.func23, Try.ntmps23
    go_wp2_with fail
    go_ret2
    exact SsPost.no HO.out rfl (Below.refl _ _)
  · have HO := hidden (Es.ok_none ((Es.ins_ends s E hE1 hE0 h0 hE).2 (.inr h2)))
    have hn : (((s[E].toNat : Nat) : Int) != 34) = true := by rw [bne_iff_ne]; omega
    have h3 : ¬ s.size < 2 := by omega
    have hEi : (s.size : Int) - 1 = (E : Int) := by omega
    have HH := hidden hE1
    clear h2 hE1
    go_enter Try.func23, Try.ntmps23
    go_wp2_with fail
    go_ret2
    exact SsPost.no HO.out rfl (Below.refl _ _)
set_option maxRecDepth 100000 in
set_option maxHeartbeats 8000000 in
theorem rScalars_yes (s : ByteArray) (E : Nat) (w : World) (hs : s.size ≤ 10000) (hE1 : s.size = E + 1) (hE0 : 1 ≤ E) (h0 : 0 < s.size) (hE : E < s.size) (hm0 : s[0].toNat = 34) (hm1 : s[E].toNat = 34) :
    Calls Try.prog 23 #[.string s] w fun e w' => SsPost s.data.toList w e w' := by
  have HST := hidden (Es.Sx.start ((Es.ins_ends s E hE1 hE0 h0 hE).1 hm0 hm1) hE0)
  have h3 : ¬ s.size < 2 := by omega
  have hEi : (s.size : Int) - 1 = (E : Int) := by omega
  have hEl : E ≤ s.data.toList.length := by show E ≤ s.size; omega
  have HEL := hidden hEl
  have HS1 := hidden hE1
  have hE10 : E ≤ 10000 := by omega
  clear hE1 hEl
  go_enter Try.func23, Try.ntmps23
  go_wp2_with fail
  go_loopw [4, 6] (fun v i wr => ∃ (k : Nat) (O : List Int), 1 ≤ k ∧ i = .int .i64 k ∧ Es.Sx s.data.toList E k O ∧ Og wr w.heap.size v O ∧ Below w.heap.size w wr) (fun _ i _ => E - (intOf i).toNat)
  case atStart => exact ⟨1, [], Nat.le_refl _, rfl, HST.out, Og.nil _ _, Below.refl _ _⟩
  case round =>
    obtain ⟨k, O, hk1, rfl, hsx, hO, hB⟩ := hrel
    have HSX := hidden hsx
    have HO := hidden hO
    have HB := hidden hB
    have hkE := hsx.2.2.2
    have hOl := hsx.2.2.1
    clear hsx hO hB
    by_cases hlt : k < E
    · have hks : k < s.size := by omega
      have hR : (s.data.toList.take E).drop k = s[k] :: (s.data.toList.take E).drop (k + 1) := by
        have h1 : k < (s.data.toList.take E).length := by rw [List.length_take]; have h2 : s.data.toList.length = s.size := rfl; omega
        rw [List.drop_eq_getElem_cons h1, List.getElem_take]
        rfl
      have hb := s[k].toNat_lt
      by_cases c1 : s[k].toNat < 32
      · have HF := hidden (HSX.out.fail HEL.out hlt (by rw [hR]; exact Es.so_low _ _ (.inl c1)))
        clear hR
        go_wp2_with fail
        go_ret2
        exact SsPost.no HF.out rfl HB.out
      by_cases c2 : s[k].toNat = 34
      · have HF := hidden (HSX.out.fail HEL.out hlt (by rw [hR]; exact Es.so_low _ _ (.inr c2)))
        clear hR c1
        go_wp2_with fail
        go_ret2
        exact SsPost.no HF.out rfl HB.out
      have d1 : decide (((s[k].toNat : Nat) : Int) < 32) = false := decide_eq_false (by omega)
      have d2 : (((s[k].toNat : Nat) : Int) == 34) = false := by rw [beq_eq_false_iff_ne]; omega
      by_cases c3 : s[k].toNat = 92
      ·
        --units
        have hss : (s.extract 0 E).data.toList = s.data.toList.take E := by
          rw [Ut.extract_list, List.drop_zero, Nat.sub_zero]
        have hsz : (s.extract 0 E).size ≤ 1000000 := by rw [ByteArray.size_extract]; omega
        have HU1 := hidden (fun w => rUnit_any (s.extract 0 E) k (k : Int) w rfl hsz (by omega))
        have HU2 := hidden (fun w => rUnit_any (s.extract 0 E) (k + 6) ((k : Int) + 6) w (by omega) hsz (by omega))
        rw [hss] at HU1 HU2
        rw [← List.drop_drop] at HU2
        have hEs : E ≤ s.size := by omega
        have hUc := Es.ru_cases ((s.data.toList.take E).drop k)
        have hVc := Es.ru_cases (((s.data.toList.take E).drop k).drop 6)
        obtain ⟨V, hV⟩ : ∃ V, V = Es.ru (((s.data.toList.take E).drop k).drop 6) := ⟨_, rfl⟩
        rw [← hV] at HU2
        have hVl : -1 ≤ V ∧ V < 65536 := by rw [hV]; rcases hVc with h | ⟨h, h2, _⟩ <;> omega
        clear hVc hss hsz
        by_cases hu : 0 ≤ Es.ru ((s.data.toList.take E).drop k)
        · obtain ⟨U, hU⟩ : ∃ U : Nat, Es.ru ((s.data.toList.take E).drop k) = (U : Int) := ⟨(Es.ru ((s.data.toList.take E).drop k)).toNat, by omega⟩
          have hUl : U < 65536 := by rcases hUc with h | ⟨h, h2, _⟩ <;> omega
          rw [hU] at HU1
          clear hUc hu
          by_cases u1 : U < 55296
          · -- a unit below the halves
            have hso : Es.so ((s.data.toList.take E).drop k) = (((U : Nat) : Int), 6) := Es.so_unit _ U hU (by omega)
            obtain ⟨hnx, hkn⟩ := HSX.out.next HEL.out hso (by decide)
            have HNX := hidden hnx
            have f1 : decide ((55296 : Int) ≤ (U : Int)) = false := decide_eq_false (by omega)
            clear hR c1 c2 hso hnx hU hV hUl hVl
            go_wp2_with fail
            refine (HU1.out _).mono ?_
            rintro e w2 ⟨rfl, rfl⟩
            go_wp2_with fail
            refine (HU2.out _).mono ?_
            rintro e w3 ⟨rfl, rfl⟩
            have hsz3 := HB.out.size
            go_wp2_with (at_builtin; refine og_append _ rfl _ _ rfl w.heap.size _ O rfl (HO.out.alloc _) _ 1 _ _ rfl (heap_alloc_new _ _) (by omega) (by simp; omega) ?_; intro v2 w4 h4 g4; have HO4 := hidden h4; have HB4 := hidden ((HB.out.alloc HB.out.size _).grown g4 (by simp; omega) (fun j hj => (HO.out.lt j hj).1)); clear h4 g4)
            go_roundw
            case rel => exact ⟨k + 6, O ++ [((U : Nat) : Int)], by omega, by go_num, HNX.out, HO4.out, HB4.out⟩
            case measure => simp [intOf]; omega
          by_cases u2 : 57343 < U
          · -- a unit above the halves
            have hso : Es.so ((s.data.toList.take E).drop k) = (((U : Nat) : Int), 6) := Es.so_unit _ U hU (by omega)
            obtain ⟨hnx, hkn⟩ := HSX.out.next HEL.out hso (by decide)
            have HNX := hidden hnx
            have f1 : decide ((55296 : Int) ≤ (U : Int)) = true := decide_eq_true (by omega)
            have f2 : decide ((U : Int) ≤ 56319) = false := decide_eq_false (by omega)
            have f3 : decide ((U : Int) ≤ 57343) = false := decide_eq_false (by omega)
            clear hR c1 c2 hso hnx hU hV hUl hVl
            go_wp2_with fail
            refine (HU1.out _).mono ?_
            rintro e w2 ⟨rfl, rfl⟩
            go_wp2_with fail
            refine (HU2.out _).mono ?_
            rintro e w3 ⟨rfl, rfl⟩
            have hsz3 := HB.out.size
            go_wp2_with (at_builtin; refine og_append _ rfl _ _ rfl w.heap.size _ O rfl (HO.out.alloc _) _ 1 _ _ rfl (heap_alloc_new _ _) (by omega) (by simp; omega) ?_; intro v2 w4 h4 g4; have HO4 := hidden h4; have HB4 := hidden ((HB.out.alloc HB.out.size _).grown g4 (by simp; omega) (fun j hj => (HO.out.lt j hj).1)); clear h4 g4)
            go_roundw
            case rel => exact ⟨k + 6, O ++ [((U : Nat) : Int)], by omega, by go_num, HNX.out, HO4.out, HB4.out⟩
            case measure => simp [intOf]; omega
          by_cases u3 : 56319 < U
          · -- a second half alone
            have hso : Es.so ((s.data.toList.take E).drop k) = (((65533 : Nat) : Int), 6) := Es.so_half _ U hU (by omega) (by omega) (by omega)
            obtain ⟨hnx, hkn⟩ := HSX.out.next HEL.out hso (by decide)
            have HNX := hidden hnx
            have f1 : decide ((55296 : Int) ≤ (U : Int)) = true := decide_eq_true (by omega)
            have f2 : decide ((U : Int) ≤ 56319) = false := decide_eq_false (by omega)
            have f3 : decide ((U : Int) ≤ 57343) = true := decide_eq_true (by omega)
            clear hR c1 c2 hso hnx hU hV hUl hVl
            go_wp2_with fail
            refine (HU1.out _).mono ?_
            rintro e w2 ⟨rfl, rfl⟩
            go_wp2_with fail
            refine (HU2.out _).mono ?_
            rintro e w3 ⟨rfl, rfl⟩
            have hsz3 := HB.out.size
            go_wp2_with (at_builtin; refine og_append _ rfl _ _ rfl w.heap.size _ O rfl (HO.out.alloc _) _ 1 _ _ rfl (heap_alloc_new _ _) (by omega) (by simp; omega) ?_; intro v2 w4 h4 g4; have HO4 := hidden h4; have HB4 := hidden ((HB.out.alloc HB.out.size _).grown g4 (by simp; omega) (fun j hj => (HO.out.lt j hj).1)); clear h4 g4)
            go_roundw
            case rel => exact ⟨k + 6, O ++ [((65533 : Nat) : Int)], by omega, by go_num, HNX.out, HO4.out, HB4.out⟩
            case measure => simp [intOf]; omega
          by_cases u4 : V < 56320
          · -- a first half alone
            have hso : Es.so ((s.data.toList.take E).drop k) = (((65533 : Nat) : Int), 6) := Es.so_half _ U hU (by omega) (by omega) (by rw [← hV]; omega)
            obtain ⟨hnx, hkn⟩ := HSX.out.next HEL.out hso (by decide)
            have HNX := hidden hnx
            have f1 : decide ((55296 : Int) ≤ (U : Int)) = true := decide_eq_true (by omega)
            have f2 : decide ((U : Int) ≤ 56319) = true := decide_eq_true (by omega)
            have f3 : decide ((U : Int) ≤ 57343) = true := decide_eq_true (by omega)
            have f4 : decide ((56320 : Int) ≤ V) = false := decide_eq_false (by omega)
            clear hR c1 c2 hso hnx hU hV hUl hVl
            go_wp2_with fail
            refine (HU1.out _).mono ?_
            rintro e w2 ⟨rfl, rfl⟩
            go_wp2_with fail
            refine (HU2.out _).mono ?_
            rintro e w3 ⟨rfl, rfl⟩
            have hsz3 := HB.out.size
            go_wp2_with (at_builtin; refine og_append _ rfl _ _ rfl w.heap.size _ O rfl (HO.out.alloc _) _ 1 _ _ rfl (heap_alloc_new _ _) (by omega) (by simp; omega) ?_; intro v2 w4 h4 g4; have HO4 := hidden h4; have HB4 := hidden ((HB.out.alloc HB.out.size _).grown g4 (by simp; omega) (fun j hj => (HO.out.lt j hj).1)); clear h4 g4)
            go_roundw
            case rel => exact ⟨k + 6, O ++ [((65533 : Nat) : Int)], by omega, by go_num, HNX.out, HO4.out, HB4.out⟩
            case measure => simp [intOf]; omega
          by_cases u5 : 57343 < V
          · -- a first half alone, a unit above the halves behind it
            have hso : Es.so ((s.data.toList.take E).drop k) = (((65533 : Nat) : Int), 6) := Es.so_half _ U hU (by omega) (by omega) (by rw [← hV]; omega)
            obtain ⟨hnx, hkn⟩ := HSX.out.next HEL.out hso (by decide)
            have HNX := hidden hnx
            have f1 : decide ((55296 : Int) ≤ (U : Int)) = true := decide_eq_true (by omega)
            have f2 : decide ((U : Int) ≤ 56319) = true := decide_eq_true (by omega)
            have f3 : decide ((U : Int) ≤ 57343) = true := decide_eq_true (by omega)
            have f4 : decide ((56320 : Int) ≤ V) = true := decide_eq_true (by omega)
            have f5 : decide (V ≤ 57343) = false := decide_eq_false (by omega)
            clear hR c1 c2 hso hnx hU hV hUl hVl
            go_wp2_with fail
            refine (HU1.out _).mono ?_
            rintro e w2 ⟨rfl, rfl⟩
            go_wp2_with fail
            refine (HU2.out _).mono ?_
            rintro e w3 ⟨rfl, rfl⟩
            have hsz3 := HB.out.size
            go_wp2_with (at_builtin; refine og_append _ rfl _ _ rfl w.heap.size _ O rfl (HO.out.alloc _) _ 1 _ _ rfl (heap_alloc_new _ _) (by omega) (by simp; omega) ?_; intro v2 w4 h4 g4; have HO4 := hidden h4; have HB4 := hidden ((HB.out.alloc HB.out.size _).grown g4 (by simp; omega) (fun j hj => (HO.out.lt j hj).1)); clear h4 g4)
            go_roundw
            case rel => exact ⟨k + 6, O ++ [((65533 : Nat) : Int)], by omega, by go_num, HNX.out, HO4.out, HB4.out⟩
            case measure => simp [intOf]; omega
          · -- both halves
            obtain ⟨W, rfl⟩ : ∃ W : Nat, V = (W : Int) := ⟨V.toNat, by omega⟩
            have HZ : Hid ((65536 + ((U : Int) - 55296) * 1024 + (W : Int) - 56320) = ((65536 + (U - 55296) * 1024 + (W - 56320) : Nat) : Int)) := by show (_ : Int) = _; omega
            have hso : Es.so ((s.data.toList.take E).drop k) = (((65536 + (U - 55296) * 1024 + (W - 56320) : Nat) : Int), 12) := Es.so_both _ U W hU hV.symm (by omega) (by omega) (by omega) (by omega)
            obtain ⟨hnx, hkn⟩ := HSX.out.next HEL.out hso (by decide)
            have HNX := hidden hnx
            have f1 : decide ((55296 : Int) ≤ (U : Int)) = true := decide_eq_true (by omega)
            have f2 : decide ((U : Int) ≤ 56319) = true := decide_eq_true (by omega)
            have f4 : decide ((56320 : Int) ≤ (W : Int)) = true := decide_eq_true (by omega)
            have f5 : decide ((W : Int) ≤ 57343) = true := decide_eq_true (by omega)
            clear hR c1 c2 hso hnx hU hV hUl hVl
            go_wp2_with fail
            refine (HU1.out _).mono ?_
            rintro e w2 ⟨rfl, rfl⟩
            go_wp2_with fail
            refine (HU2.out _).mono ?_
            rintro e w3 ⟨rfl, rfl⟩
            have hsz3 := HB.out.size
            go_wp2_with (at_builtin; refine og_append _ rfl _ _ rfl w.heap.size _ O rfl (HO.out.alloc _) _ 1 _ _ rfl (heap_alloc_new _ _) (by omega) (by simp; omega) ?_; intro v2 w4 h4 g4; have HO4 := hidden h4; have HB4 := hidden ((HB.out.alloc HB.out.size _).grown g4 (by simp; omega) (fun j hj => (HO.out.lt j hj).1)); clear h4 g4)
            go_roundw
            case rel => exact ⟨k + 12, O ++ [((65536 + (U - 55296) * 1024 + (W - 56320) : Nat) : Int)], by omega, by go_num, HNX.out, by rw [← HZ.out]; exact HO4.out, HB4.out⟩
            case measure => simp [intOf]; omega
        · have hu1 : Es.ru ((s.data.toList.take E).drop k) = -1 := by rcases hUc with h | ⟨h, _⟩ <;> omega
          rw [hu1] at HU1
          clear hUc hV hVl HU2 hu
          by_cases hk2 : k + 1 < E
          · obtain ⟨r, hr⟩ : ∃ r, r = k + 1 := ⟨_, rfl⟩
            have hk3 : r < s.size := by omega
            have hR2 : (s.data.toList.take E).drop k = 92 :: s[r] :: (s.data.toList.take E).drop (k + 2) := by
              subst hr
              have h1 : k + 1 < (s.data.toList.take E).length := by rw [List.length_take]; have h2 : s.data.toList.length = s.size := rfl; omega
              rw [hR, List.drop_eq_getElem_cons h1, List.getElem_take, show s[k] = 92 from UInt8.toNat_inj.1 c3]
              rfl
            have hso := Es.so_sign s[r] ((s.data.toList.take E).drop (k + 2)) (by rw [← hR2]; exact hu1)
            rw [← hR2] at hso
            have hb2 := s[r].toNat_lt
            have HSO := hidden hso
            have g1 : decide (E ≤ r) = false := decide_eq_false (by omega)
            have gw : IntKind.i64.wrap (r : Int) = (r : Int) := by rw [IntKind.wrap_i64]; omega
            have gs : (r : Int) < (s.size : Int) := by omega
            have gv : (k : Int) + 1 = (r : Int) := by omega
            clear hR hR2 hso hu1 c1 c2 hk2 hr
            go_wp2_with fail
            refine (HU1.out _).mono ?_
            rintro e w2 ⟨rfl, rfl⟩
            go_wp2_with fail
            go_loopw [14] (fun v wq => ∃ j m : Nat, v = .int .i64 j ∧ wq = w2.drewN m ∧ j ≤ Es.si s[r].toNat ∧ j ≤ 8) (fun v _ => 8 - (intOf v).toNat)
            case atStart => exact ⟨0, 0, rfl, rfl, Nat.zero_le _, Nat.zero_le _⟩
            case round =>
              obtain ⟨j, m, rfl, rfl, hj, hj8⟩ := hrel
              by_cases hlt8 : j < 8
              · have hlti : (j : Int) < 8 := by omega
                obtain ⟨g, hg⟩ : ∃ g, g = Es.sgl j := ⟨_, rfl⟩
                have hsj : ∀ (h : j < (⟨#[34, 92, 47, 98, 102, 110, 114, 116]⟩ : ByteArray).size), ((⟨#[34, 92, 47, 98, 102, 110, 114, 116]⟩ : ByteArray)[j]'h).toNat = g := fun h => by rw [hg]; exact Es.signs_at j hlt8 h
                by_cases hje : Es.si s[r].toNat = j
                · have hgb : g = s[r].toNat := by rw [hg]; exact (Es.si_at _ j hlt8).2 hje
                  have hne : ((g : Int) != ((s[r].toNat : Nat) : Int)) = false := by rw [hgb]; simp
                  have hne2 : (g != s[r].toNat) = false := by rw [hgb]; simp
                  obtain ⟨q, hq⟩ : ∃ q, q = Es.mgl j := ⟨_, rfl⟩
                  have hq8 : q < 256 := by rw [hq]; exact Es.mgl_lt j
                  have hqw : IntKind.i64.wrap (q : Int) = (q : Int) := by rw [IntKind.wrap_i64]; omega
                  have hmj : ∀ (h : j < (⟨#[34, 92, 47, 8, 12, 10, 13, 9]⟩ : ByteArray).size), ((⟨#[34, 92, 47, 8, 12, 10, 13, 9]⟩ : ByteArray)[j]'h).toNat = q := fun h => by rw [hq]; exact Es.means_at j hlt8 h
                  have hsg : Es.so ((s.data.toList.take E).drop k) = ((q : Int), 2) := by
                    rw [HSO.out, Es.sg_si _ j hlt8 hje, ← hq, if_pos (by omega)]
                  obtain ⟨hnx, hkn⟩ := HSX.out.next HEL.out hsg (by decide)
                  have HNX := hidden hnx
                  have h8 : ((j : Int) == 8) = false := by rw [beq_eq_false_iff_ne]; omega
                  clear hg hgb hq hsg hnx hje hj hb2
                  go_wp2_with fail
                  go_quiet (fail)
                  have HOq := hidden (HO.out.drewN (m + nq))
                  have HBq := hidden (below_drewN' HB.out (m + nq))
                  have hsz3 := HB.out.size
                  go_wp2_with (at_builtin; refine og_append _ rfl _ _ rfl w.heap.size _ O rfl (HOq.out.alloc _) _ 1 _ _ rfl (heap_alloc_new _ _) (by omega) (by simp; omega) ?_; intro v2 w4 h4 g4; have HO4 := hidden h4; have HB4 := hidden ((HBq.out.alloc HBq.out.size _).grown g4 (by simp; omega) (fun j hj => (HO.out.lt j hj).1)); clear h4 g4)
                  go_roundw
                  case rel => exact ⟨k + 2, O ++ [(q : Int)], by omega, by go_num, HNX.out, HO4.out, HB4.out⟩
                  case measure => simp [intOf]; omega
                · have hgb : g ≠ s[r].toNat := fun h => hje ((Es.si_at _ j hlt8).1 (by rw [← hg]; exact h))
                  have hne : ((g : Int) != ((s[r].toNat : Nat) : Int)) = true := by rw [bne_iff_ne]; omega
                  have hne2 : (g != s[r].toNat) = true := by rw [bne_iff_ne]; exact hgb
                  clear hg hgb hb2
                  go_wp2_with fail
                  go_quiet (fail)
                  go_wp2_with fail
                  go_roundw
                  case rel => exact ⟨j + 1, m + nq, by go_num, rfl, by omega, by omega⟩
                  case measure => simp [intOf]; omega
              · obtain rfl : j = 8 := by omega
                have hsg : Es.so ((s.data.toList.take E).drop k) = (-1, 0) := by
                  rw [HSO.out, Es.sg_no _ (by have := Es.si_le s[r].toNat; omega), if_neg (by decide)]
                have HF := hidden (HSX.out.fail HEL.out hlt hsg)
                clear hsg hj
                go_wp2_with fail
                go_quiet (fail)
                go_wp2_with fail
                go_ret2
                exact SsPost.no HF.out rfl (below_drewN' HB.out _)
          · have hsg : Es.so ((s.data.toList.take E).drop k) = (-1, 0) := by
              have h1 : (s.data.toList.take E).drop (k + 1) = [] := by
                apply List.eq_nil_of_length_eq_zero
                rw [List.length_drop, List.length_take]
                have h2 : s.data.toList.length = s.size := rfl
                omega
              rw [hR, h1, show s[k] = 92 from UInt8.toNat_inj.1 c3]
              exact Es.so_bare
            have HF := hidden (HSX.out.fail HEL.out hlt hsg)
            have g1 : decide ((E : Int) ≤ (k : Int) + 1) = true := decide_eq_true (by omega)
            clear hR hu1 c1 c2 hsg
            go_wp2_with fail
            refine (HU1.out _).mono ?_
            rintro e w2 ⟨rfl, rfl⟩
            go_wp2_with fail
            go_loopw [14] (fun v wq => ∃ j m : Nat, v = .int .i64 j ∧ wq = w2.drewN m ∧ j ≤ 8) (fun v _ => 8 - (intOf v).toNat)
            case atStart => exact ⟨0, 0, rfl, rfl, Nat.zero_le _⟩
            case round =>
              obtain ⟨j, m, rfl, rfl, hj8⟩ := hrel
              by_cases hlt8 : j < 8
              · have hlti : (j : Int) < 8 := by omega
                go_wp2_with fail
                go_quiet (fail)
                go_wp2_with fail
                go_roundw
                case rel => exact ⟨j + 1, m + nq, by go_num, rfl, by omega⟩
                case measure => simp [intOf]; omega
              · obtain rfl : j = 8 := by omega
                go_wp2_with fail
                go_quiet (fail)
                go_wp2_with fail
                go_ret2
                exact SsPost.no HF.out rfl (below_drewN' HB.out _)
        --units end
      · have d3 : (((s[k].toNat : Nat) : Int) != 92) = true := by rw [bne_iff_ne]; omega
        have hss : (s.extract k E).data.toList = (s.data.toList.take E).drop k := by
          rw [Ut.extract_list, List.drop_take]
        have HS := hidden (fun w => rScalar_any (s.extract k E) w (by rw [ByteArray.size_extract]; omega))
        rw [hss, hR] at HS
        have hkE2 : k ≤ E := by omega
        have hEs : E ≤ s.size := by omega
        by_cases c4 : Ut.ld 0 (s[k] :: (s.data.toList.take E).drop (k + 1)) = 0
        · have HF := hidden (HSX.out.fail HEL.out hlt (by rw [hR]; exact Es.so_odd _ _ c1 c2 c3 c4))
          rw [show Ut.sc (s[k] :: (s.data.toList.take E).drop (k + 1)) = (0, 0) from if_pos c4] at HS
          clear hR hss c1 c2 c3 c4
          go_wp2_with fail
          refine (HS.out _).mono ?_
          rintro e w3 ⟨rfl, hb3⟩
          have HB3 := hidden (Es.below_after HB.out hb3)
          clear hb3
          go_wp2_with fail
          go_ret2
          exact SsPost.no HF.out rfl HB3.out
        · have hso := Es.so_itself _ _ c1 c2 c3 c4
          have hn0 : (Ut.sc (s[k] :: (s.data.toList.take E).drop (k + 1))).2 ≠ 0 := by
            have := congrArg Prod.snd (Es.sc_take _ c4).1
            have h2 : (Ut.sc (s[k] :: (s.data.toList.take E).drop (k + 1))).2 = Ut.ld 0 (s[k] :: (s.data.toList.take E).drop (k + 1)) := this
            omega
          rw [← hR] at hso hn0 HS
          obtain ⟨X, hX⟩ : ∃ X, X = (Ut.sc ((s.data.toList.take E).drop k)).1 := ⟨_, rfl⟩
          obtain ⟨n, hn⟩ : ∃ n, n = (Ut.sc ((s.data.toList.take E).drop k)).2 := ⟨_, rfl⟩
          rw [← hX, ← hn] at HS hso
          rw [← hn] at hn0
          obtain ⟨hnx, hkn⟩ := HSX.out.next HEL.out hso (by omega)
          have HNX := hidden hnx
          have hnz : ((n : Int) == 0) = false := by rw [beq_eq_false_iff_ne]; omega
          clear hR hss c1 c2 c3 c4 hso hX hn hnx
          go_wp2_with fail
          refine (HS.out _).mono ?_
          rintro e w3 ⟨rfl, hb3⟩
          have HB3 := hidden (Es.below_after HB.out hb3)
          have HO3 := hidden (HO.out.below hb3)
          have hsz3 := HB3.out.size
          clear hb3
          go_wp2_with (at_builtin; refine og_append _ rfl _ _ rfl w.heap.size _ O rfl (HO3.out.alloc _) _ 1 (X : Int) _ rfl (heap_alloc_new _ _) (by omega) (by simp; omega) ?_; intro v2 w4 h4 g4; have HO4 := hidden h4; have HB4 := hidden ((HB3.out.alloc HB3.out.size _).grown g4 (by simp; omega) (fun j hj => (HO3.out.lt j hj).1)); clear h4 g4)
          go_roundw
          case rel => exact ⟨k + n, O ++ [(X : Int)], by omega, by go_num, HNX.out, HO4.out, HB4.out⟩
          case measure => simp [intOf]; omega
    · obtain rfl : k = E := by omega
      go_wp2_with fail
      go_ret2
      exact SsPost.yes (HSX.out.done HEL.out) rfl HO.out HB.out
end Go.Proofs.Ytjhjkahjljikhaa
