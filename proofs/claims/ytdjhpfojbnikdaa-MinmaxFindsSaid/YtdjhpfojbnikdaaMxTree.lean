/-
  A tree in memory, and the contract of minmax.New: of every row its tree, in new memory; nothing that was there is changed.
-/
import Derived.Test.YtdjhpfojbnikdaaMxPairs
import Derived.Test.YtdjhpfojbnikdaaLaws
namespace Go.Proofs.Ytdjhpfojbnikdaa
open Go.RowKit
/-- The k-th level's slice, and those of the first m levels. -/
def Mx.sl (n : Nat) (gs : Nat → Nat) (k : Nat) : Value := .slice (some ⟨gs k, 0, none⟩) (Mx.ln n k) (Mx.ln n k)
def Mx.sls (n : Nat) (gs : Nat → Nat) (m : Nat) : List Value := (List.range m).map (Mx.sl n gs)
theorem Mx.sls_succ (n : Nat) (gs : Nat → Nat) (m : Nat) : Mx.sls n gs (m + 1) = Mx.sls n gs m ++ [Mx.sl n gs m] := by
  unfold Mx.sls
  rw [List.range_succ, List.map_append]
  rfl
theorem Mx.sls_congr (n : Nat) (gs gs' : Nat → Nat) (m : Nat) (h : ∀ k, k < m → gs k = gs' k) : Mx.sls n gs m = Mx.sls n gs' m := by
  unfold Mx.sls
  apply List.map_congr_left
  intro k hk
  unfold Mx.sl
  rw [h k (List.mem_range.1 hk)]
theorem Mx.sls_get (n : Nat) (gs : Nat → Nat) (m k : Nat) (h : k < m) : (Mx.sls n gs m)[k]? = some (Mx.sl n gs k) := by
  unfold Mx.sls
  simp [h]
theorem Mx.few (n k : Nat) (hn : n ≤ 4294967296) (h : 1 < Mx.ln n k) : k < 32 := by
  have h1 := (Mx.ln_iff n k 1).1 h
  unfold Mx.wd at h1
  by_cases hk : k < 32
  · exact hk
  · have := Nat.pow_le_pow_right (show 0 < 2 by decide) (show 32 ≤ k by omega)
    have e : 2 ^ 32 = 4294967296 := rfl
    omega
/-- The tree in block t: its row, and its m levels, in the blocks gs. -/
structure Tr (w : World) (t r n X : Nat) (u : Value) (gs : Nat → Nat) (m : Nat) : Prop where
  row : Rw w r n X u
  cells : ∃ lv, w.heap[t]? = some (.cells #[.pointer (some ⟨r, 0, none⟩), lv] 51 (0, 0)) ∧ w.ownsRow 0 47 1 lv m (Mx.sls n gs m)
  each : ∀ k, k < m → ∃ cur, w.heap[gs k]? = some (.cells cur 68 (0, 0)) ∧ Mx.Cur cur X n (Mx.wd k) (Mx.ln n k) (Mx.ln n k)
  more : ∀ k, k + 1 < m → 1 < Mx.ln n k
  pos : 0 < m
  top : Mx.ln n (m - 1) ≤ 1
theorem Tr.below {w w' : World} {t r n X : Nat} {u : Value} {gs : Nat → Nat} {m C : Nat} (h : Tr w t r n X u gs m) (hb : Below C w w') (hC : w.heap.size ≤ C) : Tr w' t r n X u gs m := by
  obtain ⟨lv, h1, h2⟩ := h.cells
  refine ⟨h.row.below hb hC, ⟨lv, by rw [hb.block t (Nat.lt_of_lt_of_le (lt_of_block h1) hC)]; exact h1, own_below h2 hb hC⟩, fun k hk => ?_, h.more, h.pos, h.top⟩
  obtain ⟨cur, h3, h4⟩ := h.each k hk
  exact ⟨cur, by rw [hb.block _ (Nat.lt_of_lt_of_le (lt_of_block h3) hC)]; exact h3, h4⟩
theorem Tr.few {w : World} {t r n X : Nat} {u : Value} {gs : Nat → Nat} {m : Nat} (h : Tr w t r n X u gs m) : m ≤ 33 := by
  by_cases hm : m ≤ 1
  · omega
  · have := Mx.few n (m - 2) h.row.len (h.more (m - 2) (by omega))
    omega
theorem own_form {w : World} {B : Nat} {e : TypeId} {s : Nat} {v : Value} {n : Nat} {xs : List Value} (h : w.ownsRow B e s v n xs) (hn : 0 < n) : ∃ g cap, v = .slice (some ⟨g, 0, none⟩) n cap ∧ n ≤ cap := by
  rcases h.2 with ⟨_, h0⟩ | ⟨g, cap, cur, hv, _, _, hc, _⟩
  · omega
  · exact ⟨g, cap, hv, hc⟩
def Mx.lenV : Value → Nat
  | .slice _ n _ => n
  | _ => 0
theorem Try.infoLevel : (Try.prog.info? 47).map (fun i => (i.zero, i.size, i.bytes)) = some (some (.slice none 0 0), 1, 24) := by kernel_rfl
set_option maxHeartbeats 2000000 in
set_option maxRecDepth 100000 in
theorem MNew_any (r n X : Nat) (u : Value) (w : World) (h : Rw w r n X u) :
    Calls Try.prog 9 #[.pointer (some ⟨r, 0, none⟩)] w fun e w' => ∃ t gs m, e = .returned (.pointer (some ⟨t, 0, none⟩)) ∧ Tr w' t r n X u gs m ∧ Below w.heap.size w w' := by
  obtain ⟨i0, hi, hz0, hz1, hz2⟩ := info_parts Try.infoLevel
  have HR := hidden h
  have hl := h.len
  clear h
  go_enter Try.func9, Try.ntmps9
  go_wp2_with fail
  refine (blocks_any r n X u _ HR.out).mono ?_
  rintro e' w1 ⟨g1, cur1, rfl, hg1, hc1, hb1, hge1⟩
  have hs1 := hb1.size
  have HG1 := hidden hg1
  have HC1 := hidden hc1
  have HB1 := hidden hb1
  clear hg1 hc1 hb1
  go_wp2_with fail
  go_loopw [3] (fun s3 wr => ∃ (k : Nat) (gs : Nat → Nat) (lv : Value), s3 = Mx.sl n gs k ∧ wr.heap[w1.heap.size + 1]? = some (.cells #[.pointer (some ⟨r, 0, none⟩), lv] 51 (0, 0)) ∧ wr.ownsRow w.heap.size 47 1 lv (k + 1) (Mx.sls n gs (k + 1)) ∧ (∀ j, j ≤ k → ∃ cur, wr.heap[gs j]? = some (.cells cur 68 (0, 0)) ∧ Mx.Cur cur X n (Mx.wd j) (Mx.ln n j) (Mx.ln n j)) ∧ (∀ j, j < k → 1 < Mx.ln n j) ∧ Below w.heap.size w wr) (fun s3 _ => Mx.lenV s3)
  case atStart =>
    refine ⟨0, fun _ => g1, .slice (some ⟨w1.heap.size, 0, none⟩) 1 1, rfl, heap_new_at (by simp), ?_, ?_, fun j hj => by omega, (HB1.out.alloc hs1 _).alloc (by simp; omega) _⟩
    · exact (World.ownsRow_lit w1 _ 1 hs1 (by decide) rfl).alloc _
    · intro j hj
      obtain rfl : j = 0 := by omega
      refine ⟨cur1, ?_, HC1.out⟩
      have := lt_of_block HG1.out
      rw [Below.heap_alloc _ _ _ (by simp; omega), Below.heap_alloc _ _ _ (by omega)]
      exact HG1.out
  case round =>
    obtain ⟨k, gs, lv, rfl, ht, hown, heach, hmore, hbel⟩ := hrel
    have HT := hidden ht
    have HO := hidden hown
    have HEA := hidden heach
    have HM := hidden hmore
    have HB := hidden hbel
    have hsz := hbel.size
    clear ht hown heach hmore hbel
    obtain ⟨c, hc⟩ : ∃ c, c = Mx.ln n k := ⟨_, rfl⟩
    have hsl : Mx.sl n gs k = .slice (some ⟨gs k, 0, none⟩) c c := by rw [hc]; rfl
    rw [hsl]
    by_cases hlt : 1 < c
    · have hk32 := Mx.few n k hl (by omega)
      obtain ⟨cur, hg, hcu⟩ := HEA.out k (Nat.le_refl _)
      have hc32 : c ≤ 4294967296 := by
        rw [hc]
        have h1 := (Mx.ln_iff n k (Mx.ln n k - 1)).1 (by omega)
        have h2 := Mx.wd_pos k
        have h3 : Mx.ln n k - 1 ≤ (Mx.ln n k - 1) * Mx.wd k := Nat.le_mul_of_pos_right _ h2
        omega
      have HP := hidden (pairs_any X n (Mx.wd k) c (gs k) cur wr hg (by rw [hc]; exact hcu) (fun i => by rw [hc]; exact Mx.ln_iff n k i) (Mx.wd_pos k) hc32 hl)
      have hc' : (1 : Int) < (c : Int) := by omega
      have HC := hidden hc
      clear hg hcu hsl hc
      go_wp2_with fail
      refine HP.out.mono ?_
      rintro e' w2 ⟨g2, cur2, rfl, hg2, hcu2, hb2, hge2⟩
      have hs2 := hb2.size
      have htl := lt_of_block HT.out
      have t2 : w2.heap[w1.heap.size + 1]? = some (.cells #[.pointer (some ⟨r, 0, none⟩), lv] 51 (0, 0)) := (hb2.block _ htl).trans HT.out
      have T2 := hidden t2
      have q1 : w2.cell? ⟨w1.heap.size + 1, 1, none⟩ = some lv := Lib.cell_of_heap t2 1
      have HO2 := hidden (own_below HO.out hb2 (Nat.le_refl _))
      have HG2 := hidden hg2
      have HCU2 := hidden hcu2
      have HBL2 := hidden hb2
      have hgl2 := lt_of_block hg2
      clear hg2 hcu2 hb2 t2
      obtain ⟨c2, hc2⟩ : ∃ c2, c2 = (c + 1) / 2 := ⟨_, rfl⟩
      rw [← hc2] at HCU2 ⊢
      have HC2 := hidden hc2
      clear hc2
      have hne := own_other HO2.out T2.out (by decide)
      go_wp2_with (at_builtin; refine wpList_append_one _ rfl (.tmp 21) (.tmp 23) 49 rfl w.heap.size 47 i0 (.slice none 0 0) 24 Try.underlying49 hi hz0 hz1 hz2 rfl lv (k + 1) (Mx.sls n gs (k + 1)) rfl (by exact HO2.out.alloc _) _ 1 (.slice (some ⟨g2, 0, none⟩) c2 c2) _ rfl (by exact heap_alloc_new _ _) rfl (by unfold maxLen; omega) (by omega) (by simp; omega) ?_; intro v3 w3 hown3 hgrow3; obtain ⟨g3, cap3, hv3, _⟩ := own_form hown3 (by omega); subst hv3; have HO3 := hidden hown3; have HG3 := hidden hgrow3; have hs3 := hgrow3.size; have t3 : w3.heap[w1.heap.size + 1]? = some (.cells #[.pointer (some ⟨r, 0, none⟩), lv] 51 (0, 0)) := ((hgrow3.block _ (by simp; omega) (Ne.symm hne)).trans (Below.heap_alloc _ _ _ (by omega))).trans T2.out; have T3 := hidden t3; have q3 : w3.cell? ⟨w1.heap.size + 1, 1, none⟩ = some lv := Lib.cell_of_heap t3 1; have f3 : w3.frozen? ⟨w1.heap.size + 1, 1, none⟩ = false := Lib.frozen_of_heap t3 1; clear hown3 hgrow3 t3)
      go_roundw
      case rel =>
        refine ⟨k + 1, fun j => if j = k + 1 then g2 else gs j, .slice (some ⟨g3, 0, none⟩) (k + 1 + 1) cap3, ?_, ?_, ?_, ?_, ?_, ?_⟩
        · unfold Mx.sl
          simp only [if_true]
          rw [Mx.ln_succ, ← HC.out, ← HC2.out]
        · exact setCell_heap_same _ _ _ _ _ _ _ T3.out
        · have hx := HO3.out
          have e1 : Mx.sls n (fun j => if j = k + 1 then g2 else gs j) (k + 1) = Mx.sls n gs (k + 1) := Mx.sls_congr n _ _ _ fun j hj => if_neg (by omega)
          have e2 : Mx.sl n (fun j => if j = k + 1 then g2 else gs j) (k + 1) = .slice (some ⟨g2, 0, none⟩) c2 c2 := by
            unfold Mx.sl
            simp only [if_true]
            rw [Mx.ln_succ, ← HC.out, ← HC2.out]
          rw [Mx.sls_succ, e1, e2]
          refine own_same hx fun j hj => setCell_heap_other _ _ _ _ ?_
          rintro rfl
          exact own_other hx T3.out (by decide) hj
        · intro j hj
          by_cases e : j = k + 1
          · subst e
            simp only [if_true]
            refine ⟨cur2, ?_, ?_⟩
            · rw [setCell_heap_other _ _ _ _ (by rintro rfl; have := T3.out; have h2 := (HG3.out.block _ (by simp; omega) (Ne.symm hne)).trans (Below.heap_alloc _ _ _ hgl2); rw [h2, HG2.out] at this; simp at this)]
              refine ((HG3.out.block _ (by simp; omega) ?_).trans (Below.heap_alloc _ _ _ hgl2)).trans HG2.out
              exact Ne.symm (own_other HO2.out HG2.out (by decide))
            · rw [Mx.ln_succ, Mx.wd_succ, ← HC.out, ← HC2.out]
              exact HCU2.out
          · simp only [if_neg e]
            obtain ⟨cj, h1, h2⟩ := HEA.out j (by omega)
            have hl1 := lt_of_block h1
            have h1' := (HBL2.out.block _ hl1).trans h1
            refine ⟨cj, ?_, h2⟩
            rw [setCell_heap_other _ _ _ _ (by intro e3; have e4 := T2.out; have e5 : gs j = w1.heap.size + 1 := e3; rw [← e5] at e4; rw [h1'] at e4; simp at e4)]
            refine ((HG3.out.block _ (by simp; omega) ?_).trans (Below.heap_alloc _ _ _ (by omega))).trans h1'
            exact Ne.symm (own_other HO2.out h1' (by decide))
        · intro j hj
          by_cases e : j = k
          · subst e
            rw [← HC.out]
            exact hlt
          · exact HM.out j (by omega)
        · have hx1 : Below w.heap.size w w2 := HB.out.trans (HBL2.out.mono hsz)
          exact (((hx1.alloc (by omega) _).grown HG3.out (by simp; omega) (fun j e => (HO2.out.lt j e).1)).setCell (by show _ ≤ w1.heap.size + 1; omega) _)
      case measure =>
        show c2 < c
        have := HC2.out
        omega
    · go_wp2_with fail
      go_ret
      have htop : Mx.ln n k ≤ 1 := by omega
      exact ⟨_, gs, k + 1, rfl, ⟨HR.out.below HB.out (Nat.le_refl _), ⟨lv, HT.out, own_base HO.out (Nat.zero_le _)⟩, fun j hj => HEA.out j (by omega), fun j hj => HM.out j (by omega), by omega, htop⟩, HB.out⟩
end Go.Proofs.Ytdjhpfojbnikdaa
