/-
  Lists of numbers and of bits that a call owns: what stays, what is appended, how they read; the contracts of law 13's SameInts and SameBits.
-/
import Derived.Deep.QuietTactic
import Derived.Lib.Builder
import Derived.Test.YtifkemcjificcaaMkMath
import Derived.Test.YtifkemcjificcaaUtWalk
import Derived.Test.YtifkemcjificcaaJBtMem
namespace Go.Proofs.Ytifkemcjificcaa
open Go.RowKit
namespace Mk
def vi (l : List Nat) : List Value := l.map fun i => Value.int .i64 (i : Nat)
def vb (l : List Bool) : List Value := l.map Value.bool
theorem vi_len (l : List Nat) : (vi l).length = l.length := List.length_map _
theorem vb_len (l : List Bool) : (vb l).length = l.length := List.length_map _
theorem vi_app (a b : List Nat) : vi (a ++ b) = vi a ++ vi b := List.map_append
theorem vb_app (a b : List Bool) : vb (a ++ b) = vb a ++ vb b := List.map_append
/-- Numbers behind the value v; bits behind it. -/
def Li (w : World) (B : Nat) (v : Value) (l : List Nat) : Prop := w.ownsRow B 3 1 v l.length (vi l)
def Lb (w : World) (B : Nat) (v : Value) (l : List Bool) : Prop := w.ownsRow B 4 1 v l.length (vb l)
theorem ow_base {w : World} {B C : Nat} {e : TypeId} {v : Value} {n : Nat} {xs : List Value} (h : w.ownsRow B e 1 v n xs) (hC : C ≤ B) : w.ownsRow C e 1 v n xs := by
  refine ⟨h.1, ?_⟩
  rcases h.2 with h | ⟨g, cap, cur, hv, hb, r⟩
  · exact .inl h
  · exact .inr ⟨g, cap, cur, hv, Nat.le_trans hC hb, r⟩
theorem ow_kept {B C : Nat} {e : TypeId} {u u' : World} {v : Value} {n : Nat} {xs : List Value} (h : u.ownsRow B e 1 v n xs) (hb : Below C u u') (hC : u.heap.size ≤ C) : u'.ownsRow B e 1 v n xs := by
  refine ⟨h.1, ?_⟩
  rcases h.2 with h | ⟨g, cap, cur, hv, hB, hg, r⟩
  · exact .inl h
  · exact .inr ⟨g, cap, cur, hv, hB, by rw [hb.block g (Nat.lt_of_lt_of_le (lt_of_block hg) hC)]; exact hg, r⟩
theorem ow_lt {B : Nat} {e : TypeId} {u : World} {v : Value} {n : Nat} {xs : List Value} (h : u.ownsRow B e 1 v n xs) : ∀ k, v.ownBlock = some k → k < u.heap.size := fun k hk => (h.lt k hk).2
theorem ow_drewN {B : Nat} {e : TypeId} {u : World} {v : Value} {n : Nat} {xs : List Value} (h : u.ownsRow B e 1 v n xs) (k : Nat) : (u.drewN k).ownsRow B e 1 v n xs := h
theorem ow_grown {B : Nat} {e : TypeId} {u u' : World} {v : Value} {n : Nat} {xs : List Value} (hB : B ≤ u.heap.size) (hown : u.ownsRow B e 1 v n xs) (h : u.grownBy u' v.ownBlock) : Below B u u' :=
  ⟨h.os, h.tape, h.output, h.size, fun i hi => h.block i (by have := h.size; omega) (fun e => by have := hown.lt i e.symm; omega)⟩
theorem ow_grown1 {B : Nat} {e : TypeId} {u u' : World} {v : Value} {n : Nat} {xs : List Value} {o : Obj} (hB : B ≤ u.heap.size) (hown : u.ownsRow B e 1 v n xs) (h : (u.alloc o).grownBy u' v.ownBlock) : Below B u u' :=
  ((Below.refl B u).alloc hB o).trans (ow_grown (Nat.le_trans hB ((Below.refl B u).alloc hB o).size) (hown.alloc o) h)
theorem ow_form {B : Nat} {e : TypeId} {u : World} {v : Value} {n : Nat} {xs : List Value} (h : u.ownsRow B e 1 v n xs) : ∃ ao cap, v = .slice ao n cap ∧ n ≤ cap ∧ (0 < n → ∃ g, ao = some ⟨g, 0, none⟩ ∧ g < u.heap.size ∧ ∀ j, j < n → u.cell? ⟨g, j, none⟩ = xs[j]?) := by
  have hl : xs.length = n := by have := h.1; omega
  rcases h.2 with ⟨hv, h0⟩ | ⟨g, cap, cur, hv, hb, hg, hnc, r⟩
  · exact ⟨none, 0, by rw [hv, h0], by omega, fun hn => by omega⟩
  · refine ⟨some ⟨g, 0, none⟩, cap, hv, hnc, fun _ => ⟨g, rfl, lt_of_block hg, fun j hj => ?_⟩⟩
    subst hv
    exact h.cellAt j (by omega)
theorem Li.at {w : World} {B : Nat} {v : Value} {l : List Nat} (h : Li w B v l) : ∃ ao cap, v = .slice ao l.length cap ∧ l.length ≤ cap ∧ (0 < l.length → ∃ g, ao = some ⟨g, 0, none⟩ ∧ g < w.heap.size ∧ ∀ j (hj : j < l.length), w.cell? ⟨g, j, none⟩ = some (.int .i64 (l[j] : Nat))) := by
  obtain ⟨ao, cap, hv, hc, hg⟩ := ow_form h
  refine ⟨ao, cap, hv, hc, fun h0 => ?_⟩
  obtain ⟨g, h1, h2, h3⟩ := hg h0
  refine ⟨g, h1, h2, fun j hj => ?_⟩
  rw [h3 j hj]
  unfold vi
  rw [List.getElem?_map, List.getElem?_eq_getElem hj]
  rfl
theorem Lb.at {w : World} {B : Nat} {v : Value} {l : List Bool} (h : Lb w B v l) : ∃ ao cap, v = .slice ao l.length cap ∧ l.length ≤ cap ∧ (0 < l.length → ∃ g, ao = some ⟨g, 0, none⟩ ∧ g < w.heap.size ∧ ∀ j (hj : j < l.length), w.cell? ⟨g, j, none⟩ = some (.bool l[j])) := by
  obtain ⟨ao, cap, hv, hc, hg⟩ := ow_form h
  refine ⟨ao, cap, hv, hc, fun h0 => ?_⟩
  obtain ⟨g, h1, h2, h3⟩ := hg h0
  refine ⟨g, h1, h2, fun j hj => ?_⟩
  rw [h3 j hj]
  unfold vb
  rw [List.getElem?_map, List.getElem?_eq_getElem hj]
  rfl
theorem Li.get {w : World} {B : Nat} {v : Value} {l : List Nat} {n : Nat} (h : Li w B v l) (hn : l.length = n) : ∃ ao cap, v = .slice ao n cap ∧ n ≤ cap ∧ (0 < n → ∃ g, ao = some ⟨g, 0, none⟩ ∧ g < w.heap.size ∧ ∀ j, j < n → w.cell? ⟨g, j, none⟩ = some (.int .i64 (l.getD j 0 : Nat))) := by
  subst hn
  obtain ⟨ao, cap, hv, hc, hg⟩ := h.at
  refine ⟨ao, cap, hv, hc, fun h0 => ?_⟩
  obtain ⟨g, h1, h2, h3⟩ := hg h0
  refine ⟨g, h1, h2, fun j hj => ?_⟩
  rw [h3 j hj, List.getD_eq_getElem?_getD, List.getElem?_eq_getElem hj]
  rfl
theorem Lb.get {w : World} {B : Nat} {v : Value} {l : List Bool} {n : Nat} (h : Lb w B v l) (hn : l.length = n) : ∃ ao cap, v = .slice ao n cap ∧ n ≤ cap ∧ (0 < n → ∃ g, ao = some ⟨g, 0, none⟩ ∧ g < w.heap.size ∧ ∀ j, j < n → w.cell? ⟨g, j, none⟩ = some (.bool (l.getD j false))) := by
  subst hn
  obtain ⟨ao, cap, hv, hc, hg⟩ := h.at
  refine ⟨ao, cap, hv, hc, fun h0 => ?_⟩
  obtain ⟨g, h1, h2, h3⟩ := hg h0
  refine ⟨g, h1, h2, fun j hj => ?_⟩
  rw [h3 j hj, List.getD_eq_getElem?_getD, List.getElem?_eq_getElem hj]
  rfl
theorem Li.nil (w : World) (B : Nat) : Li w B (.slice none 0 0) [] := World.ownsRow_nil _ _ _ _
theorem Lb.nil (w : World) (B : Nat) : Lb w B (.slice none 0 0) [] := World.ownsRow_nil _ _ _ _
/-- Lists of one length that differ at a place, or don't. -/
theorem same_upto {α : Type} (l m : List α) (h : l.length = m.length) (hall : ∀ j (h1 : j < l.length) (h2 : j < m.length), l[j] = m[j]) : l = m := List.ext_getElem h hall
theorem differ {α : Type} (l m : List α) (j : Nat) (h1 : j < l.length) (h2 : j < m.length) (h : l[j] ≠ m[j]) : l ≠ m := fun e => by
  subst e
  exact h rfl
end Mk
set_option maxHeartbeats 2000000 in
theorem mSameInts_any (l m : List Nat) (va vb : Value) (B C : Nat) (w : World) (ha : Mk.Li w B va l) (hb : Mk.Li w C vb m) (hl : l.length ≤ 1000000) (hm : m.length ≤ 1000000) :
    Calls Try.prog 10 #[va, vb] w fun e w' => e = .returned (.bool (decide (l = m))) ∧ Below w.heap.size w w' := by
  obtain ⟨ao, ca, rfl, hca, hfa⟩ := ha.at
  obtain ⟨bo, cb, rfl, hcb, hfb⟩ := hb.at
  have HFA := hidden hfa
  have HFB := hidden hfb
  clear ha hb hfa hfb
  by_cases hlen : l.length = m.length
  · have HLN := hidden hlen
    have e1 : (((l.length : Nat) : Int) != ((m.length : Nat) : Int)) = false := by rw [hlen]; exact bne_self_eq_false _
    have e1n : (l.length != m.length) = false := by rw [hlen]; exact bne_self_eq_false _
    clear hlen
    go_enter Try.func10, Try.ntmps10
    go_wp2_with fail
    go_loopw [5] (fun i wr => ∃ j k : Nat, j ≤ l.length ∧ i = .int .i64 (j : Nat) ∧ wr = w.drewN k ∧ ∀ t (h1 : t < l.length) (h2 : t < m.length), t < j → l[t] = m[t]) (fun i _ => l.length - (intOf i).toNat)
    case atStart => exact ⟨0, 0, Nat.zero_le _, rfl, rfl, fun t _ _ h => by omega⟩
    case round =>
      obtain ⟨j, k, hj, rfl, rfl, hall⟩ := hrel
      have HALL := hidden hall
      clear hall
      by_cases hlt : j < l.length
      · have hlt2 : decide ((j : Int) < ((l.length : Nat) : Int)) = true := decide_eq_true (by omega)
        have hltm : j < m.length := by have := HLN.out; omega
        obtain ⟨g, rfl, hg, hga⟩ := HFA.out (by omega)
        obtain ⟨g2, rfl, hg2, hgb⟩ := HFB.out (by omega)
        have c1 := hga j hlt
        have c2 := hgb j hltm
        obtain ⟨x, hx⟩ : ∃ x, x = l[j] := ⟨_, rfl⟩
        obtain ⟨y, hy⟩ : ∃ y, y = m[j] := ⟨_, rfl⟩
        rw [← hx] at c1
        rw [← hy] at c2
        have HXY := hidden (And.intro hx hy)
        clear hga hgb hx hy
        by_cases hxy : x = y
        · subst hxy
          have e3 : ((x : Int) != (x : Int)) = false := bne_self_eq_false _
          have e3n : (x != x) = false := bne_self_eq_false _
          go_wp2_with fail
          go_quiet (fail)
          go_wp2_with fail
          go_roundw
          case rel =>
            refine ⟨j + 1, k + nq, hlt, by go_num, rfl, fun t h1 h2 h3 => ?_⟩
            by_cases h4 : t < j
            · exact HALL.out t h1 h2 h4
            · obtain rfl : t = j := by omega
              exact HXY.out.1.symm.trans HXY.out.2
          case measure => simp [intOf]; omega
        · have HNE := hidden hxy
          have e3 : ((x : Int) != (y : Int)) = true := by rw [bne_iff_ne]; omega
          have e3n : (x != y) = true := by rw [bne_iff_ne]; exact hxy
          clear hxy
          go_wp2_with fail
          go_quiet (fail)
          go_wp2_with fail
          go_ret
          refine ⟨?_, drewN_below (drewN_below (Below.refl _ _) _) _⟩
          rw [decide_eq_false (Mk.differ l m j hlt hltm (by rw [← HXY.out.1, ← HXY.out.2]; exact HNE.out))]
          rfl
      · obtain rfl : j = l.length := by omega
        have hlt2 : decide (((l.length : Nat) : Int) < ((l.length : Nat) : Int)) = false := decide_eq_false (by omega)
        go_wp2_with fail
        go_ret
        refine ⟨?_, drewN_below (Below.refl _ _) _⟩
        rw [decide_eq_true (Mk.same_upto l m HLN.out (fun t h1 h2 => HALL.out t h1 h2 h1))]
        rfl
  · have HLN := hidden hlen
    have e1 : (((l.length : Nat) : Int) != ((m.length : Nat) : Int)) = true := by rw [bne_iff_ne]; omega
    have e1n : (l.length != m.length) = true := by rw [bne_iff_ne]; exact hlen
    clear hlen
    go_enter Try.func10, Try.ntmps10
    go_wp2_with fail
    go_ret
    refine ⟨?_, Below.refl _ _⟩
    rw [decide_eq_false (fun e => HLN.out (congrArg List.length e))]
    rfl
set_option maxHeartbeats 2000000 in
theorem mSameBits_any (l m : List Bool) (va vb : Value) (B C : Nat) (w : World) (ha : Mk.Lb w B va l) (hb : Mk.Lb w C vb m) (hl : l.length ≤ 1000000) (hm : m.length ≤ 1000000) :
    Calls Try.prog 13 #[va, vb] w fun e w' => e = .returned (.bool (decide (l = m))) ∧ Below w.heap.size w w' := by
  obtain ⟨ao, ca, rfl, hca, hfa⟩ := ha.at
  obtain ⟨bo, cb, rfl, hcb, hfb⟩ := hb.at
  have HFA := hidden hfa
  have HFB := hidden hfb
  clear ha hb hfa hfb
  by_cases hlen : l.length = m.length
  · have HLN := hidden hlen
    have e1 : (((l.length : Nat) : Int) != ((m.length : Nat) : Int)) = false := by rw [hlen]; exact bne_self_eq_false _
    have e1n : (l.length != m.length) = false := by rw [hlen]; exact bne_self_eq_false _
    clear hlen
    go_enter Try.func13, Try.ntmps13
    go_wp2_with fail
    go_loopw [5] (fun i wr => ∃ j k : Nat, j ≤ l.length ∧ i = .int .i64 (j : Nat) ∧ wr = w.drewN k ∧ ∀ t (h1 : t < l.length) (h2 : t < m.length), t < j → l[t] = m[t]) (fun i _ => l.length - (intOf i).toNat)
    case atStart => exact ⟨0, 0, Nat.zero_le _, rfl, rfl, fun t _ _ h => by omega⟩
    case round =>
      obtain ⟨j, k, hj, rfl, rfl, hall⟩ := hrel
      have HALL := hidden hall
      clear hall
      by_cases hlt : j < l.length
      · have hlt2 : decide ((j : Int) < ((l.length : Nat) : Int)) = true := decide_eq_true (by omega)
        have hltm : j < m.length := by have := HLN.out; omega
        obtain ⟨g, rfl, hg, hga⟩ := HFA.out (by omega)
        obtain ⟨g2, rfl, hg2, hgb⟩ := HFB.out (by omega)
        have c1 := hga j hlt
        have c2 := hgb j hltm
        obtain ⟨x, hx⟩ : ∃ x, x = l[j] := ⟨_, rfl⟩
        obtain ⟨y, hy⟩ : ∃ y, y = m[j] := ⟨_, rfl⟩
        rw [← hx] at c1
        rw [← hy] at c2
        have HXY := hidden (And.intro hx hy)
        clear hga hgb hx hy
        by_cases hxy : x = y
        · subst hxy
          cases x
          all_goals (
            go_wp2_with fail
            go_quiet (fail)
            go_wp2_with fail
            go_roundw
            case rel =>
              refine ⟨j + 1, k + nq, hlt, by go_num, rfl, fun t h1 h2 h3 => ?_⟩
              by_cases h4 : t < j
              · exact HALL.out t h1 h2 h4
              · obtain rfl : t = j := by omega
                exact HXY.out.1.symm.trans HXY.out.2
            case measure => simp [intOf]; omega)
        · have HNE := hidden hxy
          cases x <;> cases y
          all_goals first | (exact absurd rfl hxy) | (
            clear hxy
            go_wp2_with fail
            go_quiet (fail)
            go_wp2_with fail
            go_ret
            refine ⟨?_, drewN_below (drewN_below (Below.refl _ _) _) _⟩
            rw [decide_eq_false (Mk.differ l m j hlt hltm (by rw [← HXY.out.1, ← HXY.out.2]; exact HNE.out))]
            rfl)
      · obtain rfl : j = l.length := by omega
        have hlt2 : decide (((l.length : Nat) : Int) < ((l.length : Nat) : Int)) = false := decide_eq_false (by omega)
        go_wp2_with fail
        go_ret
        refine ⟨?_, drewN_below (Below.refl _ _) _⟩
        rw [decide_eq_true (Mk.same_upto l m HLN.out (fun t h1 h2 => HALL.out t h1 h2 h1))]
        rfl
  · have HLN := hidden hlen
    have e1 : (((l.length : Nat) : Int) != ((m.length : Nat) : Int)) = true := by rw [bne_iff_ne]; omega
    have e1n : (l.length != m.length) = true := by rw [bne_iff_ne]; exact hlen
    clear hlen
    go_enter Try.func13, Try.ntmps13
    go_wp2_with fail
    go_ret
    refine ⟨?_, Below.refl _ _⟩
    rw [decide_eq_false (fun e => HLN.out (congrArg List.length e))]
    rfl
end Go.Proofs.Ytifkemcjificcaa
