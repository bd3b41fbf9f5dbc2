/-
  Two builders beside each other: what a Put into the one leaves of the other.
-/
import Derived.Test.YtfohldojcdhnhaaDoorBtList
namespace Go.Proofs.YtfohldojcdhnhaaDoor
open Go.RowKit
theorem Bd.drew {w : World} {B b n X : Nat} {v : Value} (h : Bd w B b n X v) : Bd w.drew B b n X v := ⟨h.base, h.len, h.lt, h.cells, h.own⟩
theorem Kp.undrew {w w' : World} {b : Nat} {v v' : Value} (h : Kp w.drew w' b v v') : Kp w w' b v v' := ⟨h.os, h.tape, h.output, h.size, h.block, h.own⟩
theorem Bd.kp {w w' : World} {B b b2 n m X Y : Nat} {v v' u : Value} (h : Bd w B b n X v) (h2 : Bd w B b2 m Y u) (hb : b2 ≠ b) (hne : ∀ k, v.ownBlock = some k → u.ownBlock ≠ some k) (k : Kp w w' b v v') : Bd w' B b2 m Y u := by
  refine ⟨h2.base, h2.len, h2.lt, ?_, own_same h2.own fun i hi => k.block i (own_lt h2.own i hi) ?_ (fun e => hne i e hi)⟩
  · rw [k.block b2 (lt_of_block h2.cells) hb (own_other h.own h2.cells (by decide))]
    exact h2.cells
  · intro e
    subst e
    exact own_other h2.own h.cells (by decide) hi
/-- Builders in blocks a and b, with their own words. -/
structure Two (W wr : World) (B a b : Nat) (La Lb : List Bool) (va vb : Value) : Prop where
  fa : Bd wr B a La.length (Bt.num La) va
  fb : Bd wr B b Lb.length (Bt.num Lb) vb
  ab : a ≠ b
  ne : ∀ k, va.ownBlock = some k → vb.ownBlock ≠ some k
  bel : Below W.heap.size W wr
  base : W.heap.size ≤ B
theorem Two.drew {W wr : World} {B a b : Nat} {La Lb : List Bool} {va vb : Value} (h : Two W wr B a b La Lb va vb) : Two W wr.drew B a b La Lb va vb := ⟨h.fa.drew, h.fb.drew, h.ab, h.ne, h.bel.drew, h.base⟩
theorem Two.putA {W wr w' : World} {B a b : Nat} {La Lb L' : List Bool} {va vb va' : Value} (h : Two W wr B a b La Lb va vb) (hb : Bd w' B a L'.length (Bt.num L') va') (k : Kp wr w' a va va') : Two W w' B a b L' Lb va' vb := by
  refine ⟨hb, h.fa.kp h.fb (Ne.symm h.ab) h.ne k, h.ab, fun i hi => ?_, h.bel.trans ((k.below h.fa).mono h.base), h.base⟩
  rcases k.own with e | ⟨g, e, hg⟩
  · exact h.ne i (e ▸ hi)
  · intro e2
    have := own_lt h.fb.own i e2
    rw [e] at hi
    simp at hi
    omega
theorem Two.putB {W wr w' : World} {B a b : Nat} {La Lb L' : List Bool} {va vb vb' : Value} (h : Two W wr B a b La Lb va vb) (hb : Bd w' B b L'.length (Bt.num L') vb') (k : Kp wr w' b vb vb') : Two W w' B a b La L' va vb' := by
  refine ⟨h.fb.kp h.fa h.ab (fun i hi e => h.ne i e hi) k, hb, h.ab, fun i hi e2 => ?_, h.bel.trans ((k.below h.fb).mono h.base), h.base⟩
  rcases k.own with e | ⟨g, e, hg⟩
  · exact h.ne i hi (e ▸ e2)
  · have := own_lt h.fa.own i hi
    rw [e] at e2
    simp at e2
    omega
theorem Two.new {W w1 : World} (h : Below W.heap.size W w1) : Two W ((w1.alloc (.cells #[.int .i64 0, .slice none 0 0, .int .u64 0] 69)).alloc (.cells #[.int .i64 0, .slice none 0 0, .int .u64 0] 69)) w1.heap.size w1.heap.size (w1.heap.size + 1) [] [] (.slice none 0 0) (.slice none 0 0) := by
  have hs := h.size
  refine ⟨(Bd.new w1).below ((Below.refl _ _).alloc (Nat.le_refl _) _) (Nat.le_refl _), ?_, by omega, fun k hk => by simp [Value.ownBlock] at hk, (h.alloc hs _).alloc (by simp; omega) _, hs⟩
  have hn := Bd.new (w1.alloc (.cells #[.int .i64 0, .slice none 0 0, .int .u64 0] 69))
  have e : (w1.alloc (.cells #[.int .i64 0, .slice none 0 0, .int .u64 0] 69)).heap.size = w1.heap.size + 1 := by simp
  rw [e] at hn
  exact ⟨by omega, hn.len, hn.lt, hn.cells, World.ownsRow_nil _ _ _ _⟩
theorem Two.below {W wr w' : World} {B a b : Nat} {La Lb : List Bool} {va vb : Value} (h : Two W wr B a b La Lb va vb) (hb : Below wr.heap.size wr w') : Two W w' B a b La Lb va vb :=
  ⟨h.fa.below hb (Nat.le_refl _), h.fb.below hb (Nat.le_refl _), h.ab, h.ne, h.bel.trans (hb.mono h.bel.size), h.base⟩
end Go.Proofs.YtfohldojcdhnhaaDoor
