/-
  The contract of laceworkref05's bitsOf: a number's lowest bits, in new memory.
  The contracts of laceworkref05's Rows and Bytes: a sequence's two rows, in new memory, and its bytes; nothing that was there is changed.
  The contracts of laceworkref05's Right for long lists, and of laceworklaw05's Is: whether bytes are a sequence's.
  The contract of laceworklaw05's Is: whether bytes are a sequence's.
-/
import Derived.Maps.AppendAt
import Derived.Test.YtoipliflphbeiaaGreatDoorJFnLess
import Derived.Test.YtoipliflphbeiaaGreatDoorC06
import Derived.Test.YtoipliflphbeiaaGreatDoorJBtRefB
import Derived.Test.YtoipliflphbeiaaGreatDoorJFnNum
namespace Go.Proofs.YtoipliflphbeiaaGreatDoor
open Go.RowKit
theorem Bl.nextK {B : Nat} {w' : World} {v : Value} {x k : Nat} (h : w'.ownsRow B 4 1 v (k + 1) (Bt.bls (Bt.bitsTo x k) ++ [.bool (x.testBit k)])) : w'.ownsRow B 4 1 v (k + 1) (Bt.bls (Bt.bitsTo x (k + 1))) := by
  rw [Bt.bitsTo_succ, Bt.bls_append]
  exact h
theorem bits_and1_i64 (a : Nat) (ha : a < 9223372036854775808) : bits .and .i64 (a : Int) 1 = ((a % 2 : Nat) : Int) := by
  have h1 : (BitVec.ofInt 64 (a : Int)).toNat = a := by
    rw [BitVec.ofInt_natCast, BitVec.toNat_ofNat]; exact Nat.mod_eq_of_lt (by omega)
  have h2 : (BitVec.ofInt 64 (1 : Int)).toNat = 1 := by decide
  show IntKind.i64.wrap ((BitVec.ofInt 64 (a : Int) &&& BitVec.ofInt 64 (1 : Int)).toNat : Int) = _
  rw [BitVec.toNat_and, h1, h2, Nat.and_one_is_mod, IntKind.wrap_i64]
  omega
theorem and1_test (x k : Nat) (hx : x < 9223372036854775808) : (bits .and .i64 ((x : Int) / 2 ^ k) 1 == 1) = x.testBit k := by
  have e : (x : Int) / 2 ^ k = ((x / 2 ^ k : Nat) : Int) := by simp
  have hl : x / 2 ^ k ≤ x := Nat.div_le_self _ _
  rw [e, bits_and1_i64 _ (by omega), Nat.testBit_eq_decide_div_mod_eq]
  generalize x / 2 ^ k % 2 = y
  by_cases h : y = 1
  · subst h; rfl
  · have h2 : ¬ ((y : Int) = 1) := by omega
    simp [h, h2]
set_option maxHeartbeats 1000000 in
theorem bitsOf_any (x N : Nat) (w : World) (hx : x < 9223372036854775808) (hN : N ≤ 64) :
    Calls Tryz.prog 65 #[.int .i64 (x : Nat), .int .i64 (N : Nat)] w fun e w' => ∃ v, e = .returned v ∧ w'.ownsRow w.heap.size 4 1 v N (Bt.bls (Bt.bitsTo x N)) ∧ Below w.heap.size w w' := by
  obtain ⟨i0, hi, hz0, hz1, hz2⟩ := info_parts Tryz.infoBool
  go_enter Tryz.func65, Tryz.ntmps65
  go_wp2
  go_loopw [5, 6] (fun vb i wr => ∃ k : Nat, k ≤ N ∧ i = .int .i64 k ∧ wr.ownsRow w.heap.size 4 1 vb k (Bt.bls (Bt.bitsTo x k)) ∧ Below w.heap.size w wr) (fun _ i _ => N - (intOf i).toNat)
  case atStart => exact ⟨0, by omega, rfl, World.ownsRow_nil _ _ _ _, Below.refl _ _⟩
  case round =>
    obtain ⟨k, hk, rfl, hown, hbel⟩ := hrel
    have hsz := hbel.size
    have HW := hidden hown
    have HBL := hidden hbel
    by_cases hlt : k < N
    · clear hown hbel
      go_wp2_with (at_builtin; refine wpList_append_one _ rfl (.tmp 12) (.tmp 18) 31 rfl w.heap.size 4 i0 (.bool false) 1 Tryz.underlying31 hi hz0 hz1 hz2 rfl u5 k (Bt.bls (Bt.bitsTo x k)) rfl (by exact HW.out.alloc _) _ 1 _ _ rfl (by exact heap_alloc_new _ _) rfl (by unfold maxLen; omega) (by omega) (by simp; omega) ?_; intro v2 w2 hown2 hgrow2; have HO2 := hidden hown2; have HG2 := hidden hgrow2; clear hown2 hgrow2)
      go_roundw
      case rel => exact ⟨k + 1, by omega, by go_num, Bl.nextK (by rw [← and1_test x k hx]; exact HO2.out), (HBL.out.alloc (by omega) _).grown HG2.out (by simp; omega) (fun j hj => (HW.out.lt j hj).1)⟩
      case measure => simp [intOf]; omega
    · obtain rfl : k = N := by omega
      clear hown hbel
      go_wp2
      go_ret
      exact ⟨_, rfl, HW.out, HBL.out⟩
end Go.Proofs.YtoipliflphbeiaaGreatDoor
namespace Go.Proofs.YtoipliflphbeiaaGreatDoor
open Go Go.RowKit
section
variable {P : Program}
/-- 'append(v, u...)' of two owned rows, and where the new one lies. -/
theorem wpList_append_rows_at (w : World) {ops : Array Oper} {rest : List Oper} {o : Oper} {a : Act} {Q : Exit → Act → World → Prop} (hgd : o.guard = none) (s x : Operand) (t : TypeId)
    (ho : o.op = .call { callee := .builtin .append, args := #[s, x], argTypes := #[t, t] })
    (base : Nat) (e : TypeId) (i : TypeInfo) (z : Value) (bytes : Nat) (ht : P.underlying t = some (.slice e)) (hi : P.info? e = some i) (hz : i.zero = some z)
    (hsize : i.size = 1) (hby : i.bytes = bytes) (hzs : z.cells.size = 1)
    (v : Value) (n : Nat) (xs : List Value) (hs : a.eval s = v) (hown : w.ownsRow base e 1 v n xs)
    (u : Value) (m : Nat) (ys : List Value) (hu : a.eval x = u) (hsrc : w.ownsRow 0 e 1 u m ys) (h1 : ∀ y ∈ ys, y.oneCell' = true)
    (h63 : n + m ≤ maxLen) (hbytes : (n + m) * bytes ≤ 140737488355328) (hbase : base ≤ w.heap.size)
    (h : ∀ v' w', w'.ownsRow base e 1 v' (n + m) (xs ++ ys) → w.grownBy w' v.ownBlock → (v'.ownBlock = v.ownBlock ∨ v'.ownBlock = some w.heap.size) → wpList P ops Q rest (a.put o.dst v') w') : wpList P ops Q (o :: rest) a w := by
  rcases hsrc.2 with ⟨hn, hm⟩ | ⟨g, cap, cur, hg, _⟩
  · refine wpList_append_own_none hgd s x t ho base e i 1 ht hi v n xs hs hown (hu.trans hn) ?_
    have hy : ys = [] := List.eq_nil_of_length_eq_zero (by have := hsrc.1; omega)
    have := h v w (by rw [hm, hy, Nat.add_zero, List.append_nil]; exact hown) (World.grownBy.refl _ _) (.inl rfl)
    exact this
  · refine wpList_append_own_at w hgd s x t ho base e i z 1 bytes ht hi hz hsize hby hzs (by decide) v n xs hs hown ⟨g, 0, none⟩ m cap ys (hu.trans hg) hsrc.1 (hsrc.cells (by rw [hg]; rfl)) h1 h63 hbytes hbase ?_
    intro v' w' h2 h3 _ h4
    exact h v' w' h2 h3 h4
/-- 'append(v, x)', x laid into block k, and where the new one lies. -/
theorem wpList_append_one_at (w : World) {ops : Array Oper} {rest : List Oper} {o : Oper} {a : Act} {Q : Exit → Act → World → Prop} (hgd : o.guard = none) (s x : Operand) (t : TypeId)
    (ho : o.op = .call { callee := .builtin .append, args := #[s, x], argTypes := #[t, t] })
    (base : Nat) (e : TypeId) (i : TypeInfo) (z : Value) (bytes : Nat) (ht : P.underlying t = some (.slice e)) (hi : P.info? e = some i) (hz : i.zero = some z)
    (hsize : i.size = 1) (hby : i.bytes = bytes) (hzs : z.cells.size = 1)
    (v : Value) (n : Nat) (xs : List Value) (hs : a.eval s = v) (hown : w.ownsRow base e 1 v n xs)
    (k c : Nat) (y : Value) (fr : Nat × Nat) (hx : a.eval x = .slice (some ⟨k, 0, none⟩) 1 c) (hk : w.heap[k]? = some (.cells #[y] e fr)) (h1 : y.oneCell' = true)
    (h63 : n + 1 ≤ maxLen) (hbytes : (n + 1) * bytes ≤ 140737488355328) (hbase : base ≤ w.heap.size)
    (h : ∀ v' w', w'.ownsRow base e 1 v' (n + 1) (xs ++ [y]) → w.grownBy w' v.ownBlock → (v'.ownBlock = v.ownBlock ∨ v'.ownBlock = some w.heap.size) → wpList P ops Q rest (a.put o.dst v') w') : wpList P ops Q (o :: rest) a w := by
  refine wpList_append_own_at w hgd s x t ho base e i z 1 bytes ht hi hz hsize hby hzs (by decide) v n xs hs hown ⟨k, 0, none⟩ 1 c [y] hx rfl (World.news_of_block hk) ?_ h63 hbytes hbase ?_
  · intro u hu
    simp at hu
    subst hu
    exact h1
  · intro v' w' h2 h3 _ h4
    exact h v' w' h2 h3 h4
end
namespace Fn
theorem pad_next {L : List Bool} {m : Nat} (h : L.length ≤ m) : pad L (m + 1) = pad L m ++ [false] := by
  unfold pad
  rw [show m + 1 - L.length = m - L.length + 1 from by omega, List.replicate_succ', List.append_assoc]
/-- How many elements a slice has. -/
def lenV : Value → Nat
  | .slice _ n _ => n
  | _ => 0
theorem lenV_own {w : World} {B : Nat} {e : TypeId} {v : Value} {n : Nat} {xs : List Value} (h : w.ownsRow B e 1 v n xs) : ∃ c cap, v = .slice c n cap ∧ n ≤ cap := by
  rcases h.2 with ⟨rfl, rfl⟩ | ⟨g, cap, cur, hv, _, _, hc, _⟩
  · exact ⟨none, 0, rfl, Nat.le_refl _⟩
  · exact ⟨_, cap, hv, hc⟩
/-- Two rows that are owned, in blocks of their own. -/
structure Twin (B : Nat) (w : World) (a b : Value) (A C : List Bool) : Prop where
  low : w.ownsRow B 4 1 a A.length (Bt.bls A)
  high : w.ownsRow B 4 1 b C.length (Bt.bls C)
  apart : ∀ k, a.ownBlock = some k → b.ownBlock ≠ some k
theorem Twin.alloc {B : Nat} {w : World} {a b : Value} {A C : List Bool} (h : Twin B w a b A C) (o : Obj) : Twin B (w.alloc o) a b A C := ⟨h.low.alloc o, h.high.alloc o, h.apart⟩
theorem Twin.below {B : Nat} {w w' : World} {a b : Value} {A C : List Bool} (h : Twin B w a b A C) (hb : Below w.heap.size w w') : Twin B w' a b A C := ⟨own_below h.low hb (Nat.le_refl _), own_below h.high hb (Nat.le_refl _), h.apart⟩
theorem Twin.growHigh {B m : Nat} {w w' : World} {a b b' : Value} {A C D : List Bool} {ys : List Value} (h : Twin B w a b A C) (ho : w'.ownsRow B 4 1 b' m (Bt.bls C ++ ys)) (hg : w.grownBy w' b.ownBlock) (hat : b'.ownBlock = b.ownBlock ∨ b'.ownBlock = some w.heap.size) (hm : m = D.length) (hD : Bt.bls C ++ ys = Bt.bls D) : Twin B w' a b' A D := by
  subst hm
  rw [hD] at ho
  refine ⟨own_same h.low fun k hk => hg.block k (own_lt h.low k hk) fun e => h.apart k hk e.symm, ho, fun k hk e => ?_⟩
  rcases hat with e2 | e2
  · exact h.apart k hk (e2 ▸ e)
  · have := own_lt h.low k hk
    rw [e2] at e
    simp at e
    omega
theorem Twin.growLow {B m : Nat} {w w' : World} {a a' b : Value} {A C D : List Bool} {ys : List Value} (h : Twin B w a b A C) (ho : w'.ownsRow B 4 1 a' m (Bt.bls A ++ ys)) (hg : w.grownBy w' a.ownBlock) (hat : a'.ownBlock = a.ownBlock ∨ a'.ownBlock = some w.heap.size) (hm : m = D.length) (hD : Bt.bls A ++ ys = Bt.bls D) : Twin B w' a' b D C := by
  subst hm
  rw [hD] at ho
  refine ⟨ho, own_same h.high fun k hk => hg.block k (own_lt h.high k hk) fun e => h.apart k e.symm hk, fun k hk e => ?_⟩
  rcases hat with e2 | e2
  · exact h.apart k (e2 ▸ hk) e
  · have := own_lt h.high k e
    rw [e2] at hk
    simp at hk
    omega
end Fn
set_option maxHeartbeats 4000000 in
set_option maxRecDepth 100000 in
theorem Rows_any (l : List Nat) (u : Nat) (v : Value) (w : World) (h : Ints w v (Fn.ints l)) (ok : Fn.Ok l u) (hfit : Fn.lows l.length u + Fn.highs l.length u ≤ 1048576) :
    Calls Tryz.prog 64 #[v, .int .i64 (u : Nat)] w fun e w' => ∃ va vb, e = .returned (.tuple #[va, vb]) ∧ Bl w' va (Fn.lowB l u) ∧ Bl w' vb (Fn.highB l u) ∧ Below w.heap.size w w' := by
  obtain ⟨i0, hi, hz0, hz1, hz2⟩ := info_parts Tryz.infoBool
  obtain ⟨ao, cap, rfl, hcap, hc⟩ := h.cells
  have HC := hidden hc
  have OK := hidden ok
  have hu := ok.le
  have hu1 := ok.pos
  have hn := ok.len
  rw [Fn.ints_length] at hcap HC ⊢
  have hW := Fn.wdt_le63 (n := l.length) (u := u)
  have HW := hidden (fun w => Width_any l.length u w hn (by omega))
  have HHI := hidden (fun k (hk : k ≤ l.length) => ok.hi_le hk)
  have hl0 : Fn.lowB l u = Fn.loTo l (Fn.wdt l.length u) l.length := rfl
  have hh0 : Fn.highB l u = Fn.pad (Fn.hiTo l (Fn.wdt l.length u) l.length) (Fn.highs l.length u) := rfl
  rw [hl0, hh0]
  have hls : Fn.lows l.length u = l.length * Fn.wdt l.length u := rfl
  have hhs : Fn.highs l.length u = l.length + (u - 1) / 2 ^ Fn.wdt l.length u + 1 := rfl
  have HLS := hidden hls
  have HHS := hidden hhs
  obtain ⟨H, hH⟩ : ∃ H, H = Fn.highs l.length u := ⟨_, rfl⟩
  obtain ⟨Lw, hLw⟩ : ∃ Lw, Lw = Fn.lows l.length u := ⟨_, rfl⟩
  rw [← hH] at HHI HHS hfit ⊢
  rw [← hLw] at HLS hfit
  generalize Fn.wdt l.length u = W at *
  obtain ⟨N, hN⟩ : ∃ N, N = l.length := ⟨_, rfl⟩
  rw [← hN] at hcap HC hn HW HHI HLS HHS ⊢
  have HN := hidden hN
  clear h ok hc hl0 hh0 hls hhs hH hLw hN
  go_enter Tryz.func64, Tryz.ntmps64
  go_wp2_with fail
  refine (HW.out _).mono ?_
  rintro e' w1 ⟨rfl, rfl⟩
  go_wp2_with fail
  go_loopw [7, 8, 9, 10] (fun va vb p i wr => ∃ (k part : Nat), k ≤ N ∧ p = .int .i64 part ∧ i = .int .i64 k ∧ (Fn.hiTo l W k).length = k + part ∧ Fn.Twin w1.heap.size wr va vb (Fn.loTo l W k) (Fn.hiTo l W k) ∧ Below w1.heap.size w1 wr) (fun _ _ _ i _ => N - (intOf i).toNat)
  case atStart => exact ⟨0, 0, by omega, rfl, rfl, rfl, ⟨World.ownsRow_nil _ _ _ _, World.ownsRow_nil _ _ _ _, by intro k hk; cases hk⟩, Below.refl _ _⟩
  case round =>
    obtain ⟨k, part, hk, rfl, rfl, hlen, htw, hbel⟩ := hrel
    have HTW := hidden htw
    have HBL := hidden hbel
    have hsz := hbel.size
    have HHK := HHI.out k hk
    rw [hlen] at HHK
    have HLEN := hidden hlen
    clear htw hbel hlen
    by_cases hlt : k < N
    · have hkl : k < l.length := by rw [← HN.out]; exact hlt
      obtain ⟨g, off, rfl, hg, hcell⟩ := HC.out (by omega)
      have c0 := cell_after HBL.out (hcell k hlt)
      rw [Fn.ints_getD] at c0
      have hx : l.getD k 0 < 9223372036854775808 := by have := OK.out.lt k hkl; omega
      have hs1 := hidden (Fn.hiTo_succ_length OK.out.up W k hkl)
      have hs2 : Fn.hiTo l W (k + 1) = Fn.pad (Fn.hiTo l W k) (k + l.getD k 0 / 2 ^ W) ++ [true] := rfl
      have hs3 : Fn.loTo l W (k + 1) = Fn.loTo l W k ++ Bt.bitsTo (l.getD k 0) W := rfl
      have HS2 := hidden hs2
      have HS3 := hidden hs3
      have hle := Fn.hiTo_le OK.out.up W k hkl
      rw [HLEN.out] at hle
      have hs4 : (Fn.hiTo l W (k + 1)).length = k + 1 + l.getD k 0 / 2 ^ W := by rw [hs1.out]; unfold Fn.pc; omega
      have HS4 := hidden hs4
      have hs5 := HHI.out (k + 1) hlt
      rw [hs4] at hs5
      have hsh : ((l.getD k 0 : Nat) : Int) / 2 ^ W = ((l.getD k 0 / 2 ^ W : Nat) : Int) := by simp
      unfold Fn.pc at hle
      have hlo := Fn.loTo_length l W k
      have hlk : k * W + W ≤ Lw := by
        rw [HLS.out]
        have : (k + 1) * W ≤ N * W := Nat.mul_le_mul_right _ hlt
        rw [Nat.add_mul, Nat.one_mul] at this
        exact this
      obtain ⟨y, hy⟩ : ∃ y, y = l.getD k 0 / 2 ^ W := ⟨_, rfl⟩
      rw [← hy] at HS2 HS4 hle hsh hs5
      have HBO := hidden (fun w => bitsOf_any (l.getD k 0) W w hx (by omega))
      obtain ⟨x, hxx⟩ : ∃ x, x = l.getD k 0 := ⟨_, rfl⟩
      rw [← hxx] at c0 hx HBO hsh HS3
      have hpy : part ≤ y := by omega
      have HLO := hidden hlo
      have HX := hidden hxx
      have HCE := hidden hcell
      clear hcell hkl hs1 hs2 hs3 hs4 hy hxx hlo
      go_wp2_with fail
      refine (HBO.out _).mono ?_
      rintro e' w2 ⟨vs, rfl, hvs, hb2⟩
      have HVS := hidden (own_base hvs (Nat.zero_le _))
      have HTW2 := hidden (HTW.out.below hb2)
      have HBL2 := hidden (below_after HBL.out hb2)
      have hsz2 := HBL2.out.size
      have c2 := cell_after hb2 c0
      clear hvs hb2
      go_wp2_with (at_builtin; refine wpList_append_rows_at _ rfl (.tmp 22) (.tmp 28) 31 rfl w1.heap.size 4 i0 (.bool false) 1 Tryz.underlying31 hi hz0 hz1 hz2 rfl u7 (Fn.loTo l W k).length (Bt.bls (Fn.loTo l W k)) rfl (by exact HTW2.out.low) vs W (Bt.bls (Bt.bitsTo x W)) rfl (by exact HVS.out) (Bt.bls_one _) (by rw [HLO.out]; unfold maxLen; omega) (by rw [HLO.out]; omega) hsz2 ?_; intro va w3 hown3 hgrow3 hat3)
      have HTW3 := hidden (HTW2.out.growLow (D := Fn.loTo l W (k + 1)) hown3 hgrow3 hat3 (by rw [HS3.out, List.length_append, Bt.bitsTo_length]) (by rw [HS3.out, Bt.bls_append]))
      have HBL3 := hidden (HBL2.out.grown hgrow3 hsz2 (fun j hj => (HTW2.out.low.lt j hj).1))
      clear hown3 hgrow3 hat3
      go_loopw [8, 9] (fun vb p wi => ∃ q : Nat, part ≤ q ∧ q ≤ y ∧ p = .int .i64 q ∧ Fn.Twin w1.heap.size wi va vb (Fn.loTo l W (k + 1)) (Fn.pad (Fn.hiTo l W k) (k + q)) ∧ Below w1.heap.size w1 wi) (fun _ p _ => y - (intOf p).toNat)
      case atStart => exact ⟨part, by omega, hpy, rfl, by rw [Fn.pad_of_le _ _ (by rw [HLEN.out]; omega)]; exact HTW3.out, HBL3.out⟩
      case round =>
        obtain ⟨q, hq1, hq2, rfl, htw, hbel⟩ := hrel
        have HTI := hidden htw
        have HBI := hidden hbel
        have hsi := hbel.size
        have ci := cell_after HBI.out (HCE.out k hlt)
        rw [Fn.ints_getD, ← HX.out] at ci
        have hpl : (Fn.pad (Fn.hiTo l W k) (k + q)).length = k + q := by rw [Fn.pad_length, HLEN.out]; omega
        have HPL := hidden hpl
        have hpn : Fn.pad (Fn.hiTo l W k) (k + (q + 1)) = Fn.pad (Fn.hiTo l W k) (k + q) ++ [false] := Fn.pad_next (m := k + q) (by rw [HLEN.out]; omega)
        have HPN := hidden hpn
        clear htw hbel hpl hpn
        by_cases hqy : q < y
        · go_wp2_with (at_builtin; refine wpList_append_one_at _ rfl (.tmp 38) (.tmp 39) 31 rfl w1.heap.size 4 i0 (.bool false) 1 Tryz.underlying31 hi hz0 hz1 hz2 rfl u8 (Fn.pad (Fn.hiTo l W k) (k + q)).length (Bt.bls (Fn.pad (Fn.hiTo l W k) (k + q))) rfl (by exact HTI.out.high.alloc _) _ 1 (.bool false) _ rfl (by exact heap_alloc_new _ _) rfl (by rw [HPL.out]; unfold maxLen; omega) (by rw [HPL.out]; omega) (by simp; omega) ?_; intro v4 w4 hown4 hgrow4 hat4)
          have HTW4 := hidden ((HTI.out.alloc _).growHigh (D := Fn.pad (Fn.hiTo l W k) (k + (q + 1))) hown4 hgrow4 hat4 (by rw [HPN.out, List.length_append]; rfl) (by rw [HPN.out, Bt.bls_append]; rfl))
          have HBL4 := hidden ((HBI.out.alloc hsi _).grown hgrow4 (by simp; omega) (fun j hj => (HTI.out.high.lt j hj).1))
          clear hown4 hgrow4 hat4
          go_wp2_with fail
          go_roundw
          case rel => exact ⟨q + 1, by omega, by omega, by go_num, HTW4.out, HBL4.out⟩
          case measure => simp [intOf]; omega
        · obtain rfl : q = y := by omega
          go_wp2_with (at_builtin; refine wpList_append_one_at _ rfl (.tmp 43) (.tmp 44) 31 rfl w1.heap.size 4 i0 (.bool false) 1 Tryz.underlying31 hi hz0 hz1 hz2 rfl u8 (Fn.pad (Fn.hiTo l W k) (k + q)).length (Bt.bls (Fn.pad (Fn.hiTo l W k) (k + q))) rfl (by exact HTI.out.high.alloc _) _ 1 (.bool true) _ rfl (by exact heap_alloc_new _ _) rfl (by rw [HPL.out]; unfold maxLen; omega) (by rw [HPL.out]; omega) (by simp; omega) ?_; intro v4 w4 hown4 hgrow4 hat4)
          have HTW4 := hidden ((HTI.out.alloc _).growHigh (D := Fn.hiTo l W (k + 1)) hown4 hgrow4 hat4 (by rw [HS2.out, List.length_append]; rfl) (by rw [HS2.out, Bt.bls_append]; rfl))
          have HBL4 := hidden ((HBI.out.alloc hsi _).grown hgrow4 (by simp; omega) (fun j hj => (HTI.out.high.lt j hj).1))
          clear hown4 hgrow4 hat4
          go_wp2_with fail
          go_roundw
          case rel => exact ⟨k + 1, q, by omega, rfl, by go_num, by rw [HS4.out], HTW4.out, HBL4.out⟩
          case measure => simp [intOf]; omega
    · obtain rfl : k = N := by omega
      have hsh : ((u : Int) - 1) / 2 ^ W = (((u - 1) / 2 ^ W : Nat) : Int) := by
        rw [show ((u : Int) - 1) = ((u - 1 : Nat) : Int) from by omega]
        simp
      have hHs := HHS.out
      obtain ⟨T, hT⟩ : ∃ T, T = (u - 1) / 2 ^ W := ⟨_, rfl⟩
      rw [← hT] at hsh hHs
      have HHH := hidden hHs
      have hT2 : k + T + 1 ≤ 1048576 := by omega
      clear hT hHs
      go_wp2_with fail
      go_loopw [8] (fun vb wi => ∃ m : Nat, k + part ≤ m ∧ m ≤ H ∧ Fn.Twin w1.heap.size wi u7 vb (Fn.loTo l W k) (Fn.pad (Fn.hiTo l W k) m) ∧ Below w1.heap.size w1 wi) (fun vb _ => H - Fn.lenV vb)
      case atStart => exact ⟨k + part, by omega, HHK, by rw [Fn.pad_of_le _ _ (by rw [HLEN.out]; omega)]; exact HTW.out, HBL.out⟩
      case round =>
        obtain ⟨m, hm1, hm2, htw, hbel⟩ := hrel
        have HTI := hidden htw
        have HBI := hidden hbel
        have hsi := hbel.size
        have hpl : (Fn.pad (Fn.hiTo l W k) m).length = m := by rw [Fn.pad_length, HLEN.out]; omega
        have hpn : Fn.pad (Fn.hiTo l W k) (m + 1) = Fn.pad (Fn.hiTo l W k) m ++ [false] := Fn.pad_next (by rw [HLEN.out]; omega)
        obtain ⟨c, cap2, hv, hcap2⟩ := Fn.lenV_own htw.high
        rw [hpl] at hv hcap2
        subst hv
        have HPL := hidden hpl
        have HPN := hidden hpn
        clear htw hbel hpl hpn
        by_cases hmh : m < H
        · have hmh2 : m < k + T + 1 := by rw [← HHH.out]; exact hmh
          go_wp2_with (at_builtin; refine wpList_append_one_at _ rfl (.tmp 58) (.tmp 59) 31 rfl w1.heap.size 4 i0 (.bool false) 1 Tryz.underlying31 hi hz0 hz1 hz2 rfl (.slice c m cap2) (Fn.pad (Fn.hiTo l W k) m).length (Bt.bls (Fn.pad (Fn.hiTo l W k) m)) rfl (by exact HTI.out.high.alloc _) _ 1 (.bool false) _ rfl (by exact heap_alloc_new _ _) rfl (by rw [HPL.out]; unfold maxLen; omega) (by rw [HPL.out]; omega) (by simp; omega) ?_; intro v4 w4 hown4 hgrow4 hat4)
          have HTW4 := hidden ((HTI.out.alloc _).growHigh (D := Fn.pad (Fn.hiTo l W k) (m + 1)) hown4 hgrow4 hat4 (by rw [HPN.out, List.length_append]; rfl) (by rw [HPN.out, Bt.bls_append]; rfl))
          have HBL4 := hidden ((HBI.out.alloc hsi _).grown hgrow4 (by simp; omega) (fun j hj => (HTI.out.high.lt j hj).1))
          have hv4 : Fn.lenV v4 = m + 1 := by
            obtain ⟨c4, cap4, e4, _⟩ := Fn.lenV_own hown4
            rw [e4, HPL.out]
            rfl
          have HV4 := hidden hv4
          clear hown4 hgrow4 hat4 hv4
          go_wp2_with fail
          go_roundw
          case rel => exact ⟨m + 1, by omega, by omega, HTW4.out, HBL4.out⟩
          case measure => rw [HV4.out]; show H - (m + 1) < H - m; omega
        · obtain rfl : m = H := by omega
          have hmh2 : ¬ m < k + T + 1 := by rw [← HHH.out]; omega
          go_wp2_with fail
          go_ret2
          refine ⟨_, _, rfl, ?_, ?_, HBI.out⟩
          · exact own_base HTI.out.low (Nat.zero_le _)
          · exact own_base HTI.out.high (Nat.zero_le _)
theorem Bl.after {w w' : World} {v : Value} {l : List Bool} (h : Bl w v l) (hb : Below w.heap.size w w') : Bl w' v l := h.below hb (Nat.le_refl _)
theorem Fn.Ok.all_split {l : List Nat} {u : Nat} : Fn.allB l u = ((Bt.bitsTo l.length 24 ++ Bt.bitsTo u 41) ++ Fn.lowB l u) ++ Fn.highB l u := rfl
set_option maxHeartbeats 2000000 in
set_option maxRecDepth 100000 in
theorem rFBytes_any (l : List Nat) (u : Nat) (v : Value) (w : World) (h : Ints w v (Fn.ints l)) (ok : Fn.Ok l u) (hfit : 65 + Fn.lows l.length u + Fn.highs l.length u ≤ 1048576) :
    Calls Tryz.prog 37 #[v, .int .i64 (u : Nat)] w fun e w' => e = .returned (.string ⟨(Bt.rowB (Fn.allB l u).length (Bt.num (Fn.allB l u))).toArray⟩) ∧ Below w.heap.size w w' := by
  obtain ⟨i0, hi, hz0, hz1, hz2⟩ := info_parts Tryz.infoBool
  have HI := hidden h
  have HRW := hidden (Rows_any l u v w h ok (by omega))
  obtain ⟨ao, cap, rfl, hcap, hc⟩ := h.cells
  have hu := ok.le
  have hu1 := ok.pos
  have hn := ok.len
  have hal := ok.all_length
  have hlo := Fn.lowB_length l u
  have hhi := ok.high_length
  have HB1 := hidden (fun w => bitsOf_any l.length 24 w (by omega) (by omega))
  have HB2 := hidden (fun w => bitsOf_any u 41 w (by omega) (by omega))
  have HSP := hidden (Fn.Ok.all_split (l := l) (u := u))
  have HRB := hidden (fun v w (h : Bl w v (Fn.allB l u)) => rBytes_any (Fn.allB l u) v w h (by rw [hal]; exact hfit))
  rw [Fn.ints_length] at hcap HRW ⊢
  rw [← hlo, ← hhi] at hfit
  obtain ⟨N, hN⟩ : ∃ N, N = l.length := ⟨_, rfl⟩
  rw [← hN] at hcap HRW HSP hn HB1 ⊢
  generalize Fn.allB l u = AB at *
  generalize Fn.lowB l u = LB at *
  generalize Fn.highB l u = HB at *
  clear h ok hc hal hlo hhi hN HI
  go_enter Tryz.func37, Tryz.ntmps37
  go_wp2_with fail
  refine (HRW.out).mono ?_
  rintro e' w1 ⟨va, vb, rfl, hva, hvb, hb1⟩
  have HVA := hidden hva
  have HVB := hidden hvb
  have HBL1 := hidden hb1
  clear hva hvb hb1
  go_wp2_with fail
  refine (HB1.out _).mono ?_
  rintro e' w2 ⟨v2, rfl, hv2, hb2⟩
  have HV2 := hidden hv2
  have HBL2 := hidden hb2
  clear hv2 hb2
  go_wp2_with fail
  refine (HB2.out _).mono ?_
  rintro e' w3 ⟨v3, rfl, hv3, hb3⟩
  have HV3 := hidden (own_base hv3 (Nat.zero_le _))
  have hs2 := HBL2.out.size
  have hs3 := hb3.size
  have hs1 := HBL1.out.size
  have HV23 := hidden (own_below HV2.out hb3 (Nat.le_refl _))
  have HBL3 := hidden (below_after HBL2.out hb3)
  clear hv3 hb3
  go_wp2_with (first
    | (go_at_call 40; have hv7 : Bl w6 v6 AB := by rw [HSP.out]; have := own_base HV6.out (Nat.zero_le _); simp only [← Bt.bls_append] at this; unfold Bl; rw [show ((Bt.bitsTo N 24 ++ Bt.bitsTo u 41 ++ LB ++ HB).length) = 24 + 41 + LB.length + HB.length from by simp only [List.length_append, Bt.bitsTo_length]]; exact this
       refine (HRB.out _ _ hv7).mono ?_; rintro e' w7 ⟨rfl, hb7⟩; have HBL7 := hidden (below_after (HBL1.out.trans (HBL6.out.mono hs1)) hb7); clear hb7 hv7)
    | (at_builtin; refine wpList_append_rows _ rfl (.tmp 16) (.tmp 18) 31 rfl w1.heap.size 4 i0 (.bool false) 1 Tryz.underlying31 hi hz0 hz1 hz2 rfl v2 24 (Bt.bls (Bt.bitsTo N 24)) rfl (by exact HV23.out) v3 41 (Bt.bls (Bt.bitsTo u 41)) rfl (by exact HV3.out) (Bt.bls_one _) (by unfold maxLen; omega) (by omega) (by have := HBL3.out.size; omega) ?_; intro v4 w4 hown hgrow; have HV4 := hidden hown; have HBL4 := hidden (HBL3.out.grown hgrow (by have := HBL3.out.size; omega) (fun j hj => (HV23.out.lt j hj).1)); clear hown hgrow)
    | (at_builtin; refine wpList_append_rows _ rfl (.tmp 20) (.tmp 21) 31 rfl w1.heap.size 4 i0 (.bool false) 1 Tryz.underlying31 hi hz0 hz1 hz2 rfl v4 (24 + 41) (Bt.bls (Bt.bitsTo N 24) ++ Bt.bls (Bt.bitsTo u 41)) rfl (by exact HV4.out) va LB.length (Bt.bls LB) rfl (by exact HVA.out.after HBL4.out) (Bt.bls_one _) (by unfold maxLen; omega) (by omega) (by have := HBL4.out.size; omega) ?_; intro v5 w5 hown hgrow; have HV5 := hidden hown; have HBL5 := hidden (HBL4.out.grown hgrow (by have := HBL4.out.size; omega) (fun j hj => (HV4.out.lt j hj).1)); clear hown hgrow)
    | (at_builtin; refine wpList_append_rows _ rfl (.tmp 23) (.tmp 24) 31 rfl w1.heap.size 4 i0 (.bool false) 1 Tryz.underlying31 hi hz0 hz1 hz2 rfl v5 (24 + 41 + LB.length) (Bt.bls (Bt.bitsTo N 24) ++ Bt.bls (Bt.bitsTo u 41) ++ Bt.bls LB) rfl (by exact HV5.out) vb HB.length (Bt.bls HB) rfl (by exact HVB.out.after HBL5.out) (Bt.bls_one _) (by unfold maxLen; omega) (by omega) (by have := HBL5.out.size; omega) ?_; intro v6 w6 hown hgrow; have HV6 := hidden hown; have HBL6 := hidden (HBL5.out.grown hgrow (by have := HBL5.out.size; omega) (fun j hj => (HV5.out.lt j hj).1)); clear hown hgrow))
  go_ret
  exact ⟨rfl, HBL7.out⟩
end Go.Proofs.YtoipliflphbeiaaGreatDoor
namespace Go.Proofs.YtoipliflphbeiaaGreatDoor
open Go.RowKit
set_option maxHeartbeats 2000000 in
set_option maxRecDepth 100000 in
theorem Right_big (li : List Int) (b : Int) (u : Value) (w : World) (h : Ints w u li) (hl : li.length ≤ 1000000) :
    Calls Tryz.prog 36 #[u, .int .i64 b] w fun e w' => Fn.RightPost li b e ∧ ∃ m, w' = w.drewN m := by
  obtain ⟨ao, cap, rfl, hcap, hc⟩ := h.cells
  have HC := hidden hc
  clear hc h
  go_enter Tryz.func36, Tryz.ntmps36
  go_wp2_with fail
  go_loopw [5] (fun i wr => ∃ (k m : Nat), k ≤ li.length ∧ i = .int .i64 k ∧ Fn.Ris li b k ∧ wr = w.drewN m) (fun i _ => li.length - (intOf i).toNat)
  case atStart => exact ⟨0, 0, by omega, rfl, fun i hi => by omega, rfl⟩
  case round =>
    obtain ⟨k, m, hk, rfl, hr, hwr⟩ := hrel
    have HR := hidden hr
    have HL := hidden hr.last
    have HWR := hidden hwr
    clear hr
    by_cases hlt : k < li.length
    · obtain ⟨g, off, rfl, hg, hcell⟩ := HC.out (by omega)
      have c0 : wr.cell? ⟨g, off + k, none⟩ = some (.int .i64 (li.getD k 0)) := by rw [hwr]; exact hcell k hlt
      have c1 : wr.cell? ⟨g, off + (k - 1), none⟩ = some (.int .i64 (li.getD (k - 1) 0)) := by rw [hwr]; exact hcell (k - 1) (by omega)
      obtain ⟨x, hx⟩ : ∃ x, x = li.getD k 0 := ⟨_, rfl⟩
      obtain ⟨p, hp⟩ : ∃ p, p = li.getD (k - 1) 0 := ⟨_, rfl⟩
      rw [← hx] at c0
      rw [← hp] at c1
      have HX := hidden hx
      have HP := hidden hp
      clear hcell hx hp hwr
      by_cases h1 : x < 0
      · have d1 : decide (x < 0) = true := by simpa using h1
        go_wp2_with fail
        go_quiet (fail)
        go_wp2_with fail
        go_ret
        refine ⟨Fn.RightPost.no (fun g => ?_) rfl, m + nq, by rw [HWR.out]; exact drewN_twice _ _ _⟩
        have := (g k hlt).1
        rw [← HX.out] at this
        have := HL.out
        omega
      · have d1 : decide (x < 0) = false := by simpa using h1
        by_cases h2 : b ≤ x
        · have d2 : decide (b ≤ x) = true := by simpa using h2
          go_wp2_with fail
          go_quiet (fail)
          go_wp2_with fail
          go_ret
          refine ⟨Fn.RightPost.no (fun g => ?_) rfl, m + nq, by rw [HWR.out]; exact drewN_twice _ _ _⟩
          have := (g k hlt).2
          rw [← HX.out] at this
          omega
        · have d2 : decide (b ≤ x) = false := by simpa using h2
          by_cases h3 : k = 0
          · subst h3
            rw [Nat.add_zero] at c0
            go_wp2_with fail
            go_quiet (fail)
            go_wp2_with fail
            go_roundw
            case rel => exact ⟨1, m + nq, by omega, by go_num, HR.out.next (by rw [← HX.out]; show (0 : Int) ≤ x; omega) (by rw [← HX.out]; omega), by rw [HWR.out]; exact drewN_twice _ _ _⟩
            case measure => simp [intOf]; omega
          · obtain ⟨j, hj⟩ : ∃ j, j = k - 1 := ⟨_, rfl⟩
            rw [← hj] at c1
            have hkj : (k : Int) - 1 = (j : Int) := by omega
            have hj2 : j < li.length := by omega
            have d3 : decide (0 < k) = true := by simp; omega
            have hk0 : 0 < k := by omega
            have hlast : Fn.lastI li k = p := by
              unfold Fn.lastI
              rw [if_neg h3, HP.out]
            have HLA := hidden hlast
            have HJ := hidden hj
            clear hlast hj
            by_cases h4 : x < p
            · have d4 : decide (x < p) = true := by simpa using h4
              go_wp2_with fail
              go_quiet (fail)
              go_wp2_with fail
              go_ret
              refine ⟨Fn.RightPost.no (fun g => ?_) rfl, m + nq, by rw [HWR.out]; exact drewN_twice _ _ _⟩
              have := (g k hlt).1
              rw [← HX.out, HLA.out] at this
              omega
            · have d4 : decide (x < p) = false := by simpa using h4
              go_wp2_with fail
              go_quiet (fail)
              go_wp2_with fail
              go_roundw
              case rel => exact ⟨k + 1, m + nq, by omega, by go_num, HR.out.next (by rw [← HX.out, HLA.out]; omega) (by rw [← HX.out]; omega), by rw [HWR.out]; exact drewN_twice _ _ _⟩
              case measure => simp [intOf]; omega
    · obtain rfl : k = li.length := by omega
      clear hwr
      have d5 : decide ((li.length : Int) < 16777216) = true := by simp; omega
      by_cases h1 : 1 ≤ b
      · by_cases h2 : b ≤ 1099511627776
        · go_wp2_with fail
          go_ret
          exact ⟨⟨true, ret_bool (by simp), ⟨fun _ => ⟨h1, h2, by omega, HR.out⟩, fun _ => rfl⟩⟩, m, HWR.out⟩
        · go_wp2_with fail
          go_ret
          exact ⟨⟨false, ret_bool (by simp), ⟨(fun h => by cases h), fun g => absurd g.2.1 (by omega)⟩⟩, m, HWR.out⟩
      · go_wp2_with fail
        go_ret
        exact ⟨⟨false, ret_bool (by simp), ⟨(fun h => by cases h), fun g => absurd g.1 (by omega)⟩⟩, m, HWR.out⟩
end Go.Proofs.YtoipliflphbeiaaGreatDoor
namespace Go.Proofs.YtoipliflphbeiaaGreatDoor
open Go.RowKit
section
variable {P : Program}
/-- 'append(v, x)' at a step of a region that draws, x laid into block k. -/
theorem step_append_one (w : World) {ops : Array Oper} {o : Oper} {a : Act} {K : Act → World → Prop} {Q : Exit → Act → World → Prop} {E : Prop} (hgd : o.guard = none) (s x : Operand) (t : TypeId)
    (ho : o.op = .call { callee := .builtin .append, args := #[s, x], argTypes := #[t, t] })
    (base : Nat) (e : TypeId) (i : TypeInfo) (z : Value) (bytes : Nat) (ht : P.underlying t = some (.slice e)) (hi : P.info? e = some i) (hz : i.zero = some z)
    (hsize : i.size = 1) (hby : i.bytes = bytes) (hzs : z.cells.size = 1)
    (v : Value) (n : Nat) (xs : List Value) (hs : a.eval s = v) (hown : w.ownsRow base e 1 v n xs)
    (k c : Nat) (y : Value) (fr : Nat × Nat) (hx : a.eval x = .slice (some ⟨k, 0, none⟩) 1 c) (hk : w.heap[k]? = some (.cells #[y] e fr)) (h1 : y.oneCell' = true)
    (h63 : n + 1 ≤ maxLen) (hbytes : (n + 1) * bytes ≤ 140737488355328) (hbase : base ≤ w.heap.size)
    (h : ∀ v' w', w'.ownsRow base e 1 v' (n + 1) (xs ++ [y]) → w.grownBy w' v.ownBlock → K (a.put o.dst v') w') :
    if Region.wanted o (yielded ops a.tmps) = true then Oper.wp P o a w K Q else E := by
  refine step_append_lies w hgd s x t ho base e i z 1 bytes ht hi hz hsize hby hzs (by decide) v n xs hs hown ⟨k, 0, none⟩ 1 c [y] hx rfl (World.news_of_block hk) ?_ (by decide) h63 hbytes hbase _ rfl ?_
  · intro u hu
    simp at hu
    subst hu
    exact h1
  · intro g cap w' h2 h3 _ _
    exact h _ w' h2 h3
end
namespace Fn
theorem fd_cut (X f m a k : Nat) (h : a + k ≤ m) : Bt.fd (Bt.cut X f m) a k = Bt.fd X (f + a) k := by
  apply Bt.eq_of_bt
  intro j
  unfold Bt.fd
  rw [Wd.bt_mod, Wd.bt_mod, Wd.bt_div, Wd.bt_div, Bt.bt_cut]
  by_cases hj : j < k
  · rw [if_pos hj, if_pos hj, if_pos (by omega), Nat.add_assoc]
  · rw [if_neg hj, if_neg hj]
/-- Whether bytes are a sequence's. -/
def IsOf (s : List UInt8) : Prop := ∃ m X l u, Bt.ofB s = some (m, X) ∧ Reads X m l u
def IsPost (s : List UInt8) (e : Ending) : Prop := ∃ r, e = .returned (.bool r) ∧ (r = true ↔ IsOf s)
theorem IsPost.no {s : List UInt8} {e : Ending} (h : ¬ IsOf s) (he : e = .returned (.bool false)) : IsPost s e := ⟨false, he, ⟨(fun h => by cases h), fun g => absurd g h⟩⟩
theorem isOf_none {s : List UInt8} (h : Bt.ofB s = none) : ¬ IsOf s := by
  rintro ⟨m, X, l, u, h1, _⟩
  rw [h] at h1
  cases h1
theorem isOf_iff {s : List UInt8} {m X : Nat} (h : Bt.ofB s = some (m, X)) : IsOf s ↔ ∃ l u, Reads X m l u := by
  constructor
  · rintro ⟨m', X', l, u, h1, h2⟩
    rw [h] at h1
    cases h1
    exact ⟨l, u, h2⟩
  · rintro ⟨l, u, h2⟩
    exact ⟨m, X, l, u, h, h2⟩
/-- What Is asks, one by one. -/
theorem isOf_parts {s : List UInt8} {m X N u : Nat} (h : Bt.ofB s = some (m, X)) (h65 : 65 ≤ m) (hN : N = Bt.fd X 0 24) (hu : u = Bt.fd X 24 41) :
    IsOf s ↔ 1 ≤ u ∧ u ≤ 1099511627776 ∧ m = 65 + lows N u + highs N u ∧ Wd.ones (Bt.cut X (65 + lows N u) (highs N u)) (highs N u) = N ∧ OkI (decI (Bt.cut X 65 (lows N u)) (wdt N u) (plc (Bt.cut X (65 + lows N u) (highs N u)) (highs N u) N)) u := by
  rw [isOf_iff h]
  constructor
  · rintro ⟨l, u', hr⟩
    have e1 := hr.cnt
    have e2 := hr.bnd
    rw [cnt_eq h65, ← hN] at e1
    rw [bnd_eq h65, ← hu] at e2
    subst e2
    refine ⟨hr.ok.pos, hr.ok.le, ?_, ?_, ?_⟩
    · rw [e1]; exact hr.len
    · rw [e1]; exact hr.ones
    · rw [e1, hr.dec]; exact hr.ok.int
  · rintro ⟨_, _, h3, h4, h5⟩
    obtain ⟨l, u2, hl, hu2, ok⟩ := h5.nat
    obtain rfl : u = u2 := by omega
    have hll : l.length = N := by
      have := congrArg List.length hl
      rw [decI_length, plc_length, ints_length] at this
      exact this.symm
    rw [← hll] at h3 h4 hl
    exact ⟨l, u, ok, by rw [cnt_eq h65, ← hN, hll], by rw [bnd_eq h65, hu], h3, h4, hl⟩
end Fn
theorem ofB_length {s : ByteArray} {m X : Nat} (h : Bt.ofB s.data.toList = some (m, X)) : s.size = 8 + 8 * ((m + 63) / 64) := by
  have h1 := (Bt.ofB_some h).2.2
  have h2 := congrArg List.length h1
  unfold Bt.rowB at h2
  rw [Bt.rowTo_length] at h2
  exact h2
set_option maxHeartbeats 1000000 in
set_option maxRecDepth 100000 in
theorem Is5_any (s : ByteArray) (w : World) (hs : s.size ≤ 1000) :
    Calls Tryz.prog 14 #[.string s] w fun e w' => Fn.IsPost s.data.toList e ∧ Below w.heap.size w w' := by
  have HOF := hidden (rOf_any s w (by omega))
  have HS := hidden hs
  obtain ⟨i0, hi, hz0, hz1, hz2⟩ := info_parts Tryz.infoI
  clear hs
  go_enter Tryz.func14, Tryz.ntmps14
  go_wp2_with fail
  refine (HOF.out).mono ?_
  rintro e' w1 ⟨hb1, v, h⟩
  rcases h with ⟨hn, rfl⟩ | ⟨m, X, hof, rfl, hbl⟩
  · have HB1 := hidden hb1
    have HNO := hidden (Fn.isOf_none hn)
    clear hb1 hn
    go_wp2_with fail
    go_ret
    exact ⟨Fn.IsPost.no HNO.out rfl, HB1.out⟩
  · have HB1 := hidden hb1
    have HL := HS.out
    rw [ofB_length hof] at HL
    have hm : m ≤ 8000 := by omega
    have hX := (Bt.ofB_some hof).2.1
    have hnum := Bt.num_bitsTo_of X m hX
    have hll := Bt.bitsTo_length X m
    have HBL := hidden hbl
    have HOFB := hidden hof
    obtain ⟨ao, cap, rfl, hcap, hc⟩ := hbl.form
    rw [hll] at hcap hc HBL ⊢
    have HC := hidden hc
    have HLL := hidden hll
    have HNUM := hidden hnum
    clear hb1 hof HL hbl hX hnum hc hll
    by_cases h65 : m < 65
    · have HNO : Hid (¬ Fn.IsOf s.data.toList) := by
        show ¬ _
        rw [Fn.isOf_iff HOFB.out]
        rintro ⟨l, u, hr⟩
        have := hr.len
        omega
      go_wp2_with fail
      go_ret
      exact ⟨Fn.IsPost.no HNO.out rfl, HB1.out⟩
    · have HF1 := hidden (rFld_any (Bt.bitsTo X m) _ 0 24 w1 HBL.out (by rw [HLL.out]; omega) (by rw [HLL.out]; omega) (by omega))
      have HF2 := hidden (rFld_any (Bt.bitsTo X m) _ 24 41 w1 HBL.out (by rw [HLL.out]; omega) (by rw [HLL.out]; omega) (by omega))
      have HFF := hidden (fun (a k : Nat) w' (h : Below w1.heap.size w1 w') (h1 : a + k ≤ m) (h2 : k ≤ 64) => rFld_any (Bt.bitsTo X m) _ a k w' (HBL.out.after h) (by rw [HLL.out]; omega) (by rw [HLL.out]; exact h1) h2)
      rw [HNUM.out] at HF1 HF2 HFF
      have HPA := hidden (fun N u => Fn.isOf_parts (N := N) (u := u) HOFB.out (by omega))
      have hN : Bt.fd X 0 24 < 16777216 := Bt.fd_lt _ _ _
      have hu : Bt.fd X 24 41 < 2199023255552 := Bt.fd_lt _ _ _
      obtain ⟨N, hNN⟩ : ∃ N, N = Bt.fd X 0 24 := ⟨_, rfl⟩
      obtain ⟨u, huu⟩ : ∃ u, u = Bt.fd X 24 41 := ⟨_, rfl⟩
      have HP := hidden (HPA.out N u hNN huu)
      rw [← hNN] at hN HF1
      rw [← huu] at hu HF2
      have hNw : IntKind.i64.wrap (N : Int) = (N : Int) := by rw [IntKind.wrap_i64]; omega
      have huw : IntKind.i64.wrap (u : Int) = (u : Int) := by rw [IntKind.wrap_i64]; omega
      clear HPA hNN huu
      go_wp2_with fail
      refine (HF1.out).mono ?_
      rintro e' w2 ⟨rfl, rfl⟩
      go_wp2_with fail
      refine (HF2.out).mono ?_
      rintro e' w3 ⟨rfl, rfl⟩
      by_cases hu1 : u < 1
      · have HNO : Hid (¬ Fn.IsOf s.data.toList) := by
          show ¬ _
          rw [HP.out]
          intro h
          have := h.1
          omega
        obtain rfl : u = 0 := by omega
        go_wp2_with fail
        go_ret
        exact ⟨Fn.IsPost.no HNO.out rfl, HB1.out⟩
      by_cases hu2 : 1099511627776 < u
      · have HNO : Hid (¬ Fn.IsOf s.data.toList) := by
          show ¬ _
          rw [HP.out]
          intro h
          have := h.2.1
          omega
        go_wp2_with fail
        go_ret
        exact ⟨Fn.IsPost.no HNO.out rfl, HB1.out⟩
      by_cases hNm : m < N
      · have HNO : Hid (¬ Fn.IsOf s.data.toList) := by
          show ¬ _
          rw [HP.out]
          intro h
          have := h.2.2.1
          unfold Fn.highs at this
          omega
        go_wp2_with fail
        go_ret
        exact ⟨Fn.IsPost.no HNO.out rfl, HB1.out⟩
      have hW := Fn.wdt_le (n := N) hu
      have HWI := hidden (fun w => Width_any N u w hN (by omega))
      have hls : Fn.lows N u = N * Fn.wdt N u := rfl
      have hhs : Fn.highs N u = N + (u - 1) / 2 ^ Fn.wdt N u + 1 := rfl
      have hsh : ((u : Int) - 1) / 2 ^ Fn.wdt N u = (((u - 1) / 2 ^ Fn.wdt N u : Nat) : Int) := by
        rw [show ((u : Int) - 1) = ((u - 1 : Nat) : Int) from by omega]
        simp
      have hmul : (N : Int) * ((Fn.wdt N u : Nat) : Int) = ((Fn.lows N u : Nat) : Int) := by rw [hls]; simp
      have hlb : Fn.lows N u ≤ 671088640 := Fn.lows_le hN hu
      have HLS := hidden hls
      generalize Fn.wdt N u = W at *
      obtain ⟨T, hT⟩ : ∃ T, T = (u - 1) / 2 ^ W := ⟨_, rfl⟩
      rw [← hT] at hhs hsh
      have hTb : T ≤ u := by rw [hT]; exact Nat.le_trans (Nat.div_le_self _ _) (by omega)
      clear hls hT
      obtain ⟨Lw, hLw⟩ : ∃ Lw, Lw = Fn.lows N u := ⟨_, rfl⟩
      obtain ⟨H, hH⟩ : ∃ H, H = Fn.highs N u := ⟨_, rfl⟩
      rw [← hLw, ← hH] at HP
      rw [← hLw] at hmul hlb HLS
      rw [← hH] at hhs
      clear hLw hH
      by_cases hTm : m < T
      · have HNO : Hid (¬ Fn.IsOf s.data.toList) := by
          show ¬ _
          rw [HP.out]
          intro h
          have := h.2.2.1
          omega
        clear hhs
        go_wp2_with fail
        refine (HWI.out _).mono ?_
        rintro e' w4 ⟨rfl, rfl⟩
        go_wp2_with fail
        go_ret
        exact ⟨Fn.IsPost.no HNO.out rfl, HB1.out⟩
      by_cases hmm : m = 65 + Lw + H
      · have hmm2 : ((m : Int) != 65 + (Lw : Int) + (N : Int) + (T : Int) + 1) = false := by simp; omega
        have HHS := hidden hhs
        have HMM := hidden hmm
        have hLm : 65 + Lw ≤ m := by omega
        clear hmm hhs
        go_wp2_with fail
        refine (HWI.out _).mono ?_
        rintro e' w4 ⟨rfl, rfl⟩
        go_wp2_with fail
        obtain ⟨Y, hY⟩ : ∃ Y, Y = Bt.cut X (65 + Lw) H := ⟨_, rfl⟩
        obtain ⟨Z, hZ⟩ : ∃ Z, Z = Bt.cut X 65 Lw := ⟨_, rfl⟩
        rw [← hY, ← hZ] at HP
        have HYB := hidden (fun j (hj : j < H) => show Wd.bt Y j = Wd.bt X (65 + Lw + j) from by rw [hY, Bt.bt_cut, if_pos hj])
        have HZF := hidden (fun c (hc : c < N) => show Bt.fd Z (c * W) W = Bt.fd X (65 + c * W) W from by
          rw [hZ]
          refine Fn.fd_cut _ _ _ _ _ ?_
          rw [HLS.out]
          have : (c + 1) * W ≤ N * W := Nat.mul_le_mul_right _ hc
          rw [Nat.add_mul, Nat.one_mul] at this
          exact this)
        clear hY hZ hmm2 hsh
        go_loopw [8, 9, 10] (fun lv pv iv wr => ∃ (j c p : Nat), j ≤ H ∧ j = c + p ∧ c = Wd.ones Y j ∧ c ≤ N ∧ pv = .int .i64 (p : Nat) ∧ iv = .int .i64 ((65 + Lw + j : Nat) : Int) ∧ wr.ownsRow w4.heap.size 3 1 lv c (Fn.nvals (Fn.decI Z W (Fn.plc Y H c))) ∧ Below w4.heap.size w4 wr) (fun _ _ iv _ => 65 + Lw + H - (intOf iv).toNat)
        case atStart => exact ⟨0, 0, 0, by omega, rfl, rfl, by omega, rfl, by go_num, World.ownsRow_nil _ _ _ _, Below.refl _ _⟩
        case round =>
          obtain ⟨j, c, p, hj, hjc, hco, hcN, rfl, rfl, hown, hbel⟩ := hrel
          obtain ⟨ao2, cap2, rfl, hcap2⟩ := Fn.lenV_own hown
          have HOV := hidden hown
          have HBR := hidden hbel
          have hsz := hbel.size
          have HJC := hidden hjc
          have HCO := hidden hco
          obtain ⟨Q, hQ⟩ : ∃ Q : Nat, Q = 65 + Lw + j := ⟨_, rfl⟩
          rw [← hQ]
          have hQm : Q ≤ m := by have := HMM.out; omega
          have hp : p ≤ m := by omega
          have HQ := hidden hQ
          clear hown hbel hjc hco hQ
          by_cases hjH : j < H
          · have hQm2 : Q < m := by have := HMM.out; have := HQ.out; omega
            obtain ⟨g, rfl, hg, hcell⟩ := HC.out (by omega)
            have c0 := cell_after HBR.out (hcell Q hQm2)
            rw [Bt.bitsTo_getD, show decide (Q < m) = true from by simpa using hQm2, Bool.true_and] at c0
            have hbt := HYB.out j hjH
            rw [← HQ.out] at hbt
            have hos := Wd.ones_succ Y j
            rw [hbt, ← HCO.out, Wd.bt_testBit] at hos
            cases hb : X.testBit Q with
            | false =>
              rw [hb] at c0 hos
              have HOS := hidden hos
              clear hcell hbt hos hb
              go_wp2_with fail
              go_roundw
              case rel => exact ⟨j + 1, c, p + 1, by omega, by have := HJC.out; omega, by rw [HOS.out]; rfl, hcN, by go_num, by have := HQ.out; go_num, HOV.out, HBR.out⟩
              case measure => have := HQ.out; simp [intOf]; omega
            | true =>
              rw [hb] at c0 hos
              have HOS := hidden hos
              rw [Wd.bt_testBit X, hb] at hbt
              clear hcell hb
              by_cases hcN2 : c = N
              · have HNO : Hid (¬ Fn.IsOf s.data.toList) := by
                  show ¬ _
                  rw [HP.out]
                  intro h
                  have h4 := h.2.2.2.1
                  have h5 := Wd.ones_mono Y (j + 1) H (by omega)
                  have h6 := HOS.out
                  simp at h6
                  omega
                subst hcN2
                clear hbt hos
                go_wp2_with fail
                go_ret
                exact ⟨Fn.IsPost.no HNO.out rfl, HB1.out.trans (HBR.out.mono HB1.out.size)⟩
              · have hcl : c < N := by omega
                have hpl : Ck.pl Y c H = j := Ck.pl_eq ⟨hjH, by rw [hbt]; rfl, HCO.out.symm⟩
                obtain ⟨F, hF⟩ : ∃ F, F = Bt.fd X (65 + c * W) W := ⟨_, rfl⟩
                have hFl : F < 2 ^ W := by rw [hF]; exact Bt.fd_lt _ _ _
                have hF40 : F < 1099511627776 + 1 := by have := Nat.pow_le_pow_right (show 0 < 2 by decide) hW; omega
                have hFw : IntKind.i64.wrap (F : Int) = (F : Int) := by rw [IntKind.wrap_i64]; omega
                obtain ⟨V, hV⟩ : ∃ V, IntKind.i64.wrap ((p : Int) * 2 ^ W) = V := ⟨_, rfl⟩
                have hdec : Fn.nvals (Fn.decI Z W (Fn.plc Y H (c + 1))) = Fn.nvals (Fn.decI Z W (Fn.plc Y H c)) ++ [.int .i64 (bits .or .i64 V (F : Int))] := by
                  rw [Fn.plc_succ, Fn.decI_snoc, Fn.nvals_snoc, Fn.plc_length, hpl]
                  congr 3
                  unfold Fn.jnAt Fn.jn
                  rw [HZF.out c hcl, ← hF, show IntKind.i64.wrap ((j : Int) - (c : Int)) = (p : Int) from by rw [IntKind.wrap_i64]; have := HJC.out; omega, hV]
                have hcwm : 65 + c * W + W ≤ m := by
                  have h1 : (c + 1) * W ≤ N * W := Nat.mul_le_mul_right _ hcl
                  rw [Nat.add_mul, Nat.one_mul, ← HLS.out] at h1
                  omega
                have HFc := hidden (fun w' (h : Below w4.heap.size w4 w') => HFF.out (65 + c * W) W w' h hcwm (by omega))
                rw [← hF] at HFc
                obtain ⟨CW, hCW⟩ : ∃ CW, CW = c * W := ⟨_, rfl⟩
                have hcw : (c : Int) * (W : Int) = (CW : Int) := by rw [hCW]; simp
                rw [← hCW, show ((65 + CW : Nat) : Int) = 65 + (CW : Int) from by omega] at HFc
                have hCb : CW ≤ m := by omega
                have HDEC := hidden hdec
                have dcN : ((c : Int) == (N : Int)) = false := by simp; omega
                have hw1 : IntKind.i64.wrap (65 + (CW : Int)) = 65 + (CW : Int) := by rw [IntKind.wrap_i64]; omega
                have hw2 : IntKind.i64.wrap (CW : Int) = (CW : Int) := by rw [IntKind.wrap_i64]; omega
                clear hbt hos hpl hF hdec hcwm hCW hFl HOF HS HOFB HLL HNUM HBL HC HF1 HF2 HFF HYB HZF HWI HLS HHS hNw huw hmul
                go_wp2_with fail
                go_region_held_law (fun _ => True) (trivial)
                  (first
                    | (go_at_call 34; refine (HFc.out _ HBR.out.drew).mono ?_; rintro e' w5 ⟨rfl, rfl⟩)
                    | (refine step_append_one _ rfl (.tmp 89) (.tmp 103) 57 rfl w4.heap.size 3 i0 (.int .i64 0) 8 Tryz.underlying57 hi hz0 hz1 hz2 rfl (.slice ao2 c cap2) c (Fn.nvals (Fn.decI Z W (Fn.plc Y H c))) rfl (by exact HOV.out.alloc _) _ 1 _ _ rfl (by exact heap_alloc_new _ _) rfl (by unfold maxLen; omega) (by omega) (by simp; omega) ?_; intro v5 w5 hown5 hgrow5; have HOV5 := hidden hown5; have HBR5 := hidden ((HBR.out.drew.alloc (by exact hsz) _).grown hgrow5 (by simp; omega) (fun k e => (HOV.out.lt k e).1)); clear hown5 hgrow5))
                go_wp2_with fail
                go_roundw
                case rel => exact ⟨j + 1, c + 1, p, by omega, by have := HJC.out; omega, by rw [HOS.out]; rfl, by omega, rfl, by have := HQ.out; go_num, by rw [HDEC.out]; exact HOV5.out, HBR5.out⟩
                case measure => have := HQ.out; simp [intOf]; omega
          · obtain rfl : j = H := by omega
            have hQm3 : Q = m := by have := HMM.out; have := HQ.out; omega
            have HBE := hidden (HB1.out.trans (HBR.out.mono HB1.out.size))
            have hIn := Ints.of_nown HOV.out (by rw [Fn.decI_length, Fn.plc_length])
            have hlen : (Fn.decI Z W (Fn.plc Y j c)).length ≤ 1000000 := by rw [Fn.decI_length, Fn.plc_length]; omega
            have HRB := hidden (Right_big (Fn.decI Z W (Fn.plc Y j c)) (u : Int) _ wr hIn hlen)
            subst hQm3
            clear hIn hlen HOF HS HOFB HLL HNUM HBL HC HF1 HF2 HFF HYB HZF HWI HLS HHS
            by_cases hcN2 : c = N
            · subst hcN2
              go_wp2_with fail
              refine (HRB.out).mono ?_
              rintro e' w5 ⟨⟨r, rfl, hr⟩, mm, rfl⟩
              have HR := hidden hr
              clear hr
              go_wp2_with fail
              go_ret
              refine ⟨⟨r, rfl, ?_⟩, below_drewN HBE.out mm⟩
              rw [HR.out, HP.out]
              exact ⟨fun h => ⟨by omega, by omega, HMM.out, HCO.out.symm, h⟩, fun h => h.2.2.2.2⟩
            · have HNO : Hid (¬ Fn.IsOf s.data.toList) := by
                show ¬ _
                rw [HP.out]
                intro h
                have h4 := h.2.2.2.1
                rw [← HCO.out] at h4
                exact hcN2 h4
              have dcN : ((c : Int) == (N : Int)) = false := by simp; omega
              go_wp2_with fail
              go_ret
              exact ⟨Fn.IsPost.no HNO.out rfl, HBE.out⟩
      · have hmm2 : ((m : Int) == 65 + (Lw : Int) + (N : Int) + (T : Int) + 1) = false := by simp; omega
        have HNO : Hid (¬ Fn.IsOf s.data.toList) := by
          show ¬ _
          rw [HP.out]
          intro h
          have := h.2.2.1
          omega
        clear hhs hmm
        go_wp2_with fail
        refine (HWI.out _).mono ?_
        rintro e' w4 ⟨rfl, rfl⟩
        go_wp2_with fail
        go_ret
        exact ⟨Fn.IsPost.no HNO.out rfl, HB1.out⟩
end Go.Proofs.YtoipliflphbeiaaGreatDoor
