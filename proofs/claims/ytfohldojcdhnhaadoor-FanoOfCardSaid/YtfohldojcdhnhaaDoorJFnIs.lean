/-
  The contracts of laceworkref05's Right for long lists, and of laceworklaw05's Is: whether bytes are a sequence's.
  The contract of laceworklaw05's Is: whether bytes are a sequence's.
-/
import Derived.Test.YtfohldojcdhnhaaDoorJFnNum
import Derived.Test.YtfohldojcdhnhaaDoorJFnRefR
import Derived.Test.YtfohldojcdhnhaaDoorJBtRefB
namespace Go.Proofs.YtfohldojcdhnhaaDoor
open Go.RowKit
set_option maxHeartbeats 2000000 in
set_option maxRecDepth 100000 in
theorem Right_big (li : List Int) (b : Int) (u : Value) (w : World) (h : Ints w u li) (hl : li.length ≤ 1000000) :
    Calls Tryd.prog 11 #[u, .int .i64 b] w fun e w' => Fn.RightPost li b e ∧ ∃ m, w' = w.drewN m := by
  obtain ⟨ao, cap, rfl, hcap, hc⟩ := h.cells
  have HC := hidden hc
  clear hc h
  go_enter Tryd.func11, Tryd.ntmps11
  go_wp2_with fail
  go_loopw [5] (fun i wr => ∃ (k m : Nat), k ≤ li.length ∧ i = .int .i64 k ∧ Fn.Ris li b k ∧ wr = w.drewN m) (fun i _ => li.length - (intOf i).toNat)
  case atStart => exact ⟨0, 0, by omega, rfl, fun i hi => by omega, rfl⟩
  case round =>
    obtain ⟨k, m, hk, rfl, hr, hwr⟩ := hrel
    have HR := hidden hr
    have HL := hidden hr.last
    have HWR := hidden hwr
    clear hr
    by_cases hlt : k < li.length
    · obtain ⟨g, off, rfl, hg, hcell⟩ := HC.out (by omega)
      have c0 : wr.cell? ⟨g, off + k, none⟩ = some (.int .i64 (li.getD k 0)) := by rw [hwr]; exact hcell k hlt
      have c1 : wr.cell? ⟨g, off + (k - 1), none⟩ = some (.int .i64 (li.getD (k - 1) 0)) := by rw [hwr]; exact hcell (k - 1) (by omega)
      obtain ⟨x, hx⟩ : ∃ x, x = li.getD k 0 := ⟨_, rfl⟩
      obtain ⟨p, hp⟩ : ∃ p, p = li.getD (k - 1) 0 := ⟨_, rfl⟩
      rw [← hx] at c0
      rw [← hp] at c1
      have HX := hidden hx
      have HP := hidden hp
      clear hcell hx hp hwr
      by_cases h1 : x < 0
      · have d1 : decide (x < 0) = true := by simpa using h1
        go_wp2_with fail
        go_quiet (fail)
        go_wp2_with fail
        go_ret
        refine ⟨Fn.RightPost.no (fun g => ?_) rfl, m + nq, by rw [HWR.out]; exact drewN_twice _ _ _⟩
        have := (g k hlt).1
        rw [← HX.out] at this
        have := HL.out
        omega
      · have d1 : decide (x < 0) = false := by simpa using h1
        by_cases h2 : b ≤ x
        · have d2 : decide (b ≤ x) = true := by simpa using h2
          go_wp2_with fail
          go_quiet (fail)
          go_wp2_with fail
          go_ret
          refine ⟨Fn.RightPost.no (fun g => ?_) rfl, m + nq, by rw [HWR.out]; exact drewN_twice _ _ _⟩
          have := (g k hlt).2
          rw [← HX.out] at this
          omega
        · have d2 : decide (b ≤ x) = false := by simpa using h2
          by_cases h3 : k = 0
          · subst h3
            rw [Nat.add_zero] at c0
            go_wp2_with fail
            go_quiet (fail)
            go_wp2_with fail
            go_roundw
            case rel => exact ⟨1, m + nq, by omega, by go_num, HR.out.next (by rw [← HX.out]; show (0 : Int) ≤ x; omega) (by rw [← HX.out]; omega), by rw [HWR.out]; exact drewN_twice _ _ _⟩
            case measure => simp [intOf]; omega
          · obtain ⟨j, hj⟩ : ∃ j, j = k - 1 := ⟨_, rfl⟩
            rw [← hj] at c1
            have hkj : (k : Int) - 1 = (j : Int) := by omega
            have hj2 : j < li.length := by omega
            have d3 : decide (0 < k) = true := by simp; omega
            have hk0 : 0 < k := by omega
            have hlast : Fn.lastI li k = p := by
              unfold Fn.lastI
              rw [if_neg h3, HP.out]
            have HLA := hidden hlast
            have HJ := hidden hj
            clear hlast hj
            by_cases h4 : x < p
            · have d4 : decide (x < p) = true := by simpa using h4
              go_wp2_with fail
              go_quiet (fail)
              go_wp2_with fail
              go_ret
              refine ⟨Fn.RightPost.no (fun g => ?_) rfl, m + nq, by rw [HWR.out]; exact drewN_twice _ _ _⟩
              have := (g k hlt).1
              rw [← HX.out, HLA.out] at this
              omega
            · have d4 : decide (x < p) = false := by simpa using h4
              go_wp2_with fail
              go_quiet (fail)
              go_wp2_with fail
              go_roundw
              case rel => exact ⟨k + 1, m + nq, by omega, by go_num, HR.out.next (by rw [← HX.out, HLA.out]; omega) (by rw [← HX.out]; omega), by rw [HWR.out]; exact drewN_twice _ _ _⟩
              case measure => simp [intOf]; omega
    · obtain rfl : k = li.length := by omega
      clear hwr
      have d5 : decide ((li.length : Int) < 16777216) = true := by simp; omega
      by_cases h1 : 1 ≤ b
      · by_cases h2 : b ≤ 1099511627776
        · go_wp2_with fail
          go_ret
          exact ⟨⟨true, ret_bool (by simp), ⟨fun _ => ⟨h1, h2, by omega, HR.out⟩, fun _ => rfl⟩⟩, m, HWR.out⟩
        · go_wp2_with fail
          go_ret
          exact ⟨⟨false, ret_bool (by simp), ⟨(fun h => by cases h), fun g => absurd g.2.1 (by omega)⟩⟩, m, HWR.out⟩
      · go_wp2_with fail
        go_ret
        exact ⟨⟨false, ret_bool (by simp), ⟨(fun h => by cases h), fun g => absurd g.1 (by omega)⟩⟩, m, HWR.out⟩
end Go.Proofs.YtfohldojcdhnhaaDoor
namespace Go.Proofs.YtfohldojcdhnhaaDoor
open Go.RowKit
section
variable {P : Program}
/-- 'append(v, x)' at a step of a region that draws, x laid into block k. -/
theorem step_append_one (w : World) {ops : Array Oper} {o : Oper} {a : Act} {K : Act → World → Prop} {Q : Exit → Act → World → Prop} {E : Prop} (hgd : o.guard = none) (s x : Operand) (t : TypeId)
    (ho : o.op = .call { callee := .builtin .append, args := #[s, x], argTypes := #[t, t] })
    (base : Nat) (e : TypeId) (i : TypeInfo) (z : Value) (bytes : Nat) (ht : P.underlying t = some (.slice e)) (hi : P.info? e = some i) (hz : i.zero = some z)
    (hsize : i.size = 1) (hby : i.bytes = bytes) (hzs : z.cells.size = 1)
    (v : Value) (n : Nat) (xs : List Value) (hs : a.eval s = v) (hown : w.ownsRow base e 1 v n xs)
    (k c : Nat) (y : Value) (fr : Nat × Nat) (hx : a.eval x = .slice (some ⟨k, 0, none⟩) 1 c) (hk : w.heap[k]? = some (.cells #[y] e fr)) (h1 : y.oneCell' = true)
    (h63 : n + 1 ≤ maxLen) (hbytes : (n + 1) * bytes ≤ 140737488355328) (hbase : base ≤ w.heap.size)
    (h : ∀ v' w', w'.ownsRow base e 1 v' (n + 1) (xs ++ [y]) → w.grownBy w' v.ownBlock → K (a.put o.dst v') w') :
    if Region.wanted o (yielded ops a.tmps) = true then Oper.wp P o a w K Q else E := by
  refine step_append_lies w hgd s x t ho base e i z 1 bytes ht hi hz hsize hby hzs (by decide) v n xs hs hown ⟨k, 0, none⟩ 1 c [y] hx rfl (World.news_of_block hk) ?_ (by decide) h63 hbytes hbase _ rfl ?_
  · intro u hu
    simp at hu
    subst hu
    exact h1
  · intro g cap w' h2 h3 _ _
    exact h _ w' h2 h3
end
namespace Fn
theorem fd_cut (X f m a k : Nat) (h : a + k ≤ m) : Bt.fd (Bt.cut X f m) a k = Bt.fd X (f + a) k := by
  apply Bt.eq_of_bt
  intro j
  unfold Bt.fd
  rw [Wd.bt_mod, Wd.bt_mod, Wd.bt_div, Wd.bt_div, Bt.bt_cut]
  by_cases hj : j < k
  · rw [if_pos hj, if_pos hj, if_pos (by omega), Nat.add_assoc]
  · rw [if_neg hj, if_neg hj]
/-- Whether bytes are a sequence's. -/
def IsOf (s : List UInt8) : Prop := ∃ m X l u, Bt.ofB s = some (m, X) ∧ Reads X m l u
def IsPost (s : List UInt8) (e : Ending) : Prop := ∃ r, e = .returned (.bool r) ∧ (r = true ↔ IsOf s)
theorem IsPost.no {s : List UInt8} {e : Ending} (h : ¬ IsOf s) (he : e = .returned (.bool false)) : IsPost s e := ⟨false, he, ⟨(fun h => by cases h), fun g => absurd g h⟩⟩
theorem isOf_none {s : List UInt8} (h : Bt.ofB s = none) : ¬ IsOf s := by
  rintro ⟨m, X, l, u, h1, _⟩
  rw [h] at h1
  cases h1
theorem isOf_iff {s : List UInt8} {m X : Nat} (h : Bt.ofB s = some (m, X)) : IsOf s ↔ ∃ l u, Reads X m l u := by
  constructor
  · rintro ⟨m', X', l, u, h1, h2⟩
    rw [h] at h1
    cases h1
    exact ⟨l, u, h2⟩
  · rintro ⟨l, u, h2⟩
    exact ⟨m, X, l, u, h, h2⟩
/-- What Is asks, one by one. -/
theorem isOf_parts {s : List UInt8} {m X N u : Nat} (h : Bt.ofB s = some (m, X)) (h65 : 65 ≤ m) (hN : N = Bt.fd X 0 24) (hu : u = Bt.fd X 24 41) :
    IsOf s ↔ 1 ≤ u ∧ u ≤ 1099511627776 ∧ m = 65 + lows N u + highs N u ∧ Wd.ones (Bt.cut X (65 + lows N u) (highs N u)) (highs N u) = N ∧ OkI (decI (Bt.cut X 65 (lows N u)) (wdt N u) (plc (Bt.cut X (65 + lows N u) (highs N u)) (highs N u) N)) u := by
  rw [isOf_iff h]
  constructor
  · rintro ⟨l, u', hr⟩
    have e1 := hr.cnt
    have e2 := hr.bnd
    rw [cnt_eq h65, ← hN] at e1
    rw [bnd_eq h65, ← hu] at e2
    subst e2
    refine ⟨hr.ok.pos, hr.ok.le, ?_, ?_, ?_⟩
    · rw [e1]; exact hr.len
    · rw [e1]; exact hr.ones
    · rw [e1, hr.dec]; exact hr.ok.int
  · rintro ⟨_, _, h3, h4, h5⟩
    obtain ⟨l, u2, hl, hu2, ok⟩ := h5.nat
    obtain rfl : u = u2 := by omega
    have hll : l.length = N := by
      have := congrArg List.length hl
      rw [decI_length, plc_length, ints_length] at this
      exact this.symm
    rw [← hll] at h3 h4 hl
    exact ⟨l, u, ok, by rw [cnt_eq h65, ← hN, hll], by rw [bnd_eq h65, hu], h3, h4, hl⟩
end Fn
theorem ofB_length {s : ByteArray} {m X : Nat} (h : Bt.ofB s.data.toList = some (m, X)) : s.size = 8 + 8 * ((m + 63) / 64) := by
  have h1 := (Bt.ofB_some h).2.2
  have h2 := congrArg List.length h1
  unfold Bt.rowB at h2
  rw [Bt.rowTo_length] at h2
  exact h2
set_option maxHeartbeats 1000000 in
set_option maxRecDepth 100000 in
theorem Is5_any (s : ByteArray) (w : World) (hs : s.size ≤ 400) :
    Calls Tryd.prog 30 #[.string s] w fun e w' => Fn.IsPost s.data.toList e ∧ Below w.heap.size w w' := by
  have HOF := hidden (rOf_any s w (by omega))
  have HS := hidden hs
  obtain ⟨i0, hi, hz0, hz1, hz2⟩ := info_parts Tryd.infoI
  clear hs
  go_enter Tryd.func30, Tryd.ntmps30
  go_wp2_with fail
  refine (HOF.out).mono ?_
  rintro e' w1 ⟨hb1, v, h⟩
  rcases h with ⟨hn, rfl⟩ | ⟨m, X, hof, rfl, hbl⟩
  · have HB1 := hidden hb1
    have HNO := hidden (Fn.isOf_none hn)
    clear hb1 hn
    go_wp2_with fail
    go_ret
    exact ⟨Fn.IsPost.no HNO.out rfl, HB1.out⟩
  · have HB1 := hidden hb1
    have HL := HS.out
    rw [ofB_length hof] at HL
    have hm : m ≤ 3200 := by omega
    have hX := (Bt.ofB_some hof).2.1
    have hnum := Bt.num_bitsTo_of X m hX
    have hll := Bt.bitsTo_length X m
    have HBL := hidden hbl
    have HOFB := hidden hof
    obtain ⟨ao, cap, rfl, hcap, hc⟩ := hbl.form
    rw [hll] at hcap hc HBL ⊢
    have HC := hidden hc
    have HLL := hidden hll
    have HNUM := hidden hnum
    clear hb1 hof HL hbl hX hnum hc hll
    by_cases h65 : m < 65
    · have HNO : Hid (¬ Fn.IsOf s.data.toList) := by
        show ¬ _
        rw [Fn.isOf_iff HOFB.out]
        rintro ⟨l, u, hr⟩
        have := hr.len
        omega
      go_wp2_with fail
      go_ret
      exact ⟨Fn.IsPost.no HNO.out rfl, HB1.out⟩
    · have HF1 := hidden (rFld_any (Bt.bitsTo X m) _ 0 24 w1 HBL.out (by rw [HLL.out]; omega) (by rw [HLL.out]; omega) (by omega))
      have HF2 := hidden (rFld_any (Bt.bitsTo X m) _ 24 41 w1 HBL.out (by rw [HLL.out]; omega) (by rw [HLL.out]; omega) (by omega))
      have HFF := hidden (fun (a k : Nat) w' (h : Below w1.heap.size w1 w') (h1 : a + k ≤ m) (h2 : k ≤ 64) => rFld_any (Bt.bitsTo X m) _ a k w' (HBL.out.after h) (by rw [HLL.out]; omega) (by rw [HLL.out]; exact h1) h2)
      rw [HNUM.out] at HF1 HF2 HFF
      have HPA := hidden (fun N u => Fn.isOf_parts (N := N) (u := u) HOFB.out (by omega))
      have hN : Bt.fd X 0 24 < 16777216 := Bt.fd_lt _ _ _
      have hu : Bt.fd X 24 41 < 2199023255552 := Bt.fd_lt _ _ _
      obtain ⟨N, hNN⟩ : ∃ N, N = Bt.fd X 0 24 := ⟨_, rfl⟩
      obtain ⟨u, huu⟩ : ∃ u, u = Bt.fd X 24 41 := ⟨_, rfl⟩
      have HP := hidden (HPA.out N u hNN huu)
      rw [← hNN] at hN HF1
      rw [← huu] at hu HF2
      have hNw : IntKind.i64.wrap (N : Int) = (N : Int) := by rw [IntKind.wrap_i64]; omega
      have huw : IntKind.i64.wrap (u : Int) = (u : Int) := by rw [IntKind.wrap_i64]; omega
      clear HPA hNN huu
      go_wp2_with fail
      refine (HF1.out).mono ?_
      rintro e' w2 ⟨rfl, rfl⟩
      go_wp2_with fail
      refine (HF2.out).mono ?_
      rintro e' w3 ⟨rfl, rfl⟩
      by_cases hu1 : u < 1
      · have HNO : Hid (¬ Fn.IsOf s.data.toList) := by
          show ¬ _
          rw [HP.out]
          intro h
          have := h.1
          omega
        obtain rfl : u = 0 := by omega
        go_wp2_with fail
        go_ret
        exact ⟨Fn.IsPost.no HNO.out rfl, HB1.out⟩
      by_cases hu2 : 1099511627776 < u
      · have HNO : Hid (¬ Fn.IsOf s.data.toList) := by
          show ¬ _
          rw [HP.out]
          intro h
          have := h.2.1
          omega
        go_wp2_with fail
        go_ret
        exact ⟨Fn.IsPost.no HNO.out rfl, HB1.out⟩
      by_cases hNm : m < N
      · have HNO : Hid (¬ Fn.IsOf s.data.toList) := by
          show ¬ _
          rw [HP.out]
          intro h
          have := h.2.2.1
          unfold Fn.highs at this
          omega
        go_wp2_with fail
        go_ret
        exact ⟨Fn.IsPost.no HNO.out rfl, HB1.out⟩
      have hW := Fn.wdt_le (n := N) hu
      have HWI := hidden (fun w => Width_any N u w hN (by omega))
      have hls : Fn.lows N u = N * Fn.wdt N u := rfl
      have hhs : Fn.highs N u = N + (u - 1) / 2 ^ Fn.wdt N u + 1 := rfl
      have hsh : ((u : Int) - 1) / 2 ^ Fn.wdt N u = (((u - 1) / 2 ^ Fn.wdt N u : Nat) : Int) := by
        rw [show ((u : Int) - 1) = ((u - 1 : Nat) : Int) from by omega]
        simp
      have hmul : (N : Int) * ((Fn.wdt N u : Nat) : Int) = ((Fn.lows N u : Nat) : Int) := by rw [hls]; simp
      have hlb : Fn.lows N u ≤ 671088640 := Fn.lows_le hN hu
      have HLS := hidden hls
      generalize Fn.wdt N u = W at *
      obtain ⟨T, hT⟩ : ∃ T, T = (u - 1) / 2 ^ W := ⟨_, rfl⟩
      rw [← hT] at hhs hsh
      have hTb : T ≤ u := by rw [hT]; exact Nat.le_trans (Nat.div_le_self _ _) (by omega)
      clear hls hT
      obtain ⟨Lw, hLw⟩ : ∃ Lw, Lw = Fn.lows N u := ⟨_, rfl⟩
      obtain ⟨H, hH⟩ : ∃ H, H = Fn.highs N u := ⟨_, rfl⟩
      rw [← hLw, ← hH] at HP
      rw [← hLw] at hmul hlb HLS
      rw [← hH] at hhs
      clear hLw hH
      by_cases hTm : m < T
      · have HNO : Hid (¬ Fn.IsOf s.data.toList) := by
          show ¬ _
          rw [HP.out]
          intro h
          have := h.2.2.1
          omega
        clear hhs
        go_wp2_with fail
        refine (HWI.out _).mono ?_
        rintro e' w4 ⟨rfl, rfl⟩
        go_wp2_with fail
        go_ret
        exact ⟨Fn.IsPost.no HNO.out rfl, HB1.out⟩
      by_cases hmm : m = 65 + Lw + H
      · have hmm2 : ((m : Int) != 65 + (Lw : Int) + (N : Int) + (T : Int) + 1) = false := by simp; omega
        have HHS := hidden hhs
        have HMM := hidden hmm
        have hLm : 65 + Lw ≤ m := by omega
        clear hmm hhs
        go_wp2_with fail
        refine (HWI.out _).mono ?_
        rintro e' w4 ⟨rfl, rfl⟩
        go_wp2_with fail
        obtain ⟨Y, hY⟩ : ∃ Y, Y = Bt.cut X (65 + Lw) H := ⟨_, rfl⟩
        obtain ⟨Z, hZ⟩ : ∃ Z, Z = Bt.cut X 65 Lw := ⟨_, rfl⟩
        rw [← hY, ← hZ] at HP
        have HYB := hidden (fun j (hj : j < H) => show Wd.bt Y j = Wd.bt X (65 + Lw + j) from by rw [hY, Bt.bt_cut, if_pos hj])
        have HZF := hidden (fun c (hc : c < N) => show Bt.fd Z (c * W) W = Bt.fd X (65 + c * W) W from by
          rw [hZ]
          refine Fn.fd_cut _ _ _ _ _ ?_
          rw [HLS.out]
          have : (c + 1) * W ≤ N * W := Nat.mul_le_mul_right _ hc
          rw [Nat.add_mul, Nat.one_mul] at this
          exact this)
        clear hY hZ hmm2 hsh
        go_loopw [8, 9, 10] (fun lv pv iv wr => ∃ (j c p : Nat), j ≤ H ∧ j = c + p ∧ c = Wd.ones Y j ∧ c ≤ N ∧ pv = .int .i64 (p : Nat) ∧ iv = .int .i64 ((65 + Lw + j : Nat) : Int) ∧ wr.ownsRow w4.heap.size 3 1 lv c (Fn.nvals (Fn.decI Z W (Fn.plc Y H c))) ∧ Below w4.heap.size w4 wr) (fun _ _ iv _ => 65 + Lw + H - (intOf iv).toNat)
        case atStart => exact ⟨0, 0, 0, by omega, rfl, rfl, by omega, rfl, by go_num, World.ownsRow_nil _ _ _ _, Below.refl _ _⟩
        case round =>
          obtain ⟨j, c, p, hj, hjc, hco, hcN, rfl, rfl, hown, hbel⟩ := hrel
          obtain ⟨ao2, cap2, rfl, hcap2⟩ := Fn.lenV_own hown
          have HOV := hidden hown
          have HBR := hidden hbel
          have hsz := hbel.size
          have HJC := hidden hjc
          have HCO := hidden hco
          obtain ⟨Q, hQ⟩ : ∃ Q : Nat, Q = 65 + Lw + j := ⟨_, rfl⟩
          rw [← hQ]
          have hQm : Q ≤ m := by have := HMM.out; omega
          have hp : p ≤ m := by omega
          have HQ := hidden hQ
          clear hown hbel hjc hco hQ
          by_cases hjH : j < H
          · have hQm2 : Q < m := by have := HMM.out; have := HQ.out; omega
            obtain ⟨g, rfl, hg, hcell⟩ := HC.out (by omega)
            have c0 := cell_after HBR.out (hcell Q hQm2)
            rw [Bt.bitsTo_getD, show decide (Q < m) = true from by simpa using hQm2, Bool.true_and] at c0
            have hbt := HYB.out j hjH
            rw [← HQ.out] at hbt
            have hos := Wd.ones_succ Y j
            rw [hbt, ← HCO.out, Wd.bt_testBit] at hos
            cases hb : X.testBit Q with
            | false =>
              rw [hb] at c0 hos
              have HOS := hidden hos
              clear hcell hbt hos hb
              go_wp2_with fail
              go_roundw
              case rel => exact ⟨j + 1, c, p + 1, by omega, by have := HJC.out; omega, by rw [HOS.out]; rfl, hcN, by go_num, by have := HQ.out; go_num, HOV.out, HBR.out⟩
              case measure => have := HQ.out; simp [intOf]; omega
            | true =>
              rw [hb] at c0 hos
              have HOS := hidden hos
              rw [Wd.bt_testBit X, hb] at hbt
              clear hcell hb
              by_cases hcN2 : c = N
              · have HNO : Hid (¬ Fn.IsOf s.data.toList) := by
                  show ¬ _
                  rw [HP.out]
                  intro h
                  have h4 := h.2.2.2.1
                  have h5 := Wd.ones_mono Y (j + 1) H (by omega)
                  have h6 := HOS.out
                  simp at h6
                  omega
                subst hcN2
                clear hbt hos
                go_wp2_with fail
                go_ret
                exact ⟨Fn.IsPost.no HNO.out rfl, HB1.out.trans (HBR.out.mono HB1.out.size)⟩
              · have hcl : c < N := by omega
                have hpl : Ck.pl Y c H = j := Ck.pl_eq ⟨hjH, by rw [hbt]; rfl, HCO.out.symm⟩
                obtain ⟨F, hF⟩ : ∃ F, F = Bt.fd X (65 + c * W) W := ⟨_, rfl⟩
                have hFl : F < 2 ^ W := by rw [hF]; exact Bt.fd_lt _ _ _
                have hF40 : F < 1099511627776 + 1 := by have := Nat.pow_le_pow_right (show 0 < 2 by decide) hW; omega
                have hFw : IntKind.i64.wrap (F : Int) = (F : Int) := by rw [IntKind.wrap_i64]; omega
                obtain ⟨V, hV⟩ : ∃ V, IntKind.i64.wrap ((p : Int) * 2 ^ W) = V := ⟨_, rfl⟩
                have hdec : Fn.nvals (Fn.decI Z W (Fn.plc Y H (c + 1))) = Fn.nvals (Fn.decI Z W (Fn.plc Y H c)) ++ [.int .i64 (bits .or .i64 V (F : Int))] := by
                  rw [Fn.plc_succ, Fn.decI_snoc, Fn.nvals_snoc, Fn.plc_length, hpl]
                  congr 3
                  unfold Fn.jnAt Fn.jn
                  rw [HZF.out c hcl, ← hF, show IntKind.i64.wrap ((j : Int) - (c : Int)) = (p : Int) from by rw [IntKind.wrap_i64]; have := HJC.out; omega, hV]
                have hcwm : 65 + c * W + W ≤ m := by
                  have h1 : (c + 1) * W ≤ N * W := Nat.mul_le_mul_right _ hcl
                  rw [Nat.add_mul, Nat.one_mul, ← HLS.out] at h1
                  omega
                have HFc := hidden (fun w' (h : Below w4.heap.size w4 w') => HFF.out (65 + c * W) W w' h hcwm (by omega))
                rw [← hF] at HFc
                obtain ⟨CW, hCW⟩ : ∃ CW, CW = c * W := ⟨_, rfl⟩
                have hcw : (c : Int) * (W : Int) = (CW : Int) := by rw [hCW]; simp
                rw [← hCW, show ((65 + CW : Nat) : Int) = 65 + (CW : Int) from by omega] at HFc
                have hCb : CW ≤ m := by omega
                have HDEC := hidden hdec
                have dcN : ((c : Int) == (N : Int)) = false := by simp; omega
                have hw1 : IntKind.i64.wrap (65 + (CW : Int)) = 65 + (CW : Int) := by rw [IntKind.wrap_i64]; omega
                have hw2 : IntKind.i64.wrap (CW : Int) = (CW : Int) := by rw [IntKind.wrap_i64]; omega
                clear hbt hos hpl hF hdec hcwm hCW hFl HOF HS HOFB HLL HNUM HBL HC HF1 HF2 HFF HYB HZF HWI HLS HHS hNw huw hmul
                go_wp2_with fail
                go_region_held_law (fun _ => True) (trivial)
                  (first
                    | (go_at_call 56; refine (HFc.out _ HBR.out.drew).mono ?_; rintro e' w5 ⟨rfl, rfl⟩)
                    | (refine step_append_one _ rfl (.tmp 89) (.tmp 103) 22 rfl w4.heap.size 3 i0 (.int .i64 0) 8 Tryd.underlying22 hi hz0 hz1 hz2 rfl (.slice ao2 c cap2) c (Fn.nvals (Fn.decI Z W (Fn.plc Y H c))) rfl (by exact HOV.out.alloc _) _ 1 _ _ rfl (by exact heap_alloc_new _ _) rfl (by unfold maxLen; omega) (by omega) (by simp; omega) ?_; intro v5 w5 hown5 hgrow5; have HOV5 := hidden hown5; have HBR5 := hidden ((HBR.out.drew.alloc (by exact hsz) _).grown hgrow5 (by simp; omega) (fun k e => (HOV.out.lt k e).1)); clear hown5 hgrow5))
                go_wp2_with fail
                go_roundw
                case rel => exact ⟨j + 1, c + 1, p, by omega, by have := HJC.out; omega, by rw [HOS.out]; rfl, by omega, rfl, by have := HQ.out; go_num, by rw [HDEC.out]; exact HOV5.out, HBR5.out⟩
                case measure => have := HQ.out; simp [intOf]; omega
          · obtain rfl : j = H := by omega
            have hQm3 : Q = m := by have := HMM.out; have := HQ.out; omega
            have HBE := hidden (HB1.out.trans (HBR.out.mono HB1.out.size))
            have hIn := Ints.of_nown HOV.out (by rw [Fn.decI_length, Fn.plc_length])
            have hlen : (Fn.decI Z W (Fn.plc Y j c)).length ≤ 1000000 := by rw [Fn.decI_length, Fn.plc_length]; omega
            have HRB := hidden (Right_big (Fn.decI Z W (Fn.plc Y j c)) (u : Int) _ wr hIn hlen)
            subst hQm3
            clear hIn hlen HOF HS HOFB HLL HNUM HBL HC HF1 HF2 HFF HYB HZF HWI HLS HHS
            by_cases hcN2 : c = N
            · subst hcN2
              go_wp2_with fail
              refine (HRB.out).mono ?_
              rintro e' w5 ⟨⟨r, rfl, hr⟩, mm, rfl⟩
              have HR := hidden hr
              clear hr
              go_wp2_with fail
              go_ret
              refine ⟨⟨r, rfl, ?_⟩, below_drewN HBE.out mm⟩
              rw [HR.out, HP.out]
              exact ⟨fun h => ⟨by omega, by omega, HMM.out, HCO.out.symm, h⟩, fun h => h.2.2.2.2⟩
            · have HNO : Hid (¬ Fn.IsOf s.data.toList) := by
                show ¬ _
                rw [HP.out]
                intro h
                have h4 := h.2.2.2.1
                rw [← HCO.out] at h4
                exact hcN2 h4
              have dcN : ((c : Int) == (N : Int)) = false := by simp; omega
              go_wp2_with fail
              go_ret
              exact ⟨Fn.IsPost.no HNO.out rfl, HBE.out⟩
      · have hmm2 : ((m : Int) == 65 + (Lw : Int) + (N : Int) + (T : Int) + 1) = false := by simp; omega
        have HNO : Hid (¬ Fn.IsOf s.data.toList) := by
          show ¬ _
          rw [HP.out]
          intro h
          have := h.2.2.1
          omega
        clear hhs hmm
        go_wp2_with fail
        refine (HWI.out _).mono ?_
        rintro e' w4 ⟨rfl, rfl⟩
        go_wp2_with fail
        go_ret
        exact ⟨Fn.IsPost.no HNO.out rfl, HB1.out⟩
end Go.Proofs.YtfohldojcdhnhaaDoor
