/-
  The contract of laceworkref10's Read: for every text; memory is but made.
-/
import Derived.Test.YthimbaflodphmaaDoorNuPos
namespace Go.Proofs.YthimbaflodphmaaDoor
open Go.RowKit
open Nu
namespace Nu
/-- Read's frame at its joints: what is in the slots from 7 on is free. -/
def fr (s p q A N : Value) (u : Nat → Value) : Array Value := #[s, undef, p, .bool false, q, A, N, u 7, u 8, u 9, u 10, u 11, u 12, u 13, u 14, u 15, u 16, u 17, u 18, u 19, u 20, u 21, u 22, u 23, u 24, u 25, u 26, u 27, u 28, u 29, u 30, u 31, u 32, u 33, u 34, u 35, u 36, u 37, u 38, u 39, u 40, u 41, u 42, u 43, u 44, u 45, u 46, u 47, u 48, u 49, u 50, u 51, u 52, u 53, u 54, u 55, u 56, u 57, u 58, u 59, u 60, u 61, u 62, u 63, u 64, u 65, u 66, u 67, u 68, u 69, u 70, u 71, u 72, u 73, u 74, u 75, u 76, u 77, u 78, u 79, u 80, u 81, u 82, u 83, u 84, u 85, u 86, u 87, u 88, u 89, u 90, u 91, u 92, u 93, u 94, u 95, u 96, u 97, u 98, u 99, u 100, u 101, u 102, u 103, u 104, u 105, u 106, u 107, u 108, u 109, u 110, u 111, u 112, u 113, u 114, u 115, u 116, u 117, u 118, u 119, u 120, u 121, u 122, u 123, u 124, u 125, u 126, u 127, u 128, u 129, u 130, u 131, u 132, u 133, u 134, u 135, u 136, u 137, u 138, u 139, u 140, u 141, u 142, u 143, u 144, u 145, u 146, u 147, u 148, u 149, u 150, u 151, u 152, u 153, u 154, u 155, u 156, u 157, u 158, u 159, u 160, u 161, u 162, u 163, u 164, u 165, u 166, u 167, u 168, u 169, u 170, u 171, u 172, u 173, u 174, u 175, u 176, u 177, u 178]
theorem fr_mk (s p q A N t7 t8 t9 t10 t11 t12 t13 t14 t15 t16 t17 t18 t19 t20 t21 t22 t23 t24 t25 t26 t27 t28 t29 t30 t31 t32 t33 t34 t35 t36 t37 t38 t39 t40 t41 t42 t43 t44 t45 t46 t47 t48 t49 t50 t51 t52 t53 t54 t55 t56 t57 t58 t59 t60 t61 t62 t63 t64 t65 t66 t67 t68 t69 t70 t71 t72 t73 t74 t75 t76 t77 t78 t79 t80 t81 t82 t83 t84 t85 t86 t87 t88 t89 t90 t91 t92 t93 t94 t95 t96 t97 t98 t99 t100 t101 t102 t103 t104 t105 t106 t107 t108 t109 t110 t111 t112 t113 t114 t115 t116 t117 t118 t119 t120 t121 t122 t123 t124 t125 t126 t127 t128 t129 t130 t131 t132 t133 t134 t135 t136 t137 t138 t139 t140 t141 t142 t143 t144 t145 t146 t147 t148 t149 t150 t151 t152 t153 t154 t155 t156 t157 t158 t159 t160 t161 t162 t163 t164 t165 t166 t167 t168 t169 t170 t171 t172 t173 t174 t175 t176 t177 t178 : Value) : (#[s, undef, p, .bool false, q, A, N, t7, t8, t9, t10, t11, t12, t13, t14, t15, t16, t17, t18, t19, t20, t21, t22, t23, t24, t25, t26, t27, t28, t29, t30, t31, t32, t33, t34, t35, t36, t37, t38, t39, t40, t41, t42, t43, t44, t45, t46, t47, t48, t49, t50, t51, t52, t53, t54, t55, t56, t57, t58, t59, t60, t61, t62, t63, t64, t65, t66, t67, t68, t69, t70, t71, t72, t73, t74, t75, t76, t77, t78, t79, t80, t81, t82, t83, t84, t85, t86, t87, t88, t89, t90, t91, t92, t93, t94, t95, t96, t97, t98, t99, t100, t101, t102, t103, t104, t105, t106, t107, t108, t109, t110, t111, t112, t113, t114, t115, t116, t117, t118, t119, t120, t121, t122, t123, t124, t125, t126, t127, t128, t129, t130, t131, t132, t133, t134, t135, t136, t137, t138, t139, t140, t141, t142, t143, t144, t145, t146, t147, t148, t149, t150, t151, t152, t153, t154, t155, t156, t157, t158, t159, t160, t161, t162, t163, t164, t165, t166, t167, t168, t169, t170, t171, t172, t173, t174, t175, t176, t177, t178] : Array Value) = fr s p q A N (fun j => [t7, t8, t9, t10, t11, t12, t13, t14, t15, t16, t17, t18, t19, t20, t21, t22, t23, t24, t25, t26, t27, t28, t29, t30, t31, t32, t33, t34, t35, t36, t37, t38, t39, t40, t41, t42, t43, t44, t45, t46, t47, t48, t49, t50, t51, t52, t53, t54, t55, t56, t57, t58, t59, t60, t61, t62, t63, t64, t65, t66, t67, t68, t69, t70, t71, t72, t73, t74, t75, t76, t77, t78, t79, t80, t81, t82, t83, t84, t85, t86, t87, t88, t89, t90, t91, t92, t93, t94, t95, t96, t97, t98, t99, t100, t101, t102, t103, t104, t105, t106, t107, t108, t109, t110, t111, t112, t113, t114, t115, t116, t117, t118, t119, t120, t121, t122, t123, t124, t125, t126, t127, t128, t129, t130, t131, t132, t133, t134, t135, t136, t137, t138, t139, t140, t141, t142, t143, t144, t145, t146, t147, t148, t149, t150, t151, t152, t153, t154, t155, t156, t157, t158, t159, t160, t161, t162, t163, t164, t165, t166, t167, t168, t169, t170, t171, t172, t173, t174, t175, t176, t177, t178].getD (j - 7) undef) := rfl
end Nu
set_option maxHeartbeats 8000000 in
set_option maxRecDepth 100000 in
theorem rRead_any (l : List UInt8) (w : World) (hs : l.length ≤ 1000000) :
    Calls Tryd.prog 24 #[.string (str l)] w (RrPost w (Nu.read l)) := by
  have hruns := fun i v (hi : i ≤ l.length) => rRun_any l i v hs hi
  obtain ⟨R, hR⟩ : ∃ R, R = Nu.read l := ⟨_, rfl⟩
  rw [← hR]
  have hrd : ∀ a : Nat, (a = 0 ∧ has 45 l = false) ∨ (a = 1 ∧ has 45 l = true) → a ≤ l.length ∧ R = body (has 45 l) (l.drop a) := by
    rintro a (⟨rfl, h⟩ | ⟨rfl, h⟩)
    · exact ⟨Nat.zero_le _, by rw [hR, Nu.read, off_has, h]; rfl⟩
    · have h0 := (has_at 45 l).1 h
      exact ⟨(List.getElem?_eq_some_iff.1 h0).1, by rw [hR, Nu.read, off_has, h]; rfl⟩
  obtain ⟨s, hS, hsz, hat⟩ := str_open l
  simp only [← hS] at hruns ⊢
  have HAT := hidden hat
  have HRUN := hidden hruns
  have HRD := hidden hrd
  clear hat hruns hS hR hrd
  have hA := XAt.start w
  obtain ⟨w0, hw0⟩ : ∃ w0, w0 = (w.alloc (.cells #[.bool false, .slice none 0 0, .int .i64 0, .int .i64 0] 47)).alloc (.cells #[.bool false, .slice none 0 0, .int .i64 0, .int .i64 0] 47) := ⟨_, rfl⟩
  rw [← hw0] at hA
  have HA := hidden hA
  have HW0 := hidden hw0
  clear hA hw0
  go_enter Tryd.func24, Tryd.ntmps24
  refine wp_seq_k fun K0 h0 => ?_
  have H0 := hidden h0
  clear h0
  go_wp2_with fail
  refine H0.out _ _ ?_
  clear H0
  refine wp_seq_k fun K0 h0 => ?_
  have H0 := hidden h0
  clear h0
  go_wp2_with fail
  refine H0.out _ _ ?_
  clear H0
  refine wp_seq_k fun K0 h0 => ?_
  have H0 := hidden h0
  clear h0
  go_wp2_with fail
  refine H0.out _ _ ?_
  clear H0
  rw [← HW0.out]
  refine wp_seq_k fun KJ hKJ => ?_
  have HJ : ∀ (a : Nat) (neg : Bool) (wr : World) (u : Nat → Value), a ≤ l.length → R = body neg (l.drop a) → XAt w wr neg (.slice none 0 0) 0 0 [] → KJ { tmps := fr (.string s) (.pointer (some ⟨w.heap.size, 0, none⟩)) (.pointer (some ⟨w.heap.size + 1, 0, none⟩)) (.int .i64 (a : Nat)) undef u, defers := [] } wr := by
    intro a neg wr u hal hrb hx
    refine hKJ _ _ ?_
    unfold fr
    have hdle := dc_le (l.drop a)
    rw [List.length_drop] at hdle
    have hbp := body_pos neg l a
    rw [← hrb] at hbp
    have hrn := HRUN.out a wr hal
    obtain ⟨n, hn⟩ : ∃ n, n = dc (l.drop a) := ⟨_, rfl⟩
    rw [← hn] at hbp hdle hrn
    have HRN := hidden hrn
    have HN := hidden hn
    have HBP := hidden hbp
    have HX := hidden hx
    clear hrn hn hbp hrb hx
    refine wp_seq_k fun K0 h0 => ?_
    have H0 := hidden h0
    clear h0
    go_wp2_with fail
    refine HRN.out.mono ?_
    rintro e w1 ⟨rfl, rfl⟩
    go_wp2_with fail
    refine H0.out _ _ ?_
    clear H0 HRN
    refine wp_seq_k fun KJ1 hKJ1 => ?_
    have HJ1 : ∀ (u : Nat → Value), n ≠ 0 → ¬ (1 < n ∧ l[a]? = some 48) → KJ1 { tmps := fr (.string s) (.pointer (some ⟨w.heap.size, 0, none⟩)) (.pointer (some ⟨w.heap.size + 1, 0, none⟩)) (.int .i64 (a : Nat)) (.int .i64 (n : Nat)) u, defers := [] } w1 := by
      intro u hn0 h48
      refine hKJ1 _ _ ?_
      unfold fr
      have hbt := HBP.out.2.2 hn0 h48
      clear HBP h48
      have HBT := hidden hbt
      clear hbt
      obtain ⟨wh, hwh⟩ : ∃ wh, wh = (l.drop a).take n := ⟨_, rfl⟩
      have hwl : wh.length = n := by rw [hwh, List.length_take, List.length_drop]; omega
      have hwd : ∀ c ∈ wh, dig c = true := by rw [hwh, HN.out]; exact dc_digs _
      have hwa : ∀ (k : Nat) (_ : k < n) (h2 : a + k < s.size) (h3 : k < wh.length), s[a + k]'h2 = wh[k]'h3 := fun k h h2 h3 => by
        rw [HAT.out _ h2 (by omega)]
        simp only [hwh, List.getElem_take, List.getElem_drop]
      rw [← hwh] at HBT
      have HWL := hidden hwl
      have HWD := hidden hwd
      have HWA := hidden hwa
      clear hwl hwd hwa hwh
      refine wp_seq_k fun K0 h0 => ?_
      have H0 := hidden h0
      clear h0
      go_wp2_with fail
      go_loopw [7] (fun i wr => ∃ (k : Nat) (v : Value), k ≤ n ∧ i = .int .i64 k ∧ Hid (XAt w wr neg v 0 0 (dz (wh.take k)))) (fun i _ => n - (intOf i).toNat)
      case atStart => exact ⟨0, .slice none 0 0, by omega, rfl, HX⟩
      case round =>
        obtain ⟨k, v, hk, rfl, HX2⟩ := hrel
        by_cases hlt : k < n
        · have h6 : a + k < s.size := by omega
          have h6l : a + k < l.length := by omega
          have hwk : k < wh.length := by rw [HWL.out]; exact hlt
          have hbe := HWA.out k hlt h6 hwk
          have hdg := dig_le (HWD.out _ (List.getElem_mem hwk))
          have hnx := dz_next wh k hwk
          rw [← hbe] at hdg hnx
          obtain ⟨J, hJ⟩ : ∃ J, J = a + k := ⟨_, rfl⟩
          have hJw : IntKind.i64.wrap ((a : Int) + (k : Int)) = (J : Int) := by rw [IntKind.wrap_i64]; omega
          simp only [← hJ] at h6 h6l hdg hnx
          obtain ⟨x, hx⟩ : ∃ x, x = (s[J]'h6).toNat - 48 := ⟨_, rfl⟩
          have hxv : (s[J]'h6).toNat = x + 48 := by omega
          have hx9 : x ≤ 9 := by omega
          rw [← hx] at hnx
          have hxw : IntKind.i64.wrap ((x : Int) + 48) = (x : Int) + 48 := by rw [IntKind.wrap_i64]; omega
          have hxw2 : IntKind.i64.wrap (x : Int) = (x : Int) := by rw [IntKind.wrap_i64]; omega
          have hdig := HX2.out.dig
          obtain ⟨jl, hjle⟩ : ∃ jl, jl = (dz (wh.take k)).length := ⟨_, rfl⟩
          have hjlen : jl ≤ 1000000 := by rw [hjle, dz_length, List.length_take]; omega
          rw [← hjle] at hdig
          have HDG := hidden hdig
          have HJL := hidden hjle
          have HNX := hidden hnx
          have c1 := HX2.out.xc 1
          have f1 := HX2.out.xf 1
          simp only [List.getElem?_toArray, List.getElem?_cons_zero, List.getElem?_cons_succ] at c1
          have hs2 := HX2.out.bel.size
          have hlw := lt_of_block HX2.out.row
          have hne1 : ¬ w.heap.size + 1 = wr.heap.size := by omega
          clear hbe hdg hnx hx hdig hjle hJ
          go_wp2_with fail
          go_region_law ((refine step_append_int rfl (.tmp 44) (.tmp 52) 45 rfl rfl w.heap.size v _ (dz (wh.take k)) rfl (by exact own_same (HDG.out.alloc _) (fun _ _ => rfl)) _ 1 _ _ rfl (by exact heap_alloc_new _ _) (by omega) (by simp; omega) ?_; intro v5 w5 hown5 hgrow5 hat5; obtain ⟨cc5, cap5, hv5, _⟩ := own_any hown5; subst hv5; have hg5 : (wr.alloc (.cells #[.int .i64 ((x : Nat) : Int)] 3)).grownBy w5 v.ownBlock := ⟨hgrow5.os, hgrow5.tape, hgrow5.output, hgrow5.size, hgrow5.block⟩; have hrow5 := HX2.out.rowD hg5; have c5 := Lib.cell_of_heap hrow5 1; have f5 := Lib.frozen_of_heap hrow5 1; simp only [List.getElem?_toArray, List.getElem?_cons_zero, List.getElem?_cons_succ] at c5; have HX5 := hidden (HX2.out.growD _ (x : Nat) (by rw [← HJL.out]; exact hown5) hg5); clear hown5 hgrow5 hat5 hg5 hrow5))
          all_goals go_simp
          all_goals
            (go_wp2_with fail
             go_roundw
             case rel => exact ⟨k + 1, _, by omega, by go_num, by rw [HNX.out]; exact HX5⟩
             case measure => simp [intOf]; omega)
        · obtain rfl : n = k := by omega
          have hx2 := HX2.out
          rw [List.take_of_length_le (by rw [HWL.out]; exact Nat.le_refl _)] at hx2
          have HX3 := hidden hx2
          clear hx2
          go_wp2_with fail
          refine H0.out _ _ ?_
          clear H0
          have c2 := HX3.out.xc 2
          have f2 := HX3.out.xf 2
          simp only [List.getElem?_toArray, List.getElem?_cons_zero, List.getElem?_cons_succ] at c2
          refine wp_seq_k fun K0 h0 => ?_
          have H0 := hidden h0
          clear h0
          go_wp2_with fail
          refine H0.out _ _ ?_
          clear H0
          have hA2 := HX3.out.s2 (n : Int)
          obtain ⟨w3, hw3⟩ : ∃ w3, w3 = wr.setCell ⟨w.heap.size + 1, 2, none⟩ (.int .i64 (n : Int)) := ⟨_, rfl⟩
          rw [← hw3] at hA2 ⊢
          have HX := hidden hA2
          clear hA2 hw3 HX3 HX2 c2 f2
          obtain ⟨J, hJ⟩ : ∃ J, J = a + n := ⟨_, rfl⟩
          have hJw : IntKind.i64.wrap ((a : Int) + (n : Int)) = (J : Int) := by rw [IntKind.wrap_i64]; omega
          rw [← hJ] at HBT
          have hJl : J ≤ l.length := by omega
          have HJE := hidden hJ
          clear hJ
          refine wp_seq_k fun K0 h0 => ?_
          have H0 := hidden h0
          clear h0
          go_wp2_with fail
          refine H0.out _ _ ?_
          clear H0
          clear hJw
          refine wp_seq_k fun KJ2 hKJ2 => ?_
          have HJ2 : ∀ (I : Nat) (fr' : List UInt8) (wr : World) (v : Value) (u : Nat → Value), I ≤ l.length → R = tail neg wh fr' (l.drop I) → XAt w wr neg v n 0 (dz (wh ++ fr')) → KJ2 { tmps := fr (.string s) (.pointer (some ⟨w.heap.size, 0, none⟩)) (.pointer (some ⟨w.heap.size + 1, 0, none⟩)) (.int .i64 (I : Nat)) (.int .i64 (n : Nat)) u, defers := [] } wr := by
            clear HX HBT HJE hJl hal
            intro I fr' wr v u hIle hrt hx
            refine hKJ2 _ _ ?_
            unfold fr
            have htp := tail_pos neg wh fr' l I
            rw [← hrt] at htp
            clear hrt
            obtain ⟨ht0, ht1, ht2⟩ := htp
            have HX := hidden hx
            clear hx
            by_cases hI : I = l.length
            · have hRS := ht0 hI
              have hIb : ((I : Int) == (l.length : Int)) = true := by rw [hI]; simp
              subst hI
              clear ht0 ht1 ht2
              have hR2 : R = some ⟨neg, wh, fr', false, []⟩ := hRS
              have HR2 := hidden hR2
              clear hR2 hRS
              obtain ⟨cv, capv, hv, _⟩ := own_any HX.out.dig
              obtain ⟨N, hN⟩ : ∃ N, N = (dz (wh ++ fr')).length := ⟨_, rfl⟩
              rw [← hN] at hv
              subst hv
              have HN2 := hidden hN
              clear hN
              have r0 := HX.out.rc 0
              have r1 := HX.out.rc 1
              have r2 := HX.out.rc 2
              have r3 := HX.out.rc 3
              have g0 := HX.out.rf 0
              have g1 := HX.out.rf 1
              have g2 := HX.out.rf 2
              have g3 := HX.out.rf 3
              simp only [List.getElem?_toArray, List.getElem?_cons_zero, List.getElem?_cons_succ] at r0 r1 r2 r3
              have c0 := HX.out.xc 0
              have c1 := HX.out.xc 1
              have c2 := HX.out.xc 2
              have c3 := HX.out.xc 3
              simp only [List.getElem?_toArray, List.getElem?_cons_zero, List.getElem?_cons_succ] at c0 c1 c2 c3
              go_wp2_with fail
              refine bodyPost_ret (results_cell_row_tmp rfl _ _ w.heap.size 47 #[.bool neg, .slice cv N capv, .int .i64 ((n : Nat) : Int), .int .i64 0] (0, 0) _ rfl ?_ Tryd.underlying47 rfl sizeNum) rfl ?_
              · exact heap_set_same _ _ 3 _ _ _ _ (heap_set_same _ _ 2 _ _ _ _ (heap_set_same _ _ 1 _ _ _ _ (heap_set_same _ _ 0 _ _ _ _ HX.out.res)))
              · rw [HR2.out]
                refine RrPost.yes (.slice cv N capv) ?_ ?_ ((((HX.out.bel.setCell (Nat.le_refl _) _).setCell (Nat.le_refl _) _).setCell (Nat.le_refl _) _).setCell (Nat.le_refl _) _)
                · show Ending.returned (.tuple #[.agg #[.bool neg, .slice cv N capv, .int .i64 ((n : Nat) : Int), .int .i64 0], .bool true]) = .returned (.tuple #[.agg #[.bool neg, .slice cv N capv, .int .i64 ((wh.length : Nat) : Int), .int .i64 (clip 1000000000000 ⟨neg, wh, fr', false, []⟩)], .bool true])
                  rw [HWL.out, show (0 : Int) = clip 1000000000000 ⟨neg, wh, fr', false, []⟩ from rfl]
                · show World.ownsRow _ _ _ _ (Value.slice cv N capv) (dz (wh ++ fr')).length (iv (dz (wh ++ fr')))
                  refine own_same HX.out.dig fun q hq => ?_
                  have h2 := (HX.out.apart q hq).1
                  rw [Below.heap_setCell _ _ _ _ h2, Below.heap_setCell _ _ _ _ h2, Below.heap_setCell _ _ _ _ h2, Below.heap_setCell _ _ _ _ h2]
            · have hIl : I < l.length := by omega
              have hIs : I < s.size := by omega
              have hIb : ((I : Int) == (l.length : Int)) = false := by rw [beq_eq_false_iff_ne]; omega
              have hb101 := byte_at HAT.out I hIs hIl 101
              have hb69 := byte_at HAT.out I hIs hIl 69
              have hself : l[I]? = some l[I] := List.getElem?_eq_getElem hIl
              refine wp_seq_k fun K0 h0 => ?_
              have H0 := hidden h0
              clear h0
              go_wp2_with fail
              refine H0.out _ _ ?_
              clear H0
              clear hIb
              by_cases he : (s[I]'hIs).toNat = 101 ∨ (s[I]'hIs).toNat = 69
              · have hte := ht2 (l[I]) hself (by
                  rcases he with h | h
                  · exact .inl (Option.some.inj (hself.symm.trans (hb101.2 h)))
                  · exact .inr (Option.some.inj (hself.symm.trans (hb69.2 h))))
                clear ht0 ht1 ht2 hb101 hb69 hself
                refine wp_seq_k fun KJ3 hKJ3 => ?_
                have HJ3 : ∀ (u : Nat → Value), KJ3 { tmps := fr (.string s) (.pointer (some ⟨w.heap.size, 0, none⟩)) (.pointer (some ⟨w.heap.size + 1, 0, none⟩)) (.int .i64 (I : Nat)) (.int .i64 (n : Nat)) u, defers := [] } wr := by
                  intro u
                  refine hKJ3 _ _ ?_
                  unfold fr
                  clear he
                  obtain ⟨b, hb⟩ : ∃ b, b = I + 1 := ⟨_, rfl⟩
                  have hbw : IntKind.i64.wrap ((I : Int) + 1) = (b : Int) := by rw [IntKind.wrap_i64]; omega
                  rw [← hb] at hte
                  have hbl : b ≤ l.length := by omega
                  have hep := fun mn q => expo_pos neg mn wh fr' l b q hbl
                  rw [← hte] at hep
                  have HEP := hidden hep
                  have HB := hidden hb
                  clear hep hb hte
                  refine wp_seq_k fun K0 h0 => ?_
                  have H0 := hidden h0
                  clear h0
                  go_wp2_with fail
                  refine H0.out _ _ ?_
                  clear H0
                  clear hbw
                  have HBY := hidden (fun h h2 c => byte_at HAT.out b h h2 c)
                  obtain ⟨c, hc⟩ : ∃ c, c = b + 1 := ⟨_, rfl⟩
                  have hcw : b < l.length → IntKind.i64.wrap ((b : Int) + 1) = (c : Int) := fun h => by rw [IntKind.wrap_i64]; omega
                  have HC := hidden hc
                  have HCW := hidden hcw
                  clear hc hcw
                  refine wp_seq_k fun K9 hK9 => ?_
                  have HJ9 : ∀ (mn : Bool) (u : Nat → Value), u 10 = .bool mn → ((mn = true ∧ ∃ h : b < s.size, (s[b]'h).toNat = 45) ∨ (mn = false ∧ ∀ h : b < s.size, (s[b]'h).toNat ≠ 45)) → K9 { tmps := fr (.string s) (.pointer (some ⟨w.heap.size, 0, none⟩)) (.pointer (some ⟨w.heap.size + 1, 0, none⟩)) (.int .i64 (b : Nat)) (.int .i64 (n : Nat)) u, defers := [] } wr := by
                    intro mn u hu hcs
                    refine hK9 _ _ ?_
                    unfold fr
                    rw [hu]
                    clear hu
                    refine wp_seq_k fun KJ4 hKJ4 => ?_
                    have HJ4 : ∀ (q : Nat) (u : Nat → Value), u 10 = .bool mn → q ≤ l.length → ((dc (l.drop q) = 0 → R = none) ∧ (q + dc (l.drop q) ≠ l.length → R = none) ∧ (dc (l.drop q) ≠ 0 → q + dc (l.drop q) = l.length → R = some ⟨neg, wh, fr', mn, l.drop q⟩)) → KJ4 { tmps := fr (.string s) (.pointer (some ⟨w.heap.size, 0, none⟩)) (.pointer (some ⟨w.heap.size + 1, 0, none⟩)) (.int .i64 (q : Nat)) (.int .i64 (n : Nat)) u, defers := [] } wr := by
                      intro q u hu hql hex
                      refine hKJ4 _ _ ?_
                      unfold fr
                      rw [hu]
                      clear hu hcs HEP HB hbl HBY HC HCW hI hIs hIl
                      have hq1 := dc_le (l.drop q)
                      rw [List.length_drop] at hq1
                      obtain ⟨hp1, hp2, hp3⟩ := hex
                      have hrn := HRUN.out q wr hql
                      obtain ⟨m, hm⟩ : ∃ m, m = dc (l.drop q) := ⟨_, rfl⟩
                      obtain ⟨ex, hxx⟩ : ∃ ex, ex = l.drop q := ⟨_, rfl⟩
                      rw [← hm] at hrn hq1 hp1 hp2 hp3
                      rw [← hxx] at hp3
                      have HRN := hidden hrn
                      have HP3 := hidden hp3
                      have HM := hidden hm
                      have HXX := hidden hxx
                      clear hrn hm hxx hp3
                      refine wp_seq_k fun K0 h0 => ?_
                      have H0 := hidden h0
                      clear h0
                      go_wp2_with fail
                      refine HRN.out.mono ?_
                      rintro e w2 ⟨rfl, rfl⟩
                      go_wp2_with fail
                      refine H0.out _ _ ?_
                      clear H0 HRN
                      by_cases hm0 : m = 0
                      · have hRN := hp1 hm0
                        clear hp1 hp2
                        subst hm0
                        have HR2 := hidden hRN
                        clear hRN
                        have r0 := HX.out.rc 0
                        have r1 := HX.out.rc 1
                        have r2 := HX.out.rc 2
                        have r3 := HX.out.rc 3
                        have g0 := HX.out.rf 0
                        have g1 := HX.out.rf 1
                        have g2 := HX.out.rf 2
                        have g3 := HX.out.rf 3
                        simp only [List.getElem?_toArray, List.getElem?_cons_zero, List.getElem?_cons_succ] at r0 r1 r2 r3
                        go_wp2_with fail
                        refine bodyPost_ret (results_cell_row_tmp rfl _ _ w.heap.size 47 #[.bool false, .slice none 0 0, .int .i64 0, .int .i64 0] (0, 0) _ rfl ?_ Tryd.underlying47 rfl sizeNum) rfl ?_
                        · exact heap_set_same _ _ 3 _ _ _ _ (heap_set_same _ _ 2 _ _ _ _ (heap_set_same _ _ 1 _ _ _ _ (heap_set_same _ _ 0 _ _ _ _ HX.out.res)))
                        · rw [HR2.out]
                          exact RrPost.no rfl ((((HX.out.bel.setCell (Nat.le_refl _) _).setCell (Nat.le_refl _) _).setCell (Nat.le_refl _) _).setCell (Nat.le_refl _) _)
                      · have hm0b : ((m : Int) == 0) = false := by rw [beq_eq_false_iff_ne]; omega
                        obtain ⟨E, hE⟩ : ∃ E, E = q + m := ⟨_, rfl⟩
                        have hEw : IntKind.i64.wrap ((q : Int) + (m : Int)) = (E : Int) := by rw [IntKind.wrap_i64]; omega
                        rw [← hE] at hp2
                        have HE := hidden hE
                        clear hE
                        by_cases hend : E = l.length
                        · have hqe := HP3.out hm0 (by rw [← HE.out]; exact hend)
                          have HQE := hidden hqe
                          have hmx : m = ex.length := by rw [HXX.out, List.length_drop]; have := HE.out; omega
                          have HMX := hidden hmx
                          have hdg : ∀ c ∈ ex, dig c = true := by
                            have h2 := dc_digs (l.drop q)
                            rwa [← HM.out, List.take_of_length_le (by rw [List.length_drop]; have := HE.out; omega), ← HXX.out] at h2
                          have HDG := hidden hdg
                          have hxa : ∀ (k : Nat) (h2 : q + k < s.size) (h3 : k < ex.length), s[q + k]'h2 = ex[k]'h3 := fun k h2 h3 => by
                            rw [HAT.out _ h2 (by omega)]
                            have hq2 : (l.drop q)[k]? = ex[k]? := by rw [HXX.out]
                            rw [List.getElem?_drop, List.getElem?_eq_getElem h3, List.getElem?_eq_getElem (by omega)] at hq2
                            exact Option.some.inj hq2
                          have HXA := hidden hxa
                          rw [hend] at hEw
                          clear hqe hmx hdg hxa hp1 hp2
                          refine wp_seq_k fun K0 h0 => ?_
                          have H0 := hidden h0
                          clear h0
                          go_wp2_with fail
                          refine H0.out _ _ ?_
                          clear H0
                          clear hEw hend hm0b hm0
                          refine wp_seq_k fun K5 h5 => ?_
                          have H5 := hidden h5
                          clear h5
                          go_wp2_with fail
                          go_loopw [12] (fun i wr => ∃ (k : Nat), k ≤ m ∧ i = .int .i64 k ∧ Hid (XAt w wr neg v n ((min (num (ex.take k)) 1000000000000 : Nat) : Int) (dz (wh ++ fr')))) (fun i _ => m - (intOf i).toNat)
                          case atStart => exact ⟨0, by omega, rfl, by rw [List.take_zero]; exact HX⟩
                          case round =>
                            obtain ⟨k, hk, rfl, HX2⟩ := hrel
                            by_cases hlt : k < m
                            · have h6 : q + k < s.size := by have := HE.out; omega
                              have h6l : q + k < l.length := by have := HE.out; omega
                              have hwk : k < ex.length := by rw [← HMX.out]; exact hlt
                              have hbe := HXA.out k h6 hwk
                              have hdg := dig_le (HDG.out _ (List.getElem_mem hwk))
                              have hnx := clip_snoc (ex.take k) (ex[k]) 1000000000000
                              have htk : ex.take k ++ [ex[k]] = ex.take (k + 1) := by rw [List.take_add_one, List.getElem?_eq_getElem hwk]; rfl
                              rw [htk] at hnx
                              rw [← hbe] at hdg hnx
                              obtain ⟨Z, hZ⟩ : ∃ Z, Z = q + k := ⟨_, rfl⟩
                              have hZw : IntKind.i64.wrap ((q : Int) + (k : Int)) = (Z : Int) := by rw [IntKind.wrap_i64]; omega
                              simp only [← hZ] at h6 h6l hdg hnx
                              obtain ⟨y, hy⟩ : ∃ y, y = (s[Z]'h6).toNat := ⟨_, rfl⟩
                              rw [← hy] at hdg hnx
                              obtain ⟨e0, he0⟩ : ∃ e0, e0 = min (num (ex.take k)) 1000000000000 := ⟨_, rfl⟩
                              rw [← he0] at hnx
                              have he0l : e0 ≤ 1000000000000 := by omega
                              obtain ⟨e1, he1⟩ : ∃ e1, e1 = min (num (ex.take (k + 1))) 1000000000000 := ⟨_, rfl⟩
                              rw [← he1] at hnx
                              obtain ⟨T1, hT1⟩ : ∃ T1, T1 = e0 * 10 := ⟨_, rfl⟩
                              obtain ⟨T2, hT2⟩ : ∃ T2, T2 = T1 + y := ⟨_, rfl⟩
                              obtain ⟨T3, hT3⟩ : ∃ T3, T3 = T2 - 48 := ⟨_, rfl⟩
                              obtain ⟨hy1, hy2⟩ := hdg
                              have w1 : IntKind.i64.wrap ((e0 : Int) * 10) = (T1 : Int) := by rw [IntKind.wrap_i64]; omega
                              have w2 : IntKind.i64.wrap ((T1 : Int) + (y : Int)) = (T2 : Int) := by rw [IntKind.wrap_i64]; omega
                              have w3 : IntKind.i64.wrap ((T2 : Int) - 48) = (T3 : Int) := by rw [IntKind.wrap_i64]; omega
                              have w4 : IntKind.i64.wrap (y : Int) = (y : Int) := by rw [IntKind.wrap_i64]; omega
                              have w5 : min (T3 : Int) 1000000000000 = (e1 : Int) := by omega
                              have hyv : (s[Z]'h6).toNat = y := hy.symm
                              have hx0 := HX2.out
                              rw [← he0] at hx0
                              have hx5 := fun (wd : World) (h : XAt w wd neg v n e0 (dz (wh ++ fr'))) => (h.s3 (e1 : Int))
                              have c3 := hx0.xc 3
                              have f3 := hx0.xf 3
                              simp only [List.getElem?_toArray, List.getElem?_cons_zero, List.getElem?_cons_succ] at c3
                              have HX0 := hidden hx0
                              have HE1 := hidden he1
                              have HX5 := hidden hx5
                              clear hbe hnx htk hx0 he0 he1 hT1 hT2 hT3 hy hZ hx5
                              go_wp2_with fail
                              go_region
                              all_goals go_simp
                              all_goals
                                (go_wp2_with fail
                                 go_roundw
                                 case rel => exact ⟨k + 1, by omega, by go_num, by rw [← HE1.out]; exact HX5.out _ HX0.out.drew⟩
                                 case measure => simp [intOf]; omega)
                            · obtain rfl : m = k := by omega
                              have hx2 := HX2.out
                              rw [List.take_of_length_le (by rw [← HMX.out]; exact Nat.le_refl _)] at hx2
                              obtain ⟨eN, heN⟩ : ∃ eN, eN = min (num ex) 1000000000000 := ⟨_, rfl⟩
                              rw [← heN] at hx2
                              have heNl : eN ≤ 1000000000000 := by omega
                              have HEN := hidden heN
                              have HX3 := hidden hx2
                              clear hx2 heN
                              go_wp2_with fail
                              refine H5.out _ _ ?_
                              clear H5
                              have hRS := HQE.out
                              cases mn
                              · have HX := HX3
                                have HEX : Hid ((eN : Int) = clip 1000000000000 ⟨neg, wh, fr', false, ex⟩) := hidden (by rw [HEN.out]; rfl)
                                have hR2 : R = some ⟨neg, wh, fr', false, ex⟩ := hRS
                                have HR2 := hidden hR2
                                clear hR2 hRS
                                obtain ⟨cv, capv, hv, _⟩ := own_any HX.out.dig
                                obtain ⟨N, hN⟩ : ∃ N, N = (dz (wh ++ fr')).length := ⟨_, rfl⟩
                                rw [← hN] at hv
                                subst hv
                                have HN2 := hidden hN
                                clear hN
                                have r0 := HX.out.rc 0
                                have r1 := HX.out.rc 1
                                have r2 := HX.out.rc 2
                                have r3 := HX.out.rc 3
                                have g0 := HX.out.rf 0
                                have g1 := HX.out.rf 1
                                have g2 := HX.out.rf 2
                                have g3 := HX.out.rf 3
                                simp only [List.getElem?_toArray, List.getElem?_cons_zero, List.getElem?_cons_succ] at r0 r1 r2 r3
                                have c0 := HX.out.xc 0
                                have c1 := HX.out.xc 1
                                have c2 := HX.out.xc 2
                                have c3 := HX.out.xc 3
                                simp only [List.getElem?_toArray, List.getElem?_cons_zero, List.getElem?_cons_succ] at c0 c1 c2 c3
                                go_wp2_with fail
                                refine bodyPost_ret (results_cell_row_tmp rfl _ _ w.heap.size 47 #[.bool neg, .slice cv N capv, .int .i64 ((n : Nat) : Int), .int .i64 (eN : Int)] (0, 0) _ rfl ?_ Tryd.underlying47 rfl sizeNum) rfl ?_
                                · exact heap_set_same _ _ 3 _ _ _ _ (heap_set_same _ _ 2 _ _ _ _ (heap_set_same _ _ 1 _ _ _ _ (heap_set_same _ _ 0 _ _ _ _ HX.out.res)))
                                · rw [HR2.out]
                                  refine RrPost.yes (.slice cv N capv) ?_ ?_ ((((HX.out.bel.setCell (Nat.le_refl _) _).setCell (Nat.le_refl _) _).setCell (Nat.le_refl _) _).setCell (Nat.le_refl _) _)
                                  · show Ending.returned (.tuple #[.agg #[.bool neg, .slice cv N capv, .int .i64 ((n : Nat) : Int), .int .i64 (eN : Int)], .bool true]) = .returned (.tuple #[.agg #[.bool neg, .slice cv N capv, .int .i64 ((wh.length : Nat) : Int), .int .i64 (clip 1000000000000 ⟨neg, wh, fr', false, ex⟩)], .bool true])
                                    rw [HWL.out, HEX.out]
                                  · show World.ownsRow _ _ _ _ (Value.slice cv N capv) (dz (wh ++ fr')).length (iv (dz (wh ++ fr')))
                                    refine own_same HX.out.dig fun q hq => ?_
                                    have h2 := (HX.out.apart q hq).1
                                    rw [Below.heap_setCell _ _ _ _ h2, Below.heap_setCell _ _ _ _ h2, Below.heap_setCell _ _ _ _ h2, Below.heap_setCell _ _ _ _ h2]
                              · have c3 := HX3.out.xc 3
                                have f3 := HX3.out.xf 3
                                simp only [List.getElem?_toArray, List.getElem?_cons_zero, List.getElem?_cons_succ] at c3
                                have hnw : IntKind.i64.wrap (-(eN : Int)) = -(eN : Int) := by rw [IntKind.wrap_i64]; omega
                                have HRS := hidden hRS
                                clear hRS
                                refine wp_seq_k fun K0 h0 => ?_
                                have H0 := hidden h0
                                clear h0
                                go_wp2_with fail
                                refine H0.out _ _ ?_
                                clear H0
                                have hA := HX3.out.s3 (-(eN : Int))
                                obtain ⟨w9, hw9⟩ : ∃ w9, w9 = wr.setCell ⟨w.heap.size + 1, 3, none⟩ (.int .i64 (-(eN : Int))) := ⟨_, rfl⟩
                                rw [← hw9] at hA ⊢
                                have HX := hidden hA
                                clear hA hw9 c3 f3 hnw
                                have hRS := HRS.out
                                have HEX : Hid (-(eN : Int) = clip 1000000000000 ⟨neg, wh, fr', true, ex⟩) := hidden (by rw [HEN.out]; rfl)
                                have hR2 : R = some ⟨neg, wh, fr', true, ex⟩ := hRS
                                have HR2 := hidden hR2
                                clear hR2 hRS
                                obtain ⟨cv, capv, hv, _⟩ := own_any HX.out.dig
                                obtain ⟨N, hN⟩ : ∃ N, N = (dz (wh ++ fr')).length := ⟨_, rfl⟩
                                rw [← hN] at hv
                                subst hv
                                have HN2 := hidden hN
                                clear hN
                                have r0 := HX.out.rc 0
                                have r1 := HX.out.rc 1
                                have r2 := HX.out.rc 2
                                have r3 := HX.out.rc 3
                                have g0 := HX.out.rf 0
                                have g1 := HX.out.rf 1
                                have g2 := HX.out.rf 2
                                have g3 := HX.out.rf 3
                                simp only [List.getElem?_toArray, List.getElem?_cons_zero, List.getElem?_cons_succ] at r0 r1 r2 r3
                                have c0 := HX.out.xc 0
                                have c1 := HX.out.xc 1
                                have c2 := HX.out.xc 2
                                have c3 := HX.out.xc 3
                                simp only [List.getElem?_toArray, List.getElem?_cons_zero, List.getElem?_cons_succ] at c0 c1 c2 c3
                                go_wp2_with fail
                                refine bodyPost_ret (results_cell_row_tmp rfl _ _ w.heap.size 47 #[.bool neg, .slice cv N capv, .int .i64 ((n : Nat) : Int), .int .i64 (-(eN : Int))] (0, 0) _ rfl ?_ Tryd.underlying47 rfl sizeNum) rfl ?_
                                · exact heap_set_same _ _ 3 _ _ _ _ (heap_set_same _ _ 2 _ _ _ _ (heap_set_same _ _ 1 _ _ _ _ (heap_set_same _ _ 0 _ _ _ _ HX.out.res)))
                                · rw [HR2.out]
                                  refine RrPost.yes (.slice cv N capv) ?_ ?_ ((((HX.out.bel.setCell (Nat.le_refl _) _).setCell (Nat.le_refl _) _).setCell (Nat.le_refl _) _).setCell (Nat.le_refl _) _)
                                  · show Ending.returned (.tuple #[.agg #[.bool neg, .slice cv N capv, .int .i64 ((n : Nat) : Int), .int .i64 (-(eN : Int))], .bool true]) = .returned (.tuple #[.agg #[.bool neg, .slice cv N capv, .int .i64 ((wh.length : Nat) : Int), .int .i64 (clip 1000000000000 ⟨neg, wh, fr', true, ex⟩)], .bool true])
                                    rw [HWL.out, HEX.out]
                                  · show World.ownsRow _ _ _ _ (Value.slice cv N capv) (dz (wh ++ fr')).length (iv (dz (wh ++ fr')))
                                    refine own_same HX.out.dig fun q hq => ?_
                                    have h2 := (HX.out.apart q hq).1
                                    rw [Below.heap_setCell _ _ _ _ h2, Below.heap_setCell _ _ _ _ h2, Below.heap_setCell _ _ _ _ h2, Below.heap_setCell _ _ _ _ h2]
                        · have hRN := hp2 hend
                          clear hp1 hp2
                          have hEn : ((E : Int) == (l.length : Int)) = false := by rw [beq_eq_false_iff_ne]; omega
                          have hEn2 : ((E : Int) != (l.length : Int)) = true := by rw [bne, hEn]; rfl
                          have HR2 := hidden hRN
                          clear hRN
                          have r0 := HX.out.rc 0
                          have r1 := HX.out.rc 1
                          have r2 := HX.out.rc 2
                          have r3 := HX.out.rc 3
                          have g0 := HX.out.rf 0
                          have g1 := HX.out.rf 1
                          have g2 := HX.out.rf 2
                          have g3 := HX.out.rf 3
                          simp only [List.getElem?_toArray, List.getElem?_cons_zero, List.getElem?_cons_succ] at r0 r1 r2 r3
                          go_wp2_with fail
                          refine bodyPost_ret (results_cell_row_tmp rfl _ _ w.heap.size 47 #[.bool false, .slice none 0 0, .int .i64 0, .int .i64 0] (0, 0) _ rfl ?_ Tryd.underlying47 rfl sizeNum) rfl ?_
                          · exact heap_set_same _ _ 3 _ _ _ _ (heap_set_same _ _ 2 _ _ _ _ (heap_set_same _ _ 1 _ _ _ _ (heap_set_same _ _ 0 _ _ _ _ HX.out.res)))
                          · rw [HR2.out]
                            exact RrPost.no rfl ((((HX.out.bel.setCell (Nat.le_refl _) _).setCell (Nat.le_refl _) _).setCell (Nat.le_refl _) _).setCell (Nat.le_refl _) _)
                    have HHJ4 := hidden HJ4
                    clear HJ4 hKJ4
                    rcases hcs with ⟨rfl, hlt, h45⟩ | ⟨rfl, hno⟩
                    · have hl45 := (HBY.out hlt (by omega) 45).2 h45
                      have hep := HEP.out true c (.inl ⟨rfl, hl45, HC.out⟩)
                      have hcw := HCW.out (by omega)
                      have HEP2 := hidden hep
                      have hcl : c ≤ l.length := by have := HC.out; omega
                      clear hep hl45 h45
                      go_wp2_with fail
                      rw [fr_mk]
                      exact HHJ4.out c _ rfl hcl HEP2.out
                    · by_cases hbe : b = l.length
                      · have hn : l[b]? = none := List.getElem?_eq_none (by omega)
                        have hep := HEP.out false b (.inr (.inr ⟨rfl, by rw [hn]; simp, by rw [hn]; simp, rfl⟩))
                        have HEP2 := hidden hep
                        have hbn : ¬ b < l.length := by omega
                        clear hep hn hno hbe
                        go_wp2_with fail
                        rw [fr_mk]
                        exact HHJ4.out b _ rfl hbl HEP2.out
                      · have hbs : b < s.size := by omega
                        have hbL : b < l.length := by omega
                        have h45 := hno hbs
                        by_cases h43 : (s[b]'hbs).toNat = 43
                        · have hl43 := (HBY.out hbs hbL 43).2 h43
                          have hep := HEP.out false c (.inr (.inl ⟨rfl, hl43, HC.out⟩))
                          have hcw := HCW.out hbL
                          have HEP2 := hidden hep
                          have hcl : c ≤ l.length := by have := HC.out; omega
                          clear hep hl43 h45 hno hbe
                          go_wp2_with fail
                          rw [fr_mk]
                          exact HHJ4.out c _ rfl hcl HEP2.out
                        · have hep := HEP.out false b (.inr (.inr ⟨rfl, fun h => h45 ((HBY.out hbs hbL 45).1 h), fun h => h43 ((HBY.out hbs hbL 43).1 h), rfl⟩))
                          have HEP2 := hidden hep
                          have h43b : ((((s[b]'hbs).toNat : Nat) : Int) == 43) = false := by rw [beq_eq_false_iff_ne]; omega
                          clear hep h45 hno hbe h43
                          go_wp2_with fail
                          rw [fr_mk]
                          exact HHJ4.out b _ rfl hbl HEP2.out
                  have HHJ9 := hidden HJ9
                  clear HJ9 hK9
                  by_cases hbe : b = l.length
                  · have hbn : ¬ b < l.length := by omega
                    clear hbe
                    go_wp2_with fail
                    rw [fr_mk]
                    exact HHJ9.out false _ rfl (.inr ⟨rfl, fun h => absurd h (by omega)⟩)
                  · have hbs : b < s.size := by omega
                    have hbL : b < l.length := by omega
                    by_cases h45 : (s[b]'hbs).toNat = 45
                    · have H45 := hidden h45
                      go_wp2_with fail
                      rw [fr_mk]
                      exact HHJ9.out true _ rfl (.inl ⟨rfl, hbs, H45.out⟩)
                    · have H45 := hidden h45
                      have h45b : ((((s[b]'hbs).toNat : Nat) : Int) == 45) = false := by rw [beq_eq_false_iff_ne]; omega
                      clear h45
                      go_wp2_with fail
                      rw [fr_mk]
                      exact HHJ9.out false _ rfl (.inr ⟨rfl, fun _ => H45.out⟩)
                have HHJ3 := hidden HJ3
                clear HJ3 hKJ3
                rcases he with he | he
                · go_wp2_with fail
                  rw [fr_mk]
                  exact HHJ3.out _
                · go_wp2_with fail
                  rw [fr_mk]
                  exact HHJ3.out _
              · have hRN := ht1 (l[I]) hself (by
                  rintro (h | h)
                  · exact he (.inl (hb101.1 (by rw [hself, h])))
                  · exact he (.inr (hb69.1 (by rw [hself, h]))))
                have he1 : ((((s[I]'hIs).toNat : Nat) : Int) == 101) = false := by rw [beq_eq_false_iff_ne]; omega
                have he2 : ((((s[I]'hIs).toNat : Nat) : Int) == 69) = false := by rw [beq_eq_false_iff_ne]; omega
                have he3 : ((((s[I]'hIs).toNat : Nat) : Int) != 101) = true := by rw [bne, he1]; rfl
                have he4 : ((((s[I]'hIs).toNat : Nat) : Int) != 69) = true := by rw [bne, he2]; rfl
                clear ht0 ht1 ht2 hb101 hb69 hself he
                have HR2 := hidden hRN
                clear hRN
                have r0 := HX.out.rc 0
                have r1 := HX.out.rc 1
                have r2 := HX.out.rc 2
                have r3 := HX.out.rc 3
                have g0 := HX.out.rf 0
                have g1 := HX.out.rf 1
                have g2 := HX.out.rf 2
                have g3 := HX.out.rf 3
                simp only [List.getElem?_toArray, List.getElem?_cons_zero, List.getElem?_cons_succ] at r0 r1 r2 r3
                go_wp2_with fail
                refine bodyPost_ret (results_cell_row_tmp rfl _ _ w.heap.size 47 #[.bool false, .slice none 0 0, .int .i64 0, .int .i64 0] (0, 0) _ rfl ?_ Tryd.underlying47 rfl sizeNum) rfl ?_
                · exact heap_set_same _ _ 3 _ _ _ _ (heap_set_same _ _ 2 _ _ _ _ (heap_set_same _ _ 1 _ _ _ _ (heap_set_same _ _ 0 _ _ _ _ HX.out.res)))
                · rw [HR2.out]
                  exact RrPost.no rfl ((((HX.out.bel.setCell (Nat.le_refl _) _).setCell (Nat.le_refl _) _).setCell (Nat.le_refl _) _).setCell (Nat.le_refl _) _)
          have HHJ2 := hidden HJ2
          clear HJ2 hKJ2
          by_cases hP : J = l.length
          · have hRT := HBT.out.2.2 (by rw [hP, List.getElem?_eq_none (Nat.le_refl _)]; simp)
            have HRT := hidden hRT
            have hPb : ¬ J < l.length := by omega
            clear hRT hP
            go_wp2_with fail
            rw [fr_mk]
            exact HHJ2.out J [] _ _ _ hJl HRT.out (by rw [List.append_nil]; exact HX.out)
          · have hJs : J < s.size := by omega
            have hJ2 : J < l.length := by omega
            have hb46 := byte_at HAT.out J hJs hJ2 46
            by_cases h46 : (s[J]'hJs).toNat = 46
            · have hb1 := HBT.out.1 (hb46.2 h46)
              have hb2 := HBT.out.2.1 (hb46.2 h46)
              obtain ⟨Y, hY⟩ : ∃ Y, Y = J + 1 := ⟨_, rfl⟩
              have hYw : IntKind.i64.wrap ((J : Int) + 1) = (Y : Int) := by rw [IntKind.wrap_i64]; omega
              rw [← hY] at hb1 hb2
              have hrn := HRUN.out Y w3 (by omega)
              have hml := dc_le (l.drop Y)
              rw [List.length_drop] at hml
              have hmd := dc_digs (l.drop Y)
              obtain ⟨m, hm⟩ : ∃ m, m = dc (l.drop Y) := ⟨_, rfl⟩
              rw [← hm] at hrn hml hb1 hb2 hmd
              obtain ⟨fr', hfr⟩ : ∃ fr', fr' = (l.drop Y).take m := ⟨_, rfl⟩
              rw [← hfr] at hb2 hmd
              have hfl : fr'.length = m := by rw [hfr, List.length_take, List.length_drop]; omega
              have hfa : ∀ (k : Nat) (_ : 1 ≤ k) (_ : k ≤ m) (h2 : J + k < s.size) (h3 : k - 1 < fr'.length), s[J + k]'h2 = fr'[k - 1]'h3 := fun k hk1 hk2 h2 h3 => by
                rw [HAT.out _ h2 (by omega)]
                have hq2 : ((l.drop Y).take m)[k - 1]? = fr'[k - 1]? := by rw [hfr]
                rw [List.getElem?_take, if_pos (by omega), List.getElem?_drop, List.getElem?_eq_getElem h3, show Y + (k - 1) = J + k by omega, List.getElem?_eq_getElem (by omega)] at hq2
                exact Option.some.inj hq2
              have hYl : Y + m ≤ l.length := by omega
              have HRN := hidden hrn
              have HB1 := hidden hb1
              have HB2 := hidden hb2
              have HFD := hidden hmd
              have HFL := hidden hfl
              have HFA := hidden hfa
              have HYE := hidden hY
              clear hb46 hrn hb1 hb2 hmd hfl hfa hm hfr hP HBT hml hY
              go_wp2_with fail
              refine HRN.out.mono ?_
              rintro e w4 ⟨rfl, rfl⟩
              clear HRN hYw h46
              by_cases hm0 : m = 0
              · have hRN := HB1.out hm0
                subst hm0
                have HR2 := hidden hRN
                clear hRN
                have r0 := HX.out.rc 0
                have r1 := HX.out.rc 1
                have r2 := HX.out.rc 2
                have r3 := HX.out.rc 3
                have g0 := HX.out.rf 0
                have g1 := HX.out.rf 1
                have g2 := HX.out.rf 2
                have g3 := HX.out.rf 3
                simp only [List.getElem?_toArray, List.getElem?_cons_zero, List.getElem?_cons_succ] at r0 r1 r2 r3
                go_wp2_with fail
                refine bodyPost_ret (results_cell_row_tmp rfl _ _ w.heap.size 47 #[.bool false, .slice none 0 0, .int .i64 0, .int .i64 0] (0, 0) _ rfl ?_ Tryd.underlying47 rfl sizeNum) rfl ?_
                · exact heap_set_same _ _ 3 _ _ _ _ (heap_set_same _ _ 2 _ _ _ _ (heap_set_same _ _ 1 _ _ _ _ (heap_set_same _ _ 0 _ _ _ _ HX.out.res)))
                · rw [HR2.out]
                  exact RrPost.no rfl ((((HX.out.bel.setCell (Nat.le_refl _) _).setCell (Nat.le_refl _) _).setCell (Nat.le_refl _) _).setCell (Nat.le_refl _) _)
              · have hm0b : ((m : Int) == 0) = false := by rw [beq_eq_false_iff_ne]; omega
                have hRT := HB2.out hm0
                obtain ⟨M1, hM1⟩ : ∃ M1, M1 = m + 1 := ⟨_, rfl⟩
                have hMw : IntKind.i64.wrap ((m : Int) + 1) = (M1 : Int) := by rw [IntKind.wrap_i64]; omega
                obtain ⟨I, hI⟩ : ∃ I, I = Y + m := ⟨_, rfl⟩
                have hIw : IntKind.i64.wrap ((J : Int) + (M1 : Int)) = (I : Int) := by rw [IntKind.wrap_i64]; have := HYE.out; omega
                rw [← hI] at hRT
                have HRT := hidden hRT
                have HI := hidden hI
                have hJm : J + m < l.length := by have := HYE.out; omega
                clear hRT hI hM1
                go_wp2_with fail
                go_loopw [9] (fun i wr => ∃ (k : Nat) (v : Value), 1 ≤ k ∧ k ≤ m + 1 ∧ i = .int .i64 k ∧ Hid (XAt w wr neg v n 0 (dz (wh ++ fr'.take (k - 1))))) (fun i _ => m + 1 - (intOf i).toNat)
                case atStart => exact ⟨1, _, by omega, by omega, rfl, by rw [Nat.sub_self, List.take_zero, List.append_nil]; exact HX⟩
                case round =>
                  obtain ⟨k, v, hk1, hk, rfl, HX2⟩ := hrel
                  by_cases hlt : k ≤ m
                  · have h6 : J + k < s.size := by omega
                    have h6l : J + k < l.length := by omega
                    have hwk : k - 1 < fr'.length := by have := HFL.out; omega
                    have hbe := HFA.out k hk1 hlt h6 hwk
                    have hdg := dig_le (HFD.out _ (List.getElem_mem hwk))
                    have hnx := dz_next fr' (k - 1) hwk
                    rw [← hbe, show k - 1 + 1 = k + 1 - 1 by omega] at hnx
                    rw [← hbe] at hdg
                    obtain ⟨Z, hZ⟩ : ∃ Z, Z = J + k := ⟨_, rfl⟩
                    have hZw : IntKind.i64.wrap ((J : Int) + (k : Int)) = (Z : Int) := by rw [IntKind.wrap_i64]; omega
                    simp only [← hZ] at h6 h6l hdg hnx
                    obtain ⟨x, hx⟩ : ∃ x, x = (s[Z]'h6).toNat - 48 := ⟨_, rfl⟩
                    have hxv : (s[Z]'h6).toNat = x + 48 := by omega
                    have hx9 : x ≤ 9 := by omega
                    rw [← hx] at hnx
                    have hxw : IntKind.i64.wrap ((x : Int) + 48) = (x : Int) + 48 := by rw [IntKind.wrap_i64]; omega
                    have hxw2 : IntKind.i64.wrap (x : Int) = (x : Int) := by rw [IntKind.wrap_i64]; omega
                    have hdig := HX2.out.dig
                    obtain ⟨jl, hjle⟩ : ∃ jl, jl = (dz (wh ++ fr'.take (k - 1))).length := ⟨_, rfl⟩
                    have hjlen : jl ≤ 1000000 := by
                      have e1 := HWL.out
                      have e2 := HJE.out
                      have e3 := HFL.out
                      rw [hjle, dz_length, List.length_append, List.length_take]
                      omega
                    rw [← hjle] at hdig
                    have hnx2 : dz (wh ++ fr'.take (k + 1 - 1)) = dz (wh ++ fr'.take (k - 1)) ++ [((x : Nat) : Int)] := by rw [dz_append, hnx, dz_append, List.append_assoc]
                    have HDG := hidden hdig
                    have HJL := hidden hjle
                    have HNX := hidden hnx2
                    have c1 := HX2.out.xc 1
                    have f1 := HX2.out.xf 1
                    simp only [List.getElem?_toArray, List.getElem?_cons_zero, List.getElem?_cons_succ] at c1
                    have hs2 := HX2.out.bel.size
                    have hlw := lt_of_block HX2.out.row
                    have hne1 : ¬ w.heap.size + 1 = wr.heap.size := by omega
                    clear hbe hdg hnx hnx2 hx hdig hjle hZ
                    go_wp2_with fail
                    go_region_law ((refine step_append_int rfl (.tmp 83) (.tmp 91) 45 rfl rfl w.heap.size v _ (dz (wh ++ fr'.take (k - 1))) rfl (by exact own_same (HDG.out.alloc _) (fun _ _ => rfl)) _ 1 _ _ rfl (by exact heap_alloc_new _ _) (by omega) (by simp; omega) ?_; intro v5 w5 hown5 hgrow5 hat5; obtain ⟨cc5, cap5, hv5, _⟩ := own_any hown5; subst hv5; have hg5 : (wr.alloc (.cells #[.int .i64 ((x : Nat) : Int)] 3)).grownBy w5 v.ownBlock := ⟨hgrow5.os, hgrow5.tape, hgrow5.output, hgrow5.size, hgrow5.block⟩; have hrow5 := HX2.out.rowD hg5; have c5 := Lib.cell_of_heap hrow5 1; have f5 := Lib.frozen_of_heap hrow5 1; simp only [List.getElem?_toArray, List.getElem?_cons_zero, List.getElem?_cons_succ] at c5; have HX5 := hidden (HX2.out.growD _ (x : Nat) (by rw [← HJL.out]; exact hown5) hg5); clear hown5 hgrow5 hat5 hg5 hrow5))
                    all_goals go_simp
                    all_goals
                      (go_wp2_with fail
                       go_roundw
                       case rel => exact ⟨k + 1, _, by omega, by omega, by go_num, by rw [HNX.out]; exact HX5⟩
                       case measure => simp [intOf]; omega)
                  · obtain rfl : k = m + 1 := by omega
                    have hx2 := HX2.out
                    rw [Nat.add_sub_cancel, List.take_of_length_le (by rw [HFL.out]; exact Nat.le_refl _)] at hx2
                    have HX3 := hidden hx2
                    clear hx2
                    go_wp2_with fail
                    rw [fr_mk]
                    exact HHJ2.out _ fr' _ _ _ (by have := HI.out; omega) HRT.out HX3.out
            · have hRT := HBT.out.2.2 (fun h => h46 (hb46.1 h))
              have HRT := hidden hRT
              have h46b : ((((s[J]'hJs).toNat : Nat) : Int) == 46) = false := by rw [beq_eq_false_iff_ne]; omega
              clear hRT hP hb46 h46
              go_wp2_with fail
              rw [fr_mk]
              exact HHJ2.out J [] _ _ _ hJl HRT.out (by rw [List.append_nil]; exact HX.out)
    have HHJ1 := hidden HJ1
    clear HJ1 hKJ1
    by_cases hn0 : n = 0
    · have hRN := HBP.out.1 hn0
      subst hn0
      have HR2 := hidden hRN
      clear hRN
      have r0 := HX.out.rc 0
      have r1 := HX.out.rc 1
      have r2 := HX.out.rc 2
      have r3 := HX.out.rc 3
      have g0 := HX.out.rf 0
      have g1 := HX.out.rf 1
      have g2 := HX.out.rf 2
      have g3 := HX.out.rf 3
      simp only [List.getElem?_toArray, List.getElem?_cons_zero, List.getElem?_cons_succ] at r0 r1 r2 r3
      go_wp2_with fail
      refine bodyPost_ret (results_cell_row_tmp rfl _ _ w.heap.size 47 #[.bool false, .slice none 0 0, .int .i64 0, .int .i64 0] (0, 0) _ rfl ?_ Tryd.underlying47 rfl sizeNum) rfl ?_
      · exact heap_set_same _ _ 3 _ _ _ _ (heap_set_same _ _ 2 _ _ _ _ (heap_set_same _ _ 1 _ _ _ _ (heap_set_same _ _ 0 _ _ _ _ HX.out.res)))
      · rw [HR2.out]
        exact RrPost.no rfl ((((HX.out.bel.setCell (Nat.le_refl _) _).setCell (Nat.le_refl _) _).setCell (Nat.le_refl _) _).setCell (Nat.le_refl _) _)
    · have haz : a < s.size := by omega
      have hn0b : ((n : Int) == 0) = false := by rw [beq_eq_false_iff_ne]; omega
      have hb48 := byte_at HAT.out a haz (by omega) 48
      by_cases h48 : 1 < n ∧ l[a]? = some 48
      · have hRN := HBP.out.2.1 h48.1 h48.2
        have h1n := h48.1
        have hs48 : (s[a]'haz).toNat = 48 := hb48.1 h48.2
        clear h48 hb48
        have HR2 := hidden hRN
        clear hRN
        have r0 := HX.out.rc 0
        have r1 := HX.out.rc 1
        have r2 := HX.out.rc 2
        have r3 := HX.out.rc 3
        have g0 := HX.out.rf 0
        have g1 := HX.out.rf 1
        have g2 := HX.out.rf 2
        have g3 := HX.out.rf 3
        simp only [List.getElem?_toArray, List.getElem?_cons_zero, List.getElem?_cons_succ] at r0 r1 r2 r3
        go_wp2_with fail
        refine bodyPost_ret (results_cell_row_tmp rfl _ _ w.heap.size 47 #[.bool false, .slice none 0 0, .int .i64 0, .int .i64 0] (0, 0) _ rfl ?_ Tryd.underlying47 rfl sizeNum) rfl ?_
        · exact heap_set_same _ _ 3 _ _ _ _ (heap_set_same _ _ 2 _ _ _ _ (heap_set_same _ _ 1 _ _ _ _ (heap_set_same _ _ 0 _ _ _ _ HX.out.res)))
        · rw [HR2.out]
          exact RrPost.no rfl ((((HX.out.bel.setCell (Nat.le_refl _) _).setCell (Nat.le_refl _) _).setCell (Nat.le_refl _) _).setCell (Nat.le_refl _) _)
      · have hcase : n ≤ 1 ∨ (1 < n ∧ ((((s[a]'haz).toNat : Nat) : Int) == 48) = false) := by
          by_cases h1 : n ≤ 1
          · exact .inl h1
          · refine .inr ⟨by omega, ?_⟩
            rw [beq_eq_false_iff_ne]
            intro e0
            exact h48 ⟨by omega, hb48.2 (by show (s[a]'haz).toNat = 48; omega)⟩
        have H48 := hidden h48
        clear h48 hb48
        rcases hcase with hc | ⟨hc, hc2⟩
        · go_wp2_with fail
          rw [fr_mk]
          exact HHJ1.out _ hn0 H48.out
        · go_wp2_with fail
          rw [fr_mk]
          exact HHJ1.out _ hn0 H48.out
  clear hKJ
  have HHJ := hidden HJ
  clear HJ
  by_cases hz : s.size = 0
  · have h45 : has 45 l = false := by
      cases l with
      | nil => rfl
      | cons c l => simp at hsz; omega
    have hrb := HRD.out 0 (.inl ⟨rfl, h45⟩)
    go_wp2_with fail
    rw [fr_mk]
    exact HHJ.out 0 _ _ _ hrb.1 hrb.2 (by rw [h45]; exact HA.out)
  · have hz0 : 0 < s.size := by omega
    have hb := byte_at HAT.out 0 hz0 (by omega) 45
    by_cases h45 : (s[0]'hz0).toNat = 45
    · have h45b := (has_at 45 l).2 (hb.2 h45)
      have hrb := HRD.out 1 (.inr ⟨rfl, h45b⟩)
      have c0 := HA.out.xc 0
      have f0 := HA.out.xf 0
      simp only [List.getElem?_toArray, List.getElem?_cons_zero] at c0
      clear hb
      go_wp2_with fail
      rw [fr_mk]
      exact HHJ.out 1 _ _ _ hrb.1 hrb.2 (by rw [h45b]; exact HA.out.s0 true)
    · have h45b : has 45 l = false := by
        rw [← Bool.not_eq_true, has_at]
        exact fun h => h45 (hb.1 h)
      have hrb := HRD.out 0 (.inl ⟨rfl, h45b⟩)
      have hq : ((((s[0]'hz0).toNat : Nat) : Int) == 45) = false := by rw [beq_eq_false_iff_ne]; omega
      clear hb h45
      go_wp2_with fail
      rw [fr_mk]
      exact HHJ.out 0 _ _ _ hrb.1 hrb.2 (by rw [h45b]; exact HA.out)
end Go.Proofs.YthimbaflodphmaaDoor
