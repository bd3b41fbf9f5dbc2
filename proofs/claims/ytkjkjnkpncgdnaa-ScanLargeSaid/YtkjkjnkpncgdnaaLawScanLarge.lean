/-
  The walk of the law ScanLarge: it returns true for both lengths and every byte; nothing that was there is changed.
-/
import Derived.Test.YtkjkjnkpncgdnaaJsAwake
import Derived.Test.YtkjkjnkpncgdnaaScStack
namespace Go.Proofs.Ytkjkjnkpncgdnaa
open Go.RowKit
theorem Try.infoU8l : (Try.prog.info? 5).map (fun i => (i.zero, i.size, i.bytes)) = some (some (.int .u8 0), 1, 1) := by kernel_rfl
namespace Lg
theorem made (c : Nat) : madeCells #[Value.int .u8 0] c = Array.replicate c (Value.int .u8 0) := by
  apply Array.toList_inj.1
  rw [toList_madeCells_one, Array.toList_replicate]
theorem mk_bytes (c : Nat) (hc : c ≤ 4294967296) (u : World) : (Instr.makeSlice 32 (.int .i64 (c : Int)) (.int .i64 (c : Int))).run Try.prog u = .ok (.slice (some ⟨u.heap.size, 0, none⟩) c c) (u.alloc (.cells (Array.replicate c (Value.int .u8 0)) 5)) := by
  obtain ⟨i0, hi, hz0, hz1, hz2⟩ := info_parts Try.infoU8l
  have h := run_make (P := Try.prog) u 32 5 i0 (.int .u8 0) Try.underlying32 hi hz0 .i64 .i64 (c : Int) (c : Int) (by omega) (Int.le_refl _) (by rw [hz2]; omega) (by omega)
  rw [← made]
  simpa [hz1, Value.cells] using h
/-- The cells of bytes, and behind them as many that are 0. -/
def fill (l : List UInt8) (n : Nat) : Array Value := ((l.map fun b => Value.int .u8 (b.toNat : Int)) ++ List.replicate n (Value.int .u8 0)).toArray
theorem fill_zero (n : Nat) : fill [] n = Array.replicate n (Value.int .u8 0) := by
  apply Array.toList_inj.1
  rw [Array.toList_replicate]
  rfl
theorem fill_at (l : List UInt8) (n : Nat) : (fill l (n + 1))[l.length]? = some (.int .u8 0) := by
  unfold fill
  rw [List.getElem?_toArray, List.getElem?_append_right (by rw [List.length_map]; exact Nat.le_refl _), List.length_map, Nat.sub_self]
  rfl
theorem fill_next (l : List UInt8) (n : Nat) (b : UInt8) : (fill l (n + 1)).setIfInBounds l.length (.int .u8 (b.toNat : Int)) = fill (l ++ [b]) n := by
  unfold fill
  rw [List.map_append, List.replicate_succ]
  have hl : (l.map fun b => Value.int .u8 (b.toNat : Int)).length = l.length := List.length_map _
  generalize (l.map fun b => Value.int .u8 (b.toNat : Int)) = A at *
  rw [← hl]
  simp
theorem full_at (a b : List UInt8) (x : UInt8) : (fill (a ++ x :: b) 0)[a.length]? = some (.int .u8 (x.toNat : Int)) := by
  unfold fill
  rw [List.getElem?_toArray, List.replicate_zero, List.append_nil, List.getElem?_map, List.getElem?_append_right (Nat.le_refl _), Nat.sub_self]
  rfl
theorem full_set (a b : List UInt8) (x y : UInt8) : (fill (a ++ x :: b) 0).setIfInBounds a.length (.int .u8 (y.toNat : Int)) = fill (a ++ y :: b) 0 := by
  unfold fill
  have hl : (a.map fun b => Value.int .u8 (b.toNat : Int)).length = a.length := List.length_map _
  rw [List.map_append, List.map_append, List.map_cons, List.map_cons]
  generalize (a.map fun b => Value.int .u8 (b.toNat : Int)) = A at *
  rw [← hl]
  simp
/-- string(b). -/
theorem as_string (w : World) (g : Nat) (fr : Nat × Nat) (l : List UInt8) (cap : Nat) (hg : w.heap[g]? = some (.cells (fill l 0) 5 fr)) : Sem.run Try.prog (convert 32 9 (.slice (some ⟨g, 0, none⟩) l.length cap)) w = .ok (.string ⟨l.toArray⟩) w := by
  refine run_convert_bytes_back w 32 9 5 ⟨g, 0, none⟩ cap l Try.underlying32 Try.underlying5 Try.underlying9 ?_
  intro j hj
  have e : (⟨g, 0, none⟩ : Addr).add j = ⟨g, j, none⟩ := by cases j <;> simp [Addr.add]
  rw [e, Lib.cell_of_heap hg]
  unfold fill
  rw [List.getElem?_toArray, List.replicate_zero, List.append_nil, List.getElem?_map, List.getElem?_eq_getElem hj]
  rfl
end Lg
set_option maxHeartbeats 2000000 in
theorem ScanLarge_nat (o : Bool) (c : Nat) (w : World) (hc : c ≤ 255) :
    Calls Try.prog 7 #[.bool o, .int .u8 (c : Nat)] w fun e w' => e = .returned (.bool true) ∧ Below w.heap.size w w' := by
  obtain ⟨N, hN⟩ : ∃ N, N = if o then 65537 else 65536 := ⟨_, rfl⟩
  have hmk := Lg.mk_bytes N (by rw [hN]; split <;> decide)
  cases o with
  | true =>
    have hN2 : N = 65537 := hN
    have hNI : (65537 : Int) = (N : Int) := by omega
    have HN := hidden hN2
    have hcN : c < N := by omega
    obtain ⟨M, hM⟩ : ∃ M, N = c + (M + 1) := ⟨N - c - 1, by omega⟩
    have HM := hidden hM
    clear hN hN2 hM
    go_enter Try.func7, Try.ntmps7
    go_wp2_with fail
    refine (awake12_any w).mono ?_
    rintro e w1 ⟨rfl, h1⟩
    have HB1 := hidden h1
    clear h1
    go_wp2_with fail
    go_loopw [7] (fun i wr => ∃ k : Nat, k ≤ N ∧ i = .int .i64 (k : Nat) ∧ wr.heap[w1.heap.size]? = some (.cells (Lg.fill (List.replicate k 32) (N - k)) 5 (0, 0)) ∧ Below w1.heap.size w1 wr) (fun i _ => N - (intOf i).toNat)
    case atStart =>
      refine ⟨0, Nat.zero_le _, rfl, ?_, (Below.refl _ _).alloc (Nat.le_refl _) _⟩
      rw [heap_alloc_new]
      show _ = some (Obj.cells (Lg.fill [] N) 5 (0, 0))
      rw [Lg.fill_zero]
    case round =>
      obtain ⟨k, hk, rfl, hg, hb⟩ := hrel
      have HG := hidden hg
      have HB := hidden hb
      by_cases hlt : k < N
      · obtain ⟨d, hd⟩ : ∃ d, N - k = d + 1 := ⟨N - k - 1, by omega⟩
        have hlen : (List.replicate k (32 : UInt8)).length = k := List.length_replicate
        have c1 : wr.cell? ⟨w1.heap.size, k, none⟩ = some (.int .u8 0) := by
          have h1 := Lg.fill_at (List.replicate k 32) d
          rw [hlen] at h1
          rw [Lib.cell_of_heap hg, hd]
          exact h1
        have f1 : wr.frozen? ⟨w1.heap.size, k, none⟩ = false := Lib.frozen_of_heap hg k
        have hn := Lg.fill_next (List.replicate k 32) d 32
        rw [hlen, show List.replicate k (32 : UInt8) ++ [32] = List.replicate (k + 1) 32 from List.replicate_succ'.symm] at hn
        have HNX := hidden hn
        have HD := hidden hd
        have hlt2 : decide ((k : Int) < (N : Int)) = true := decide_eq_true (by omega)
        clear hg hb hn hd hlen
        go_wp2_with fail
        refine ⟨⟨k + 1, by omega, by go_num, ?_, HB.out.setCell (Nat.le_refl _) _⟩, by simp [intOf]; omega⟩
        rw [sk_same HG.out, HD.out, show N - (k + 1) = d by have := HD.out; omega]
        exact congrArg (fun a => some (Obj.cells a 5 (0, 0))) HNX.out
      · obtain rfl : k = N := by omega
        have hlt2 : decide ((k : Int) < (k : Int)) = false := decide_eq_false (by omega)
        have hspl : List.replicate k (32 : UInt8) = List.replicate c 32 ++ 32 :: List.replicate M 32 := by
          rw [HM.out, ← List.replicate_append_replicate]
          rfl
        have hclen : (List.replicate c (32 : UInt8)).length = c := List.length_replicate
        rw [Nat.sub_self, hspl] at hg
        have c1 : wr.cell? ⟨w1.heap.size, c, none⟩ = some (.int .u8 32) := by
          have h1 := Lg.full_at (List.replicate c 32) (List.replicate M 32) 32
          rw [hclen] at h1
          rw [Lib.cell_of_heap hg]
          exact h1
        have f1 : wr.frozen? ⟨w1.heap.size, c, none⟩ = false := Lib.frozen_of_heap hg c
        have hst := Lg.full_set (List.replicate c 32) (List.replicate M 32) 32 55
        rw [hclen] at hst
        have hg2 : (wr.setCell ⟨w1.heap.size, c, none⟩ (.int .u8 55)).heap[w1.heap.size]? = some (.cells (Lg.fill (List.replicate c 32 ++ 55 :: List.replicate M 32) 0) 5 (0, 0)) := by
          rw [sk_same hg]
          exact congrArg (fun a => some (Obj.cells a 5 (0, 0))) hst
        have hl3 : (List.replicate c (32 : UInt8) ++ 55 :: List.replicate M 32).length = k := by
          rw [List.length_append, List.length_cons, List.length_replicate, List.length_replicate]
          exact HM.out.symm
        have hcv := Lg.as_string _ _ _ _ k hg2
        rw [hl3] at hcv
        have HV := hidden (fun w => sValidate_any ⟨(List.replicate c (32 : UInt8) ++ 55 :: List.replicate M 32).toArray⟩ 1 w (by show (List.replicate c (32 : UInt8) ++ 55 :: List.replicate M 32).length ≤ _; rw [hl3]; omega))
        have hVV : Js.ansV (List.replicate c (32 : UInt8) ++ 55 :: List.replicate M 32) 1 = 4 ∧ Js.ansP (List.replicate c (32 : UInt8) ++ 55 :: List.replicate M 32) 1 = 0 ∧ Js.ansE 1 = 0 := by
          rw [Js.ansV_in _ 1 (by decide) (by decide), Js.ansP_in _ 1 (by decide) (by decide), Js.val_long _ 1 (by rw [hl3, HN.out]; decide)]
          exact ⟨rfl, rfl, rfl⟩
        have HV2 : Hid (∀ w, Calls Try.prog 10 #[.string ⟨(List.replicate c (32 : UInt8) ++ 55 :: List.replicate M 32).toArray⟩, .int .i64 1] w fun e w' => e = .returned (.tuple #[.int .i64 4, .int .i64 0, .int .i64 0]) ∧ Below w.heap.size w w') := hidden (fun w => by
          have h := HV.out w
          have h2 : (ByteArray.mk (List.replicate c (32 : UInt8) ++ 55 :: List.replicate M 32).toArray).data.toList = List.replicate c (32 : UInt8) ++ 55 :: List.replicate M 32 := rfl
          rw [h2, hVV.1, hVV.2.1, hVV.2.2] at h
          exact h)
        generalize (⟨(List.replicate c (32 : UInt8) ++ 55 :: List.replicate M 32).toArray⟩ : ByteArray) = S at hcv HV2
        have HBW := hidden (HB1.out.trans ((hb.setCell (p := ⟨w1.heap.size, c, none⟩) (Nat.le_refl _) (.int .u8 55)).mono HB1.out.size))
        have hci : (c : Int) < (k : Int) := by omega
        clear hg hb HG HB hspl hclen hst hg2 hl3 HV hVV
        go_wp2_with fail
        refine (HV2.out _).mono ?_
        rintro e w3 ⟨rfl, h3⟩
        have HB3 := hidden (Js.bel_then HBW.out h3)
        clear h3
        go_wp2_with fail
        go_ret
        exact ⟨rfl, HB3.out⟩
  | false =>
    have hN2 : N = 65536 := hN
    have hNI : (65536 : Int) = (N : Int) := by omega
    have HN := hidden hN2
    have hcN : c < N := by omega
    obtain ⟨M, hM⟩ : ∃ M, N = c + (M + 1) := ⟨N - c - 1, by omega⟩
    have HM := hidden hM
    clear hN hN2 hM
    go_enter Try.func7, Try.ntmps7
    go_wp2_with fail
    refine (awake12_any w).mono ?_
    rintro e w1 ⟨rfl, h1⟩
    have HB1 := hidden h1
    clear h1
    go_wp2_with fail
    go_loopw [7] (fun i wr => ∃ k : Nat, k ≤ N ∧ i = .int .i64 (k : Nat) ∧ wr.heap[w1.heap.size]? = some (.cells (Lg.fill (List.replicate k 32) (N - k)) 5 (0, 0)) ∧ Below w1.heap.size w1 wr) (fun i _ => N - (intOf i).toNat)
    case atStart =>
      refine ⟨0, Nat.zero_le _, rfl, ?_, (Below.refl _ _).alloc (Nat.le_refl _) _⟩
      rw [heap_alloc_new]
      show _ = some (Obj.cells (Lg.fill [] N) 5 (0, 0))
      rw [Lg.fill_zero]
    case round =>
      obtain ⟨k, hk, rfl, hg, hb⟩ := hrel
      have HG := hidden hg
      have HB := hidden hb
      by_cases hlt : k < N
      · obtain ⟨d, hd⟩ : ∃ d, N - k = d + 1 := ⟨N - k - 1, by omega⟩
        have hlen : (List.replicate k (32 : UInt8)).length = k := List.length_replicate
        have c1 : wr.cell? ⟨w1.heap.size, k, none⟩ = some (.int .u8 0) := by
          have h1 := Lg.fill_at (List.replicate k 32) d
          rw [hlen] at h1
          rw [Lib.cell_of_heap hg, hd]
          exact h1
        have f1 : wr.frozen? ⟨w1.heap.size, k, none⟩ = false := Lib.frozen_of_heap hg k
        have hn := Lg.fill_next (List.replicate k 32) d 32
        rw [hlen, show List.replicate k (32 : UInt8) ++ [32] = List.replicate (k + 1) 32 from List.replicate_succ'.symm] at hn
        have HNX := hidden hn
        have HD := hidden hd
        have hlt2 : decide ((k : Int) < (N : Int)) = true := decide_eq_true (by omega)
        clear hg hb hn hd hlen
        go_wp2_with fail
        refine ⟨⟨k + 1, by omega, by go_num, ?_, HB.out.setCell (Nat.le_refl _) _⟩, by simp [intOf]; omega⟩
        rw [sk_same HG.out, HD.out, show N - (k + 1) = d by have := HD.out; omega]
        exact congrArg (fun a => some (Obj.cells a 5 (0, 0))) HNX.out
      · obtain rfl : k = N := by omega
        have hlt2 : decide ((k : Int) < (k : Int)) = false := decide_eq_false (by omega)
        have hspl : List.replicate k (32 : UInt8) = List.replicate c 32 ++ 32 :: List.replicate M 32 := by
          rw [HM.out, ← List.replicate_append_replicate]
          rfl
        have hclen : (List.replicate c (32 : UInt8)).length = c := List.length_replicate
        rw [Nat.sub_self, hspl] at hg
        have c1 : wr.cell? ⟨w1.heap.size, c, none⟩ = some (.int .u8 32) := by
          have h1 := Lg.full_at (List.replicate c 32) (List.replicate M 32) 32
          rw [hclen] at h1
          rw [Lib.cell_of_heap hg]
          exact h1
        have f1 : wr.frozen? ⟨w1.heap.size, c, none⟩ = false := Lib.frozen_of_heap hg c
        have hst := Lg.full_set (List.replicate c 32) (List.replicate M 32) 32 55
        rw [hclen] at hst
        have hg2 : (wr.setCell ⟨w1.heap.size, c, none⟩ (.int .u8 55)).heap[w1.heap.size]? = some (.cells (Lg.fill (List.replicate c 32 ++ 55 :: List.replicate M 32) 0) 5 (0, 0)) := by
          rw [sk_same hg]
          exact congrArg (fun a => some (Obj.cells a 5 (0, 0))) hst
        have hl3 : (List.replicate c (32 : UInt8) ++ 55 :: List.replicate M 32).length = k := by
          rw [List.length_append, List.length_cons, List.length_replicate, List.length_replicate]
          exact HM.out.symm
        have hcv := Lg.as_string _ _ _ _ k hg2
        rw [hl3] at hcv
        have HV := hidden (fun w => sValidate_any ⟨(List.replicate c (32 : UInt8) ++ 55 :: List.replicate M 32).toArray⟩ 1 w (by show (List.replicate c (32 : UInt8) ++ 55 :: List.replicate M 32).length ≤ _; rw [hl3]; omega))
        have hVV : Js.ansV (List.replicate c (32 : UInt8) ++ 55 :: List.replicate M 32) 1 = 1 ∧ Js.ansP (List.replicate c (32 : UInt8) ++ 55 :: List.replicate M 32) 1 = 0 ∧ Js.ansE 1 = 0 := by
          have ho := Js.large (List.replicate c 32) (List.replicate M 32) (fun x hx => by rw [List.eq_of_mem_replicate hx]; decide) (fun x hx => by rw [List.eq_of_mem_replicate hx]; decide)
          rw [Js.ansV_in _ 1 (by decide) (by decide), Js.ansP_in _ 1 (by decide) (by decide), Js.val_yes _ 1 0 (by rw [hl3, HN.out]; decide) ho (by decide)]
          exact ⟨rfl, rfl, rfl⟩
        have HV2 : Hid (∀ w, Calls Try.prog 10 #[.string ⟨(List.replicate c (32 : UInt8) ++ 55 :: List.replicate M 32).toArray⟩, .int .i64 1] w fun e w' => e = .returned (.tuple #[.int .i64 1, .int .i64 0, .int .i64 0]) ∧ Below w.heap.size w w') := hidden (fun w => by
          have h := HV.out w
          have h2 : (ByteArray.mk (List.replicate c (32 : UInt8) ++ 55 :: List.replicate M 32).toArray).data.toList = List.replicate c (32 : UInt8) ++ 55 :: List.replicate M 32 := rfl
          rw [h2, hVV.1, hVV.2.1, hVV.2.2] at h
          exact h)
        generalize (⟨(List.replicate c (32 : UInt8) ++ 55 :: List.replicate M 32).toArray⟩ : ByteArray) = S at hcv HV2
        have HBW := hidden (HB1.out.trans ((hb.setCell (p := ⟨w1.heap.size, c, none⟩) (Nat.le_refl _) (.int .u8 55)).mono HB1.out.size))
        have hci : (c : Int) < (k : Int) := by omega
        clear hg hb HG HB hspl hclen hst hg2 hl3 HV hVV
        go_wp2_with fail
        refine (HV2.out _).mono ?_
        rintro e w3 ⟨rfl, h3⟩
        have HB3 := hidden (Js.bel_then HBW.out h3)
        clear h3
        go_wp2_with fail
        go_ret
        exact ⟨rfl, HB3.out⟩
theorem ScanLarge_walk (o : Bool) (c : Int) (w : World) (h0 : 0 ≤ c) (h1 : c ≤ 255) :
    Calls Try.prog 7 #[.bool o, .int .u8 c] w fun e w' => e = .returned (.bool true) ∧ Below w.heap.size w w' := by
  obtain ⟨c, rfl⟩ := Int.eq_ofNat_of_zero_le h0
  exact ScanLarge_nat o c w (by omega)
end Go.Proofs.Ytkjkjnkpncgdnaa
