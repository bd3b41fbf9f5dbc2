/-
  The contracts of awake and of laceworkref09's Put and Step: for every number; nothing that was there is changed.
-/
import Derived.Laws.BytesArg
import Derived.Test.YtifkemcjificcaaUtPut
namespace Go.Proofs.Ytifkemcjificcaa
open Go.RowKit
theorem bytes_new (xs : List Int) (n : Nat) (cs : Array Value) (hn : xs.length = n) (hcs : cs = (xs.map (Value.int .u8)).toArray) (u : World) :
    Sem.run Try.prog (convert 47 9 (.slice (some ⟨u.heap.size, 0, none⟩) n n)) (u.alloc (.cells cs 5)) = .ok (.string (strOfNums xs)) (u.alloc (.cells cs 5)) := by
  subst hcs
  refine run_convert_bytes_arg _ 47 5 Try.underlying47 Try.underlying5 _ 0 n n xs hn ?_ 9 Try.underlying9
  intro i hi
  rw [Nat.zero_add, Lib.cell_of_heap (heap_alloc_new _ _), List.getElem?_toArray, List.getElem?_map, List.getElem?_eq_getElem (by omega), List.getD_eq_getElem?_getD, List.getElem?_eq_getElem (by omega)]
  rfl
theorem ret_nums {xs : List Int} {l : List UInt8} (ns : List Nat) (h1 : xs = ns.map (fun n : Nat => (n : Int))) (h2 : l = ns.map UInt8.ofNat) : Ending.returned (.string (strOfNums xs)) = .returned (.string ⟨l.toArray⟩) := by
  subst h1
  subst h2
  unfold strOfNums
  rw [List.map_map]
  rfl
set_option maxHeartbeats 4000000 in
set_option maxRecDepth 100000 in
theorem rPut_some (z : Int) (c : Nat) (w : World) (hz : z = (c : Int)) (hc : Ut.Sc c) :
    Calls Try.prog 31 #[.int .i64 z] w fun e w' => e = .returned (.string ⟨(Ut.enc c).toArray⟩) ∧ Below w.heap.size w w' := by
  have hc0 : 0 ≤ z := by omega
  have hc1 : z ≤ 1114111 := by have := hc.1; omega
  have b1 : ∀ (x : Int) (u : World), _ := fun x u => bytes_new [x] 1 #[.int .u8 x] rfl rfl u
  have b2 : ∀ (x y : Int) (u : World), _ := fun x y u => bytes_new [x, y] 2 #[.int .u8 x, .int .u8 y] rfl rfl u
  have b3 : ∀ (x y z : Int) (u : World), _ := fun x y z u => bytes_new [x, y, z] 3 #[.int .u8 x, .int .u8 y, .int .u8 z] rfl rfl u
  have b4 : ∀ (x y z t : Int) (u : World), _ := fun x y z t u => bytes_new [x, y, z, t] 4 #[.int .u8 x, .int .u8 y, .int .u8 z, .int .u8 t] rfl rfl u
  have HC := hidden hc
  have HZ := hidden hz
  clear hc hz
  by_cases h1 : z < 128
  · clear b2 b3 b4
    have h4 : ¬ 55296 ≤ z := by omega
    go_enter Try.func31, Try.ntmps31
    go_wp2_with fail
    go_ret
    refine ⟨?_, (Below.refl _ _).alloc (Nat.le_refl _) _⟩
    rw [Ut.enc1 c (by have := HZ.out; omega)]
    refine ret_nums [c] ?_ rfl
    rw [HZ.out]
    rfl
  · by_cases h2 : z < 2048
    · clear b1 b3 b4
      have h4 : ¬ 55296 ≤ z := by omega
      go_enter Try.func31, Try.ntmps31
      go_wp2_with fail
      go_ret
      refine ⟨?_, (Below.refl _ _).alloc (Nat.le_refl _) _⟩
      rw [Ut.enc2 c (by have := HZ.out; omega) (by have := HZ.out; omega)]
      refine ret_nums [192 + c / 64, 128 + c % 64] ?_ rfl
      rw [HZ.out]
      simp
    · by_cases h3 : z < 65536
      · clear b1 b2 b4
        by_cases h4 : 55296 ≤ z
        · have h6 : ¬ z ≤ 57343 := by have := HC.out.2; have := HZ.out; omega
          go_enter Try.func31, Try.ntmps31
          go_wp2_with fail
          go_ret
          refine ⟨?_, (Below.refl _ _).alloc (Nat.le_refl _) _⟩
          rw [Ut.enc3 c (by have := HZ.out; omega) (by have := HZ.out; omega) HC.out.2]
          refine ret_nums [224 + c / 4096, 128 + c / 64 % 64, 128 + c % 64] ?_ rfl
          rw [HZ.out]
          simp
        · go_enter Try.func31, Try.ntmps31
          go_wp2_with fail
          go_ret
          refine ⟨?_, (Below.refl _ _).alloc (Nat.le_refl _) _⟩
          rw [Ut.enc3 c (by have := HZ.out; omega) (by have := HZ.out; omega) HC.out.2]
          refine ret_nums [224 + c / 4096, 128 + c / 64 % 64, 128 + c % 64] ?_ rfl
          rw [HZ.out]
          simp
      · clear b1 b2 b3
        have h4 : 55296 ≤ z := by omega
        have h6 : ¬ z ≤ 57343 := by omega
        go_enter Try.func31, Try.ntmps31
        go_wp2_with fail
        go_ret
        refine ⟨?_, (Below.refl _ _).alloc (Nat.le_refl _) _⟩
        rw [Ut.enc4 c (by have := HZ.out; omega) HC.out.1]
        refine ret_nums [240 + c / 262144, 128 + c / 4096 % 64, 128 + c / 64 % 64, 128 + c % 64] ?_ rfl
        rw [HZ.out]
        simp
set_option maxHeartbeats 1000000 in
theorem rPut_none (c : Int) (w : World) (hc : Ut.widz c = 0) :
    Calls Try.prog 31 #[.int .i64 c] w fun e w' => e = .returned (.string ⟨#[]⟩) ∧ w' = w := by
  have h : c < 0 ∨ 55296 ≤ c ∧ c < 57344 ∨ 1114111 < c := by
    unfold Ut.widz at hc
    split at hc
    · assumption
    · have := Ut.wid_pos c.toNat
      omega
  clear hc
  by_cases h1 : c < 0
  · go_enter Try.func31, Try.ntmps31
    go_wp2_with fail
    go_ret
    exact ⟨rfl, rfl⟩
  · by_cases h2 : 1114111 < c
    · go_enter Try.func31, Try.ntmps31
      go_wp2_with fail
      go_ret
      exact ⟨rfl, rfl⟩
    · have h3 : 55296 ≤ c := by omega
      have h4 : c ≤ 57343 := by omega
      clear h
      go_enter Try.func31, Try.ntmps31
      go_wp2_with fail
      go_ret
      exact ⟨rfl, rfl⟩
theorem urPut_any (c : Int) (w : World) :
    Calls Try.prog 31 #[.int .i64 c] w fun e w' => e = .returned (.string ⟨(Ut.encz c).toArray⟩) ∧ Below w.heap.size w w' := by
  by_cases h : Ut.widz c = 0
  · rw [Ut.widz_none c h]
    refine (rPut_none c w h).mono ?_
    rintro e w' ⟨rfl, rfl⟩
    exact ⟨rfl, Below.refl _ _⟩
  · obtain ⟨d, rfl, hd⟩ := Ut.widz_some c h
    rw [Ut.encz_nat]
    exact rPut_some d d w rfl hd
end Go.Proofs.Ytifkemcjificcaa
