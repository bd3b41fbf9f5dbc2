/-
  The contract of laceworkref14's Row: of every string of at most 900 bytes the balanced row behind the sequence; nothing that was there is changed.
  What Load hands back.
-/
import Derived.Test.YtoipliflphbeiaaGreatDoorC17
import Derived.Test.YtoipliflphbeiaaGreatDoorSmTells
import Derived.Test.YtoipliflphbeiaaGreatDoorJBtRefB
import Derived.Test.YtoipliflphbeiaaGreatDoorJPn
namespace Go.Proofs.YtoipliflphbeiaaGreatDoor
open Go.RowKit
namespace Sm
def RowPost (t : List UInt8) (e : Ending) : Prop := ∃ v q b, e = .returned (.tuple #[v, .string q, .bool b]) ∧ ((b = true ∧ Cut t ∧ Row (rowT t) ∧ q.data.toList = seqT t) ∨ (b = false ∧ ¬ (Cut t ∧ Row (rowT t))))
theorem RowPost.no {t : List UInt8} {e : Ending} {v : Value} {q : ByteArray} (h : ¬ (Cut t ∧ Row (rowT t))) (he : e = .returned (.tuple #[v, .string q, .bool false])) : RowPost t e := ⟨v, q, false, he, .inr ⟨rfl, h⟩⟩
theorem RowPost.yes {t : List UInt8} {e : Ending} {v : Value} {q : ByteArray} (h : Cut t) (hr : Row (rowT t)) (hq : q.data.toList = seqT t) (he : e = .returned (.tuple #[v, .string q, .bool true])) : RowPost t e := ⟨v, q, true, he, .inl ⟨rfl, h, hr, hq⟩⟩
theorem ext_data (s : ByteArray) (i j : Nat) : (s.extract i j).data.toList = (s.data.toList.drop i).take (j - i) := by
  rw [ByteArray.data_extract, Array.toList_extract]
theorem nB_le (s : ByteArray) : nB s.data.toList = Bt.le8 s 0 := by
  unfold nB Bt.le8
  rw [List.drop_zero]
end Sm
set_option maxHeartbeats 2000000 in
theorem rRow14_any (t : ByteArray) (w : World) (ht : t.size ≤ 900) :
    Calls Tryz.prog 13 #[.string t] w fun e w' => Sm.RowPost t.data.toList e ∧ Below w.heap.size w w' := by
  have hlen : t.data.toList.length = t.size := rfl
  by_cases h8 : t.size < 8
  · have hno : Hid (¬ (Sm.Cut t.data.toList ∧ Sm.Row (Sm.rowT t.data.toList))) := hidden (fun h => by have := h.1.1; omega)
    have hlt : decide ((t.size : Int) < 8) = true := decide_eq_true (by omega)
    clear hlen
    go_enter Tryz.func13, Tryz.ntmps13
    go_wp2_with fail
    go_ret3
    exact ⟨Sm.RowPost.no hno.out rfl, Below.refl _ _⟩
  · have hlt : decide ((t.size : Int) < 8) = false := decide_eq_false (by omega)
    have HBIG : Hid (t.size - 8 < Bt.le8 t 0 → ¬ (Sm.Cut t.data.toList ∧ Sm.Row (Sm.rowT t.data.toList))) := hidden (fun h g => by
      have := g.1.2
      rw [Sm.nB_le] at this
      omega)
    have HCUT : Hid (Bt.le8 t 0 ≤ t.size - 8 → Sm.Cut t.data.toList) := hidden (fun h => ⟨by omega, by rw [Sm.nB_le]; exact h⟩)
    have HROW : Hid (∀ a, a = 8 + Bt.le8 t 0 → (t.extract a t.size).data.toList = Sm.rowT t.data.toList ∧ (t.extract 8 a).data.toList = Sm.seqT t.data.toList) := hidden (fun a ha => by
      subst ha
      refine ⟨?_, ?_⟩
      · rw [Sm.ext_data, List.take_of_length_le (by rw [List.length_drop]; exact Nat.le_refl _)]
        unfold Sm.rowT
        rw [Sm.nB_le]
      · rw [Sm.ext_data, Nat.add_sub_cancel_left]
        unfold Sm.seqT
        rw [Sm.nB_le])
    clear hlen
    have h8b : 8 ≤ t.size := by omega
    go_enter Tryz.func13, Tryz.ntmps13
    go_wp2_with fail
    go_loop [5, 6] (fun n i => (∃ p : Nat, p < 8 ∧ i = .int .i64 (p : Nat) ∧ n = .int .i64 ((Bt.topN t (7 - p) : Nat) : Int) ∧ Bt.topN t (7 - p) ≤ 240000) ∨ (i = .int .i64 (-1) ∧ n = .int .i64 ((Bt.le8 t 0 : Nat) : Int) ∧ Bt.le8 t 0 ≤ 240000)) (fun _ i => (intOf i + 1).toNat)
    case atStart => exact .inl ⟨7, by omega, rfl, by rw [Nat.sub_self, Bt.topN_zero t h8b]; rfl, by rw [Nat.sub_self, Bt.topN_zero t h8b]; omega⟩
    case round =>
      rcases hrel with ⟨p, hp, rfl, rfl, hb⟩ | ⟨rfl, rfl, hb⟩
      · have hle := hidden (Bt.topN_le t (7 - p) h8b (by omega))
        have hps : p < t.size := by omega
        have hsuc : Bt.topN t (8 - p) = Bt.topN t (7 - p) * 256 + t[p].toNat := by
          have h := Bt.topN_succ t (7 - p) h8b (by omega)
          rw [show 7 - p + 1 = 8 - p from by omega] at h
          rw [h]
          have e : 7 - (7 - p) = p := by omega
          simp only [e]
        have hby := t[p].toNat_lt
        obtain ⟨N, hN⟩ : ∃ N, N = Bt.topN t (7 - p) := ⟨_, rfl⟩
        rw [← hN] at hb hle hsuc ⊢
        by_cases hbig : t.size < N
        · have HB : Hid (¬ (Sm.Cut t.data.toList ∧ Sm.Row (Sm.rowT t.data.toList))) := hidden (HBIG.out (by have := hle.out; omega))
          have hbig2 : decide ((t.size : Int) < (N : Int)) = true := decide_eq_true (by omega)
          clear hN hle hsuc
          go_wp2_with fail
          go_ret3
          exact ⟨Sm.RowPost.no HB.out rfl, Below.refl _ _⟩
        · have hbig2 : decide ((t.size : Int) < (N : Int)) = false := decide_eq_false (by omega)
          have HS := hidden hsuc
          have hnb : Bt.topN t (8 - p) ≤ 240000 := by omega
          have HNB := hidden hnb
          clear hsuc hnb hN hle
          go_wp2_with fail
          go_round
          case rel =>
            by_cases h0 : p = 0
            · subst h0
              have h1 := HS.out
              have h2 := HNB.out
              rw [Nat.sub_zero, Bt.topN_eight] at h1 h2
              exact .inr ⟨rfl, by rw [h1]; simp, h2⟩
            · refine .inl ⟨p - 1, by omega, ?_, ?_, ?_⟩
              · have e : (p : Int) - 1 = ((p - 1 : Nat) : Int) := by omega
                rw [e]
              · rw [show 7 - (p - 1) = 8 - p from by omega, HS.out]
                simp
              · rw [show 7 - (p - 1) = 8 - p from by omega]
                exact HNB.out
          case measure => simp [intOf]
      · obtain ⟨n, hn⟩ : ∃ n, n = Bt.le8 t 0 := ⟨_, rfl⟩
        rw [← hn] at hb HBIG HCUT HROW
        rw [← hn]
        clear hn
        by_cases hbig : t.size - 8 < n
        · have HB : Hid (¬ (Sm.Cut t.data.toList ∧ Sm.Row (Sm.rowT t.data.toList))) := hidden (HBIG.out hbig)
          have hbig2 : decide ((t.size : Int) - 8 < (n : Int)) = true := decide_eq_true (by omega)
          clear hbig
          go_wp2_with fail
          go_ret3
          exact ⟨Sm.RowPost.no HB.out rfl, Below.refl _ _⟩
        · have hbig2 : decide ((t.size : Int) - 8 < (n : Int)) = false := decide_eq_false (by omega)
          have HC : Hid (Sm.Cut t.data.toList) := hidden (HCUT.out (by omega))
          obtain ⟨a, ha⟩ : ∃ a, a = 8 + n := ⟨_, rfl⟩
          obtain ⟨hr1, hr2⟩ := HROW.out a ha
          have ha1 : 8 + (n : Int) = (a : Int) := by omega
          have ha2 : a ≤ t.size := by omega
          have ha3 : 8 ≤ a := by omega
          have HR2 := hidden hr2
          have HOF := hidden (fun w => rOf_any (t.extract a t.size) w (by rw [ByteArray.size_extract]; omega))
          rw [hr1] at HOF
          clear hbig ha hr1 hr2 hlt h8 h8b HBIG HCUT HROW
          go_wp2_with fail
          refine (HOF.out _).mono ?_
          rintro e w1 ⟨hb1, v, h⟩
          rcases h with ⟨hn, rfl⟩ | ⟨m, X, hof, rfl, hbl⟩
          · have HB1 := hidden hb1
            have HNO : Hid (¬ (Sm.Cut t.data.toList ∧ Sm.Row (Sm.rowT t.data.toList))) := hidden (fun h => by
              obtain ⟨m, X, h1, _⟩ := h.2
              rw [hn] at h1
              cases h1)
            clear hb1 hn
            go_wp2_with fail
            go_quiet (fail)
            go_wp2_with fail
            go_ret3
            exact ⟨Sm.RowPost.no HNO.out rfl, below_drewN HB1.out _⟩
          · have HB1 := hidden hb1
            have hX := (Bt.ofB_some hof).2.1
            have hm := (Bt.ofB_some hof).1
            have HBAL := hidden (fun w' (h : Below w1.heap.size w1 w') => rBalanced_any (Bt.bitsTo X m) v w' ((hbl.view).below h (Nat.le_refl _)) (by rw [Bt.bitsTo_length]; exact hm))
            rw [Bt.num_bitsTo_of X m hX, Bt.bitsTo_length] at HBAL
            obtain ⟨o, ho⟩ : ∃ o, o = Pn.bal X m := ⟨_, rfl⟩
            rw [← ho] at HBAL
            have HP : Hid (∀ v, Sm.RowPost t.data.toList (.returned (.tuple #[v, .string (t.extract 8 a), .bool o]))) := hidden (fun v => by
              cases o with
              | true => exact Sm.RowPost.yes HC.out ⟨m, X, hof, ho.symm⟩ HR2.out rfl
              | false =>
                refine Sm.RowPost.no (fun h => ?_) rfl
                obtain ⟨m', X', h1, h2⟩ := h.2
                rw [hof] at h1
                cases h1
                rw [h2] at ho
                cases ho)
            clear hb1 hX hm hof hbl ho
            go_wp2_with fail
            go_quiet ((go_at_call 33; exact Calls.quiet_of_same (HBAL.out _ (below_drewN (Below.refl _ _) _))))
            go_wp2_with fail
            go_ret3
            exact ⟨HP.out _, below_drewN HB1.out _⟩
end Go.Proofs.YtoipliflphbeiaaGreatDoor
namespace Go.Proofs.YtoipliflphbeiaaGreatDoor
open Go.RowKit
/-- What Load hands back, of the record s and the bytes t beside it. -/
def SmLoaded (s t : ByteArray) (e : Ending) (w' : World) : Prop :=
  (Sm.er s.data.toList ≠ 0 ∧ e = .returned (.tuple #[.pointer none, .int .i64 (Sm.er s.data.toList)])) ∨
  (Sm.er s.data.toList = 0 ∧ ¬ Sm.Form t.data.toList ∧ e = .returned (.tuple #[.pointer none, .int .i64 3])) ∨
  (Sm.er s.data.toList = 0 ∧ Sm.Form t.data.toList ∧ t.data.toList ≠ Sm.ixB s.data.toList ∧ e = .returned (.tuple #[.pointer none, .int .i64 12])) ∨
  (Sm.er s.data.toList = 0 ∧ t.data.toList = Sm.ixB s.data.toList ∧ ∃ p, e = .returned (.tuple #[.pointer (some p), .int .i64 0]) ∧ SmIx w' p s)
end Go.Proofs.YtoipliflphbeiaaGreatDoor
