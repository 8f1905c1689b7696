/-
  The law's Payments by its contract: the payments of up to 300 Paids.
-/
import Derived.Test.YtdepidemciigkaaPaySlice
import Derived.Test.YtdepidemciigkaaPaidSlice
import Derived.LoopTactic
import Derived.Test.YtdepidemciigkaaShapeStep
import Derived.IntWalk
import Derived.WalkSpells
namespace Go.Proofs.Ytdepidemciigkaa
open Go Go.RowKit
set_option linter.unusedVariables false

theorem take_more {α : Type} {zs : List α} {k : Nat} {a : α} (h : zs[k]? = some a) : zs.take (k + 1) = zs.take k ++ [a] := by
  rw [List.take_add_one, h]; rfl
theorem pays_fit {zs : List Pd} (hf : ∀ (j : Nat) z, zs[j]? = some z → z.fits) (m : Nat) : ∀ (j : Nat) p, ((zs.take m).map Pd.pay)[j]? = some p → p.fits := by
  intro j p h
  rw [List.getElem?_map] at h
  obtain ⟨z, hz, rfl⟩ := Option.map_eq_some_iff.1 h
  rw [List.getElem?_take] at hz
  split at hz
  · exact z.pay_fits (hf j z hz)
  · cases hz
theorem py_flat (p : Py) : #[Value.int .i64 p.frm, .int .i64 p.dst, .int .i64 p.aut, .int .i64 p.cap, .int .i64 p.ref, .int .i64 p.chg, .int .i64 p.til, .int .i64 p.stg].toList = pays.cells p := rfl

set_option maxRecDepth 100000 in
set_option maxHeartbeats 1000000 in
theorem payments_any (A : Option Addr) (n cap : Nat) (zs : List Pd) (w : World) (hl : zs.length = n) (hr : RdS paids w A zs) (hf : ∀ (j : Nat) z, zs[j]? = some z → z.fits) (hnc : n ≤ cap) (hcm : cap ≤ maxLen) :
    Calls Try.prog 10 #[.slice A n cap] w fun e w' => ∃ v, e = .returned v ∧ OwnS pays w' w.heap.size v ((zs.take 300).map Pd.pay) ∧ Below w.heap.size w w' := by
  obtain ⟨m, hm⟩ : ∃ m, m = min n 300 := ⟨_, rfl⟩
  have hmx : maxLen = 9223372036854775807 := rfl
  have hmin := min2_ok (P := Try.prog) n 300 m (n : Int) 300 rfl rfl hm
  have hfr := fun W => run_frontPaid W A n cap m (by omega)
  have hm3 : m ≤ 300 := by omega
  have hmn : m ≤ n := by omega
  have HR := Lib.hid hr
  have HL := Lib.hid hl
  have HF := Lib.hid hf
  have HM := Lib.hid (show zs.take 300 = zs.take m by
    by_cases h : n ≤ 300
    · rw [List.take_of_length_le (by omega), List.take_of_length_le (by omega)]
    · rw [show m = 300 by omega])
  clear hr hl hf
  go_enter Try.func10, Try.ntmps10
  go_wp2
  go_loopw [3, 12] (fun v i wr => ∃ k : Nat, k ≤ m ∧ i = .int .i64 (k : Int) ∧ OwnS pays wr w.heap.size v ((zs.take k).map Pd.pay) ∧ Below w.heap.size w wr) (fun _ i _ => m - (intOf i).toNat)
  case atStart => exact ⟨0, Nat.zero_le _, rfl, OwnS.nil, Below.refl _ _⟩
  case round =>
    obtain ⟨k, hk, rfl, hown, hbel⟩ := hrel
    have HOWN := Lib.hid hown
    have HBEL := Lib.hid hbel
    have hsz := hbel.size
    clear hown hbel
    by_cases hlt : k < m
    · obtain ⟨z, hz⟩ : ∃ z, zs[k]? = some z := ⟨_, List.getElem?_eq_getElem (by rw [HL.out]; omega)⟩
      obtain ⟨ad, rfl, hat⟩ := (HR.out.below HBEL.out).at_ hz
      obtain ⟨c0, c1, c2, c3, c4, c5, c6, c7⟩ := paid_cells hat
      have HNX := Lib.hid (show (zs.take (k + 1)).map Pd.pay = (zs.take k).map Pd.pay ++ [z.pay] by rw [take_more hz, List.map_append]; rfl)
      have HA := Lib.hid (fun W => paid_any z (HF.out k z hz) W)
      have hlen : ((zs.take k).map Pd.pay).length = k := by rw [List.length_map, List.length_take, HL.out]; omega
      obtain ⟨q, hq⟩ : ∃ q, q = z.pay := ⟨_, rfl⟩
      rw [← hq] at HA HNX
      clear hat hz hq
      obtain ⟨zf, zt, za, zc, zr, zg, zu, zl⟩ := z
      unfold PyRes Py.val at HA
      unfold Pd.val at HA
      dsimp only at c0 c1 c2 c3 c4 c5 c6 c7 HA
      go_wp2_with fail
      refine (HA.out _).mono ?_
      rintro _ w1 ⟨rfl, hb1⟩
      have hs1 := hb1.size
      rw [alloc_size] at hs1
      have HO1 := Lib.hid (((HOWN.out.alloc _).below hb1).alloc (.cells #[.int .i64 q.frm, .int .i64 q.dst, .int .i64 q.aut, .int .i64 q.cap, .int .i64 q.ref, .int .i64 q.chg, .int .i64 q.til, .int .i64 q.stg] 33))
      have HB1 := Lib.hid (((HBEL.out.alloc hsz _).trans (hb1.mono (by rw [alloc_size]; omega))).alloc (by omega) (.cells #[.int .i64 q.frm, .int .i64 q.dst, .int .i64 q.aut, .int .i64 q.cap, .int .i64 q.ref, .int .i64 q.chg, .int .i64 q.til, .int .i64 q.stg] 33))
      clear c0 c1 c2 c3 c4 c5 c6 c7 hb1 HBEL
      have HLEN := Lib.hid hlen
      clear hlen
      go_wp2_with (at_builtin; refine wpList_append_rec pays 23 Try.underlying23 info_pay rfl _ rfl (.tmp 16) (.tmp 19) rfl w.heap.size _ ((zs.take k).map Pd.pay) rfl HO1.out ⟨w1.heap.size, 0, none⟩ 1 q rfl (AtS.new (py_flat q)) (by rw [HLEN.out]; omega) (by rw [HLEN.out]; omega) (by simp; omega) ?_; intro v' w2 ho2 hg2)
      have HO2 := Lib.hid ho2
      have HB2 := Lib.hid (HB1.out.grown hg2 (by simp; omega) HOWN.out.rowLt)
      clear ho2 hg2
      go_wp2
      go_roundw
      case rel => exact ⟨k + 1, by omega, by go_num, by rw [HNX.out]; exact HO2.out, HB2.out⟩
      case measure => simp [intOf]; omega
    · obtain rfl : k = m := by omega
      go_wp2
      go_ret
      exact ⟨_, rfl, by rw [HM.out]; exact HOWN.out, HBEL.out⟩
end Go.Proofs.Ytdepidemciigkaa
