/-
  The statement CrcParts by its walk.
-/
import Derived.Test.YtkichofkepnpiaaCrcTurnedLaw
import Derived.Test.YtkichofkepnpiaaCutRun
import Derived.BigQuiet
import Derived.Deep.QuietTactic
import Derived.IntWalk
namespace Go.Proofs.Ytkichofkepnpiaa
open Go.RowKit
set_option linter.unusedVariables false

/-- More bytes behind those that came. -/
theorem csum_more {p s : List Nat} (hp : ∀ x ∈ p, x < 256) : 4294967295 - creg (4294967295 - csum p) s = csum (p ++ s) := by
  have h := creg_lt p (r := 4294967295) (by omega) hp
  have e : 4294967295 - csum p = creg 4294967295 p := by unfold csum; omega
  rw [e, csum, creg_append]
theorem csum_lt (p : List Nat) : csum p < 4294967296 := by unfold csum; omega
theorem take_more (xs : List Nat) (j k : Nat) : xs.take j ++ (xs.drop j).take k = xs.take (j + k) := by rw [List.take_add]
theorem ints_take (a : List Nat) (j : Nat) : (ints a).take j = ints (a.take j) := by simp [ints, List.map_take]

/-- A callee that only reads, in a region that draws its order. -/
theorem quiet_same {P : Program} {f : FuncId} {args : Array Value} {w : World} {n : Nat} {v : Value}
    (h : Calls P f args (w.drewN n) fun e w' => e = .returned v ∧ w.drewN n = w') : Calls P f args (w.drewN n) fun e w'' => e = .returned v ∧ ∃ m, w'' = w.drewN m :=
  h.mono fun _ _ ⟨he, hm⟩ => ⟨he, n, hm.symm⟩

theorem below_drewN {B : Nat} {a w : World} (h : Below B a w) (n : Nat) : Below B a (w.drewN n) := ⟨h.os, h.tape, h.output, h.size, h.block⟩

/-- The rest that is to come, in the world that there was at first. -/
def Rest (w : World) (len : Nat) (xs : List Nat) (v : Value) (j m : Nat) : Prop :=
  ∃ A c, v = .slice A m c ∧ j + m = len ∧ m ≤ c ∧ c ≤ 140737488351232 ∧ Rd .u8 w A m (ints (xs.drop j))

set_option maxRecDepth 100000 in
set_option maxHeartbeats 4000000 in
theorem crcParts_walk (w : World) (a : Option Addr) (len cap : Nat) (zs : List Int) (h : IsRow .u8 w a len cap zs) (hr : cap * 1 ≤ 140737488351232)
    (a2 : Option Addr) (len2 cap2 : Nat) (zs2 : List Int) (h2 : IsRow .u8 w a2 len2 cap2 zs2) (hr2 : cap2 * 1 ≤ 140737488351232) :
    Calls Try.prog 4 #[.slice a len cap, .slice a2 len2 cap2] w fun e w' => e = .returned (.bool true) ∧ Below w.heap.size w w' := by
  obtain ⟨xs, hrd, hxl, hw, hnc, _⟩ := row_bytes h
  obtain ⟨cs, hrd2, hxl2, hw2, hnc2, _⟩ := row_bytes h2
  have hl : len ≤ 140737488351232 := by omega
  have hl2 : len2 ≤ 140737488351232 := by omega
  have hcp : cap ≤ 140737488351232 := by omega
  have HR := Lib.hid hrd
  have HW := Lib.hid hw
  have HXL := Lib.hid hxl
  have HR2 := Lib.hid hrd2
  have HW2 := Lib.hid hw2
  have HXL2 := Lib.hid hxl2
  clear h hrd hw hxl h2 hrd2 hw2 hxl2 hr hr2
  go_enter Try.func4, Try.ntmps4
  go_wp2_with fail
  refine (awake_ok w).mono ?_
  rintro e w1 ⟨rfl, hb⟩
  have HB := Lib.hid hb
  have hz := hb.size
  obtain ⟨g, hg⟩ : ∃ g, g = w1.heap.size := ⟨_, rfl⟩
  have HG := Lib.hid hg
  have hgw : w.heap.size ≤ g := by omega
  clear hb hg
  go_wp2
  rw [← HG.out]
  go_loopw [6, 17] (fun r i wr => ∃ k j m : Nat, k ≤ len2 ∧ i = .int .i64 k ∧ Rest w len xs r j m ∧ wr.cell? ⟨g, 0, none⟩ = some (.int .u32 (csum (xs.take j) : Nat)) ∧ wr.frozen? ⟨g, 0, none⟩ = false ∧ Below w.heap.size w wr) (fun _ i _ => len2 - (intOf i).toNat)
  case atStart =>
    refine ⟨0, 0, len, Nat.zero_le _, rfl, ⟨a, cap, rfl, by omega, hnc, hcp, by rw [List.drop_zero]; exact HR.out⟩, ?_, ?_, HB.out.alloc hz _⟩
    · rw [HG.out]; simp [csum, creg_nil]
    · rw [HG.out]; simp
  case round =>
    obtain ⟨k, j, m, hk, rfl, ⟨A, c, rfl, hjm, hmc, hcc, hrest⟩, hcell, hfz, hbel⟩ := hrel
    have HREST := Lib.hid hrest
    have HBEL := Lib.hid hbel
    have hqt := csum_lt (xs.take j)
    obtain ⟨q, hq⟩ : ∃ q, q = csum (xs.take j) := ⟨_, rfl⟩
    rw [← hq] at hcell hqt
    have HQ := Lib.hid hq
    have HJM := Lib.hid hjm
    have HTW := Lib.hid (show ∀ x ∈ xs.take j, x < 256 from fun x hm => HW.out x (List.mem_of_mem_take hm))
    have HDW := Lib.hid (show ∀ x ∈ xs.drop j, x < 256 from fun x hm => HW.out x (List.mem_of_mem_drop hm))
    clear hrest hbel hq
    by_cases hlt : k < len2
    · obtain ⟨ad, rfl, hcell2⟩ := (HR2.out.below HBEL.out).at_ hlt
      rw [ints_getD] at hcell2
      have hx8 : cs.getD k 0 < 256 := by
        have hk' : k < cs.length := by rw [HXL2.out]; exact hlt
        have h1 : cs.getD k 0 = cs[k] := by simp [List.getD, hk']
        rw [h1]; exact HW2.out _ (List.getElem_mem hk')
      obtain ⟨x, hx⟩ : ∃ x, x = cs.getD k 0 := ⟨_, rfl⟩
      rw [← hx] at hcell2 hx8
      clear hx
      obtain ⟨f, hf1, hf2⟩ : ∃ f : Nat, (x : Int) % ((m : Int) + 1) = (f : Int) ∧ f ≤ m := by
        have p1 : x % (m + 1) < m + 1 := Nat.mod_lt _ (by omega)
        exact ⟨x % (m + 1), by simp, by omega⟩
      obtain ⟨m', hm'⟩ : ∃ m', m' = m - f := ⟨_, rfl⟩
      obtain ⟨A', hA'⟩ : ∃ A', A' = (if c = f then A else A.map (·.add f)) := ⟨_, rfl⟩
      obtain ⟨c', hc'⟩ : ∃ c', c' = c - f := ⟨_, rfl⟩
      have hs1 := fun W => run_front W A m c f (by omega)
      have hs2 := fun W => run_back W A m c f hf2
      rw [← hA', ← hm', ← hc'] at hs2
      have HA := Lib.hid hA'
      have HM := Lib.hid hm'
      have HC := Lib.hid hc'
      clear hA' hm' hc' hjm
      go_wp2_with fail
      refine (write_any g 0 q A f c ((xs.drop j).take f) wr hqt hcell hfz (by rw [← ints_take]; exact (HREST.out.below HBEL.out).front hf2) (fun x hm => HDW.out x (List.mem_of_mem_take hm)) (by omega)).mono ?_
      rintro e w2 ⟨rfl, hw2⟩
      have e1 : 4294967295 - creg (4294967295 - q) ((xs.drop j).take f) = csum (xs.take (j + f)) := by rw [HQ.out, csum_more HTW.out, take_more]
      obtain ⟨q', hq'⟩ : ∃ q', q' = csum (xs.take (j + f)) := ⟨_, rfl⟩
      rw [e1, ← hq'] at hw2
      have hcell' : w2.cell? ⟨g, 0, none⟩ = some (.int .u32 (q' : Int)) := by rw [hw2]; exact World.cell?_setCell_same _ _ _ hcell
      have hfz' : w2.frozen? ⟨g, 0, none⟩ = false := by rw [hw2, World.frozen?_setCell]; exact hfz
      have HB2 := Lib.hid (show Below w.heap.size w w2 by rw [hw2]; exact HBEL.out.setCell hgw _)
      have HQ' := Lib.hid hq'
      have hqq := eqT (show (q' : Int) = q' from rfl)
      obtain ⟨p, hp1, hp2, hp3⟩ : ∃ p : Nat, (len : Int) - (m' : Int) = (p : Int) ∧ p = j + f ∧ p ≤ len := by
        have h1 := HJM.out
        have h2 := HM.out
        exact ⟨j + f, by omega, rfl, by omega⟩
      have HP2 := Lib.hid hp2
      have hs3 := fun W => run_front W a len cap p (by omega)
      clear e1 hw2 hq' hcell hfz hp2 hcell2
      go_wp2_with fail
      go_quiet (first
        | (go_at_call 13; exact quiet_same (total_any g 0 (q' : Int) _ hcell'))
        | (go_at_call 11; exact quiet_same (said_any a p cap (xs.take p) _ (by rw [← ints_take]; exact ((HR.out.below HB2.out).drewN _).front hp3) (fun x hm => HW.out x (List.mem_of_mem_take hm)) (by omega))))
      rw [HP2.out, ← HQ'.out]
      go_wp2
      go_round
      case rel => exact ⟨k + 1, j + f, m', by omega, by go_num, ⟨A', c', rfl, by have h1 := HJM.out; have h2 := HM.out; omega, by have h2 := HM.out; have h3 := HC.out; omega, by have h3 := HC.out; omega, by
          have h4 := HREST.out.cut hf2 hmc
          rw [← HA.out, ← HM.out, ints_drop, List.drop_drop] at h4
          exact h4⟩, by rw [← HQ'.out]; exact hcell', hfz', below_drewN HB2.out _⟩
      case measure => simp [intOf]; omega
    · obtain rfl : k = len2 := by omega
      go_wp2_with fail
      refine (write_any g 0 q A m c (xs.drop j) wr hqt hcell hfz (HREST.out.below HBEL.out) HDW.out (by omega)).mono ?_
      rintro e w2 ⟨rfl, hw2⟩
      have e1 : 4294967295 - creg (4294967295 - q) (xs.drop j) = csum xs := by rw [HQ.out, csum_more HTW.out, List.take_append_drop]
      obtain ⟨q', hq'⟩ : ∃ q', q' = csum xs := ⟨_, rfl⟩
      rw [e1, ← hq'] at hw2
      have hcell' : w2.cell? ⟨g, 0, none⟩ = some (.int .u32 (q' : Int)) := by rw [hw2]; exact World.cell?_setCell_same _ _ _ hcell
      have HB2 := Lib.hid (show Below w.heap.size w w2 by rw [hw2]; exact HBEL.out.setCell hgw _)
      have HQ' := Lib.hid hq'
      have hqq := eqT (show (q' : Int) = q' from rfl)
      clear e1 hw2 hq' hcell hfz
      go_wp2_with fail
      refine (total_any g 0 (q' : Int) _ hcell').mono ?_
      rintro e w3 ⟨rfl, rfl⟩
      go_wp2_with fail
      refine (said_any a len cap xs _ (HR.out.below HB2.out) HW.out (by omega)).mono ?_
      rintro e w3 ⟨rfl, rfl⟩
      rw [← HQ'.out]
      go_wp2
      go_ret
      exact ⟨rfl, HB2.out⟩
end Go.Proofs.Ytkichofkepnpiaa
