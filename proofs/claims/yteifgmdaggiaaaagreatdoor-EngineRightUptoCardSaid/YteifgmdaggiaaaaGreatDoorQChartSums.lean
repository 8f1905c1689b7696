/-
  chart.Sums by its contract: what the accounts of each currency have together.
-/
import Derived.Test.YteifgmdaggiaaaaGreatDoorQChart
namespace Go.Proofs.YteifgmdaggiaaaaGreatDoor
open Go Go.RowKit
set_option linter.unusedVariables false
/-- The sum of a currency's balances, as Go's int has it. -/
def gsum (c : Int) (zs : List Ac) : Int := IntKind.i64.wrap (psum c zs)
theorem gsum_nil (c : Int) : gsum c [] = 0 := by simp [gsum, psum, IntKind.wrap_i64]
theorem gsum_other {c : Int} {a : Ac} (zs : List Ac) (h : ¬ a.cur = c) : gsum c (zs ++ [a]) = gsum c zs := by simp [gsum, psum_append, psum, h]
theorem gsum_same {c : Int} {a : Ac} (zs : List Ac) (h : a.cur = c) : gsum c (zs ++ [a]) = wrap64 (gsum c zs + a.bal) := by
 simp only [gsum, psum_append, psum, h, if_true, Int.add_zero]
 simp only [wrap64, IntKind.wrap_i64]
 omega
theorem gsum_zero {c : Int} {zs : List Ac} (h : psum c zs = 0) : gsum c zs = 0 := by simp [gsum, h, IntKind.wrap_i64]
theorem heap_set3 (w : World) (g : Nat) (x y z x' y' z' : Value) (t : TypeId) (h : w.heap[g]? = some (.cells #[x, y, z] t (0, 0))) :
  (((w.setCell ⟨g, 0, none⟩ x').setCell ⟨g, 1, none⟩ y').setCell ⟨g, 2, none⟩ z').heap[g]? = some (.cells #[x', y', z'] t (0, 0)) := by
 simp [World.setCell, Array.getElem?_modify, h]
theorem take_next {zs : List Ac} {k : Nat} {a : Ac} (h : zs[k]? = some a) : zs.take (k + 1) = zs.take k ++ [a] := by
 obtain ⟨hk, rfl⟩ := List.getElem?_eq_some_iff.1 h
 exact List.take_succ_eq_append_getElem hk
set_option maxRecDepth 100000 in
set_option maxHeartbeats 4000000 in
theorem sums_any (A : Option Addr) (n cap : Nat) (zs : List Ac) (w : World) (hl : zs.length = n) (hr : RdA w A zs) (hn : n ≤ 9223372036854775807) :
  Calls Tryz.prog 17 #[.slice A n cap] w fun e w' => e = .returned (.agg #[.int .i64 (gsum 0 zs), .int .i64 (gsum 1 zs), .int .i64 (gsum 2 zs)]) ∧ Below w.heap.size w w' := by
 have HR := Lib.hid hr
 have HL := Lib.hid hl
 obtain ⟨S0, hS0⟩ : ∃ s, gsum 0 zs = s := ⟨_, rfl⟩
 obtain ⟨S1, hS1⟩ : ∃ s, gsum 1 zs = s := ⟨_, rfl⟩
 obtain ⟨S2, hS2⟩ : ∃ s, gsum 2 zs = s := ⟨_, rfl⟩
 rw [hS0, hS1, hS2]
 have HS0 := Lib.hid hS0
 have HS1 := Lib.hid hS1
 have HS2 := Lib.hid hS2
 clear hr hl hS0 hS1 hS2
 go_enter Tryz.func17, Tryz.ntmps17
 go_wp2
 have h0 : ((w.alloc (.cells #[.int .i64 0, .int .i64 0, .int .i64 0] 61)).alloc (.cells #[.int .i64 0, .int .i64 0, .int .i64 0] 61)).heap[w.heap.size]? = some (.cells #[.int .i64 0, .int .i64 0, .int .i64 0] 61 (0, 0)) := by rw [Below.heap_alloc _ _ _ (by simp)]; exact heap_alloc_new w _
 have h1 : ((w.alloc (.cells #[.int .i64 0, .int .i64 0, .int .i64 0] 61)).alloc (.cells #[.int .i64 0, .int .i64 0, .int .i64 0] 61)).heap[w.heap.size + 1]? = some (.cells #[.int .i64 0, .int .i64 0, .int .i64 0] 61 (0, 0)) := heap_alloc2_new _ _ _
 have hb : Below w.heap.size w ((w.alloc (.cells #[.int .i64 0, .int .i64 0, .int .i64 0] 61)).alloc (.cells #[.int .i64 0, .int .i64 0, .int .i64 0] 61)) := ((Below.refl _ _).alloc (Nat.le_refl _) _).alloc (by simp) _
 have H0 := Lib.hid h0
 have H1 := Lib.hid h1
 have HB := Lib.hid hb
 clear h0 h1 hb
 go_loopw [8] (fun i wr => ∃ k : Nat, k ≤ n ∧ i = .int .i64 (k : Int) ∧ wr.heap[w.heap.size]? = some (.cells #[.int .i64 0, .int .i64 0, .int .i64 0] 61 (0, 0)) ∧
   wr.heap[w.heap.size + 1]? = some (.cells #[.int .i64 (gsum 0 (zs.take k)), .int .i64 (gsum 1 (zs.take k)), .int .i64 (gsum 2 (zs.take k))] 61 (0, 0)) ∧ Below w.heap.size w wr) (fun i _ => n - (intOf i).toNat)
 case atStart => exact ⟨0, Nat.zero_le _, rfl, H0.out, by simp only [List.take_zero, gsum_nil]; exact H1.out, HB.out⟩
 case round =>
  obtain ⟨k, hk, rfl, h0, h1, hbel⟩ := hrel
  have H0 := Lib.hid h0
  have H1 := Lib.hid h1
  have HBEL := Lib.hid hbel
  have hsz := hbel.size
  have hlt1 : w.heap.size + 1 < wr.heap.size := (Array.getElem?_eq_some_iff.1 h1).1
  clear h0 h1 hbel
  by_cases hlt : k < n
  · obtain ⟨a, ha⟩ : ∃ a, zs[k]? = some a := ⟨_, List.getElem?_eq_getElem (by rw [HL.out]; exact hlt)⟩
    obtain ⟨ad, rfl, hat⟩ := (HR.out.below HBEL.out).at_ ha
    have hnext := take_next ha
    obtain ⟨c0, c1, c2⟩ := hat
    rw [add_next ad (k * 3) 1 (by omega)] at c1
    rw [add_next ad (k * 3) 2 (by omega)] at c2
    obtain ⟨c, b, l⟩ := a
    simp only at c0 c1 c2
    have HNEXT := Lib.hid hnext
    have HC := Lib.hid (fun W => isCur_any c W)
    clear ha hnext
    obtain ⟨s0, e0⟩ : ∃ s, gsum 0 (zs.take k) = s := ⟨_, rfl⟩
    obtain ⟨s1, e1⟩ : ∃ s, gsum 1 (zs.take k) = s := ⟨_, rfl⟩
    obtain ⟨s2, e2⟩ : ∃ s, gsum 2 (zs.take k) = s := ⟨_, rfl⟩
    rw [e0, e1, e2] at H1
    have E0 := Lib.hid e0
    have E1 := Lib.hid e1
    have E2 := Lib.hid e2
    clear e0 e1 e2
    have hcc : ∀ j (u : Value), (#[.int .i64 s0, .int .i64 s1, .int .i64 s2] : Array Value)[j]? = some u → wr.cell? ⟨w.heap.size + 1, j, none⟩ = some u := fun j u hu => by
     rw [cell_of_row wr (w.heap.size + 1) j _ _ (0, 0) H1.out]; exact hu
    have hff : ∀ j, wr.frozen? ⟨w.heap.size + 1, j, none⟩ = false := fun j => frozen_of_row wr (w.heap.size + 1) j _ _ H1.out
    by_cases hin : 0 ≤ c ∧ c < 3
    · rw [decide_eq_true hin] at HC
      have h3 : c = 0 ∨ c = 1 ∨ c = 2 := by omega
      clear hin
      rcases h3 with rfl | rfl | rfl
      · have d0 := hcc 0 _ rfl
        have f0 := hff 0
        clear hcc hff
        go_wp2_with (first | (go_at_call 44; refine (HC.out _).mono ?_; rintro e w1 ⟨rfl, rfl⟩))
        go_region
        go_wp2
        go_roundw
        case rel =>
         refine ⟨k + 1, by omega, by go_num, ?_, ?_, ((HBEL.out.setCell (by simp) _).alloc (by simp; omega) _).drew⟩
         · exact (Below.heap_alloc _ _ _ (by simp; omega)).trans ((Below.heap_setCell _ ⟨w.heap.size + 1, 0, none⟩ _ _ (by simp)).trans H0.out)
         · rw [HNEXT.out, gsum_same (c := 0) _ rfl, gsum_other _ (by dsimp only; omega), gsum_other _ (by dsimp only; omega), E0.out, E1.out, E2.out]
           exact (Below.heap_alloc _ _ _ (by simp; omega)).trans (heap_setCell_same _ (w.heap.size + 1) 0 _ _ _ H1.out)
        case measure => simp [intOf]; omega
      · have d0 := hcc 1 _ rfl
        have f0 := hff 1
        clear hcc hff
        go_wp2_with (first | (go_at_call 44; refine (HC.out _).mono ?_; rintro e w1 ⟨rfl, rfl⟩))
        go_region
        go_wp2
        go_roundw
        case rel =>
         refine ⟨k + 1, by omega, by go_num, ?_, ?_, ((HBEL.out.setCell (by simp) _).alloc (by simp; omega) _).drew⟩
         · exact (Below.heap_alloc _ _ _ (by simp; omega)).trans ((Below.heap_setCell _ ⟨w.heap.size + 1, 1, none⟩ _ _ (by simp)).trans H0.out)
         · rw [HNEXT.out, gsum_other _ (by dsimp only; omega), gsum_same (c := 1) _ rfl, gsum_other _ (by dsimp only; omega), E0.out, E1.out, E2.out]
           exact (Below.heap_alloc _ _ _ (by simp; omega)).trans (heap_setCell_same _ (w.heap.size + 1) 1 _ _ _ H1.out)
        case measure => simp [intOf]; omega
      · have d0 := hcc 2 _ rfl
        have f0 := hff 2
        clear hcc hff
        go_wp2_with (first | (go_at_call 44; refine (HC.out _).mono ?_; rintro e w1 ⟨rfl, rfl⟩))
        go_region
        go_wp2
        go_roundw
        case rel =>
         refine ⟨k + 1, by omega, by go_num, ?_, ?_, ((HBEL.out.setCell (by simp) _).alloc (by simp; omega) _).drew⟩
         · exact (Below.heap_alloc _ _ _ (by simp; omega)).trans ((Below.heap_setCell _ ⟨w.heap.size + 1, 2, none⟩ _ _ (by simp)).trans H0.out)
         · rw [HNEXT.out, gsum_other _ (by dsimp only; omega), gsum_other _ (by dsimp only; omega), gsum_same (c := 2) _ rfl, E0.out, E1.out, E2.out]
           exact (Below.heap_alloc _ _ _ (by simp; omega)).trans (heap_setCell_same _ (w.heap.size + 1) 2 _ _ _ H1.out)
        case measure => simp [intOf]; omega
    · rw [decide_eq_false hin] at HC
      clear hcc hff
      go_wp2_with (first | (go_at_call 44; refine (HC.out _).mono ?_; rintro e w1 ⟨rfl, rfl⟩))
      go_roundw
      case rel =>
       refine ⟨k + 1, by omega, by go_num, ?_, ?_, HBEL.out.alloc hsz _⟩
       · rw [Below.heap_alloc _ _ _ (by omega)]; exact H0.out
       · rw [Below.heap_alloc _ _ _ (by omega), HNEXT.out, gsum_other _ (by dsimp only; omega), gsum_other _ (by dsimp only; omega), gsum_other _ (by dsimp only; omega), E0.out, E1.out, E2.out]; exact H1.out
      case measure => simp [intOf]; omega
  · obtain rfl : k = n := by omega
    rw [List.take_of_length_le (by rw [HL.out]; omega)] at H1
    rw [HS0.out, HS1.out, HS2.out] at H1
    have hcc : ∀ j (u : Value), (#[.int .i64 S0, .int .i64 S1, .int .i64 S2] : Array Value)[j]? = some u → wr.cell? ⟨w.heap.size + 1, j, none⟩ = some u := fun j u hu => by
     rw [cell_of_row wr (w.heap.size + 1) j _ _ (0, 0) H1.out]; exact hu
    have g0 := hcc 0 _ rfl
    have g1 := hcc 1 _ rfl
    have g2 := hcc 2 _ rfl
    have hrr : ∀ j (u : Value), (#[.int .i64 0, .int .i64 0, .int .i64 0] : Array Value)[j]? = some u → wr.cell? ⟨w.heap.size, j, none⟩ = some u := fun j u hu => by
     rw [cell_of_row wr w.heap.size j _ _ (0, 0) H0.out]; exact hu
    have r0 := hrr 0 _ rfl
    have r1 := hrr 1 _ rfl
    have r2 := hrr 2 _ rfl
    have hff : ∀ j, wr.frozen? ⟨w.heap.size, j, none⟩ = false := fun j => frozen_of_row wr w.heap.size j _ _ H0.out
    clear hcc hrr
    go_wp2
    refine bodyPost_ret (results_cell_row (p := 2) (ty := 61) rfl _ _ w.heap.size _ _ (0, 0) _ rfl (heap_set3 _ _ _ _ _ _ _ _ _ H0.out) Tryz.underlying61 rfl (by kernel_rfl)) rfl ?_
    exact ⟨rfl, ((HBEL.out.setCell (by simp) _).setCell (by simp) _).setCell (by simp) _⟩
end Go.Proofs.YteifgmdaggiaaaaGreatDoor
