/-
  The statement MoneyRates by its walk: of every two uint8 it returns true.
-/
import Derived.Test.YtbdjcmjjicpcaaaDoorRates
import Derived.OpenShut
namespace Go.Proofs.YtbdjcmjjicpcaaaDoor
open Go.RowKit

set_option maxHeartbeats 8000000 in
theorem moneyRates_walk (w : World) (i : Int) (wi : (Lit.int .u8 i).wf = true) (k : Int) (wk : (Lit.int .u8 k).wf = true) (hh : HasErr w) :
    Calls Tryd.prog 7 #[.int .u8 i, .int .u8 k] w fun e w' => e = .returned (.bool true) ∧ Below w.heap.size w w' := by
  obtain ⟨hi, hi2⟩ := bounds_u8 wi
  obtain ⟨hk, hk2⟩ := bounds_u8 wk
  clear wi wk
  go_enter Tryd.func7, Tryd.ntmps7
  go_wp2_with fail
  refine (awake_ok _ hh).mono ?_
  rintro e w1 ⟨rfl, hb⟩
  have hz := hb.size
  go_wp2
  have h3 : i.tmod 3 = i % 3 := Int.tmod_eq_emod_of_nonneg hi
  have h4 : k.tmod 3 = k % 3 := Int.tmod_eq_emod_of_nonneg hk
  have h9 : (i % 3 = 0 ∨ i % 3 = 1 ∨ i % 3 = 2) ∧ (k % 3 = 0 ∨ k % 3 = 1 ∨ k % 3 = 2) := by omega
  rcases h9 with ⟨hx | hx | hx, hy | hy | hy⟩
  · have hi1 := ixr0
    have hi2 := ixr00
    go_region_held3 (fun w' => w'.cell? ⟨w1.heap.size, 0, none⟩ = some (.int .i64 1) ∧ w'.cell? ⟨w1.heap.size, 1, none⟩ = some (.int .i64 1)) (go_keep)
      (first | (go_at_call 17; refine (rates_ret _).mono ?_; rintro e w' ⟨rfl, rfl⟩))
    all_goals go_wp2
    all_goals go_ret
    all_goals exact ⟨rfl, by (repeat (first | exact hb | refine below_drewN ?_ _ | refine Below.drew ?_ | refine Below.alloc ?_ (by first | omega | (simp; omega)) _))⟩
  · have hi1 := ixr0
    have hi2 := ixr01
    go_region_held3 (fun w' => w'.cell? ⟨w1.heap.size, 2, none⟩ = some (.int .i64 9) ∧ w'.cell? ⟨w1.heap.size, 3, none⟩ = some (.int .i64 10)) (go_keep)
      (first | (go_at_call 17; refine (rates_ret _).mono ?_; rintro e w' ⟨rfl, rfl⟩))
    all_goals go_wp2
    all_goals go_ret
    all_goals exact ⟨rfl, by (repeat (first | exact hb | refine below_drewN ?_ _ | refine Below.drew ?_ | refine Below.alloc ?_ (by first | omega | (simp; omega)) _))⟩
  · have hi1 := ixr0
    have hi2 := ixr02
    go_region_held3 (fun w' => w'.cell? ⟨w1.heap.size, 4, none⟩ = some (.int .i64 150) ∧ w'.cell? ⟨w1.heap.size, 5, none⟩ = some (.int .i64 1)) (go_keep)
      (first | (go_at_call 17; refine (rates_ret _).mono ?_; rintro e w' ⟨rfl, rfl⟩))
    all_goals go_wp2
    all_goals go_ret
    all_goals exact ⟨rfl, by (repeat (first | exact hb | refine below_drewN ?_ _ | refine Below.drew ?_ | refine Below.alloc ?_ (by first | omega | (simp; omega)) _))⟩
  · have hi1 := ixr1
    have hi2 := ixr10
    go_region_held3 (fun w' => w'.cell? ⟨w1.heap.size, 6, none⟩ = some (.int .i64 11) ∧ w'.cell? ⟨w1.heap.size, 7, none⟩ = some (.int .i64 10)) (go_keep)
      (first | (go_at_call 17; refine (rates_ret _).mono ?_; rintro e w' ⟨rfl, rfl⟩))
    all_goals go_wp2
    all_goals go_ret
    all_goals exact ⟨rfl, by (repeat (first | exact hb | refine below_drewN ?_ _ | refine Below.drew ?_ | refine Below.alloc ?_ (by first | omega | (simp; omega)) _))⟩
  · have hi1 := ixr1
    have hi2 := ixr11
    go_region_held3 (fun w' => w'.cell? ⟨w1.heap.size, 8, none⟩ = some (.int .i64 1) ∧ w'.cell? ⟨w1.heap.size, 9, none⟩ = some (.int .i64 1)) (go_keep)
      (first | (go_at_call 17; refine (rates_ret _).mono ?_; rintro e w' ⟨rfl, rfl⟩))
    all_goals go_wp2
    all_goals go_ret
    all_goals exact ⟨rfl, by (repeat (first | exact hb | refine below_drewN ?_ _ | refine Below.drew ?_ | refine Below.alloc ?_ (by first | omega | (simp; omega)) _))⟩
  · have hi1 := ixr1
    have hi2 := ixr12
    go_region_held3 (fun w' => w'.cell? ⟨w1.heap.size, 10, none⟩ = some (.int .i64 160) ∧ w'.cell? ⟨w1.heap.size, 11, none⟩ = some (.int .i64 1)) (go_keep)
      (first | (go_at_call 17; refine (rates_ret _).mono ?_; rintro e w' ⟨rfl, rfl⟩))
    all_goals go_wp2
    all_goals go_ret
    all_goals exact ⟨rfl, by (repeat (first | exact hb | refine below_drewN ?_ _ | refine Below.drew ?_ | refine Below.alloc ?_ (by first | omega | (simp; omega)) _))⟩
  · have hi1 := ixr2
    have hi2 := ixr20
    go_region_held3 (fun w' => w'.cell? ⟨w1.heap.size, 12, none⟩ = some (.int .i64 1) ∧ w'.cell? ⟨w1.heap.size, 13, none⟩ = some (.int .i64 151)) (go_keep)
      (first | (go_at_call 17; refine (rates_ret _).mono ?_; rintro e w' ⟨rfl, rfl⟩))
    all_goals go_wp2
    all_goals go_ret
    all_goals exact ⟨rfl, by (repeat (first | exact hb | refine below_drewN ?_ _ | refine Below.drew ?_ | refine Below.alloc ?_ (by first | omega | (simp; omega)) _))⟩
  · have hi1 := ixr2
    have hi2 := ixr21
    go_region_held3 (fun w' => w'.cell? ⟨w1.heap.size, 14, none⟩ = some (.int .i64 1) ∧ w'.cell? ⟨w1.heap.size, 15, none⟩ = some (.int .i64 161)) (go_keep)
      (first | (go_at_call 17; refine (rates_ret _).mono ?_; rintro e w' ⟨rfl, rfl⟩))
    all_goals go_wp2
    all_goals go_ret
    all_goals exact ⟨rfl, by (repeat (first | exact hb | refine below_drewN ?_ _ | refine Below.drew ?_ | refine Below.alloc ?_ (by first | omega | (simp; omega)) _))⟩
  · have hi1 := ixr2
    have hi2 := ixr22
    go_region_held3 (fun w' => w'.cell? ⟨w1.heap.size, 16, none⟩ = some (.int .i64 1) ∧ w'.cell? ⟨w1.heap.size, 17, none⟩ = some (.int .i64 1)) (go_keep)
      (first | (go_at_call 17; refine (rates_ret _).mono ?_; rintro e w' ⟨rfl, rfl⟩))
    all_goals go_wp2
    all_goals go_ret
    all_goals exact ⟨rfl, by (repeat (first | exact hb | refine below_drewN ?_ _ | refine Below.drew ?_ | refine Below.alloc ?_ (by first | omega | (simp; omega)) _))⟩
end Go.Proofs.YtbdjcmjjicpcaaaDoor
