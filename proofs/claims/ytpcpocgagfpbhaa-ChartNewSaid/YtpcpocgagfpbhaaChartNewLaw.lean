/-
  The statement ChartNew by its walk.
-/
import Derived.Test.YtpcpocgagfpbhaaChartAwake
import Derived.Test.YtpcpocgagfpbhaaArgNat
namespace Go.Proofs.Ytpcpocgagfpbhaa
open Go Go.RowKit
set_option linter.unusedVariables false

set_option maxRecDepth 100000 in
set_option maxHeartbeats 2000000 in
theorem chartNew_walk (w : World) (n : Int) (wn : (Lit.int .u8 n).wf = true) :
    Calls Try.prog 6 #[.int .u8 n] w fun e w' => e = .returned (.bool true) ∧ Below w.heap.size w w' := by
  obtain ⟨m, rfl, hm⟩ := u8_nat wn
  obtain ⟨k, hk⟩ : ∃ k : Nat, (m : Int) % 9 = (k : Int) := ⟨m % 9, by omega⟩
  have hk9 : k < 9 := by omega
  obtain ⟨q, hq⟩ : ∃ q : Int, (k : Int) / 3 = q := ⟨_, rfl⟩
  obtain ⟨r, hr⟩ : ∃ r : Int, (k : Int) % 3 = r := ⟨_, rfl⟩
  have hqr : q * 3 + r = (k : Int) := by omega
  have HN := Lib.hid (fun W => number_some r q W (by omega) (by omega) (by omega) (by omega))
  rw [hqr] at HN
  clear wn hqr
  go_enter Try.func6, Try.ntmps6
  go_wp2_with fail
  refine (awake_ok w).mono ?_
  rintro e w1 ⟨rfl, hb1⟩
  go_wp2_with fail
  refine (new_any w1).mono ?_
  rintro e w2 ⟨v, rfl, ho, hb2⟩
  obtain ⟨g, cap, hv, hg1, hg2, hnc, hcm⟩ := ho.open_ (by decide)
  have hl : house.length = 9 := rfl
  rw [hl] at hv hnc
  subst hv
  have HR := Lib.hid (right_any (some ⟨g, 0, none⟩) 9 cap house w2 rfl ho.rd (by omega))
  rw [house_right] at HR
  have HB2 := Lib.hid (hb1.trans (hb2.mono hb1.size))
  have HO := Lib.hid ho
  clear ho hb1 hb2 hl hnc hcm
  go_wp2_with fail
  refine HR.out.mono ?_
  rintro e w3 ⟨rfl, hb3⟩
  obtain ⟨c0, c1, c2⟩ := (HO.out.below hb3).at_ (house_at k hk9)
  simp only [hq] at c0 c1 c2
  have HO1 := Lib.hid (fun W => of_house (some ⟨g, 0, none⟩) 9 cap (k : Int) W (by omega) (by omega) (by omega))
  have HO2 := Lib.hid (fun W => isClient_house (some ⟨g, 0, none⟩) 9 cap (k : Int) W (by omega) (by omega) (by omega))
  rw [hr] at HO1
  have HB3 := Lib.hid (HB2.out.trans (hb3.mono HB2.out.size))
  clear hb3
  go_wp2_with (first
    | (go_at_call 13; refine (HO1.out _).mono ?_; rintro e w4 ⟨rfl, rfl⟩)
    | (go_at_call 15; refine (HN.out _).mono ?_; rintro e w4 ⟨rfl, rfl⟩)
    | (go_at_call 14; refine (HO2.out _).mono ?_; rintro e w4 ⟨rfl, rfl⟩))
  go_ret
  exact ⟨rfl, HB3.out⟩
end Go.Proofs.Ytpcpocgagfpbhaa
