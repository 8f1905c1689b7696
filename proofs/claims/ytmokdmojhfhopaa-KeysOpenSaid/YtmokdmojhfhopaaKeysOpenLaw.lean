/-
  The statement KeysOpen by its walk.
-/
import Derived.Test.YtmokdmojhfhopaaKeyAwake
import Derived.Test.YtmokdmojhfhopaaKeyOpen
import Derived.Test.YtmokdmojhfhopaaKeyArg
import Derived.BigQuiet
import Derived.Deep.QuietTactic
namespace Go.Proofs.Ytmokdmojhfhopaa
open Go Go.RowKit
set_option linter.unusedVariables false

set_option maxRecDepth 100000 in
set_option maxHeartbeats 4000000 in
theorem keysOpen_walk (w : World) (A : Option Addr) (n cap : Nat) (hi : IsRecs known Kn.fits w A n cap) (hcz : cap * 80 ≤ 140737488351232) :
    Calls Try.prog 3 #[.slice A n cap] w fun e w' => e = .returned (.bool true) ∧ Below w.heap.size w w' := by
  obtain ⟨ks, hl, hr, _, hnc, hcm, _⟩ := recs_list hi
  have hn : n ≤ 17592186044416 := by omega
  have HR := Lib.hid hr
  have HL := Lib.hid hl
  clear hr hl hi hcm hnc
  go_enter Try.func3, Try.ntmps3
  go_wp2_with fail
  refine (kawake_ok _).mono ?_
  rintro _ w1 ⟨rfl, hb1⟩
  have HR1 := Lib.hid (HR.out.below hb1)
  have HB1 := Lib.hid hb1
  clear hb1
  go_wp2
  go_loopw [3, 12] (fun v i wr => ∃ k : Nat, k ≤ n ∧ i = .int .i64 (k : Int) ∧ Own 3 .i64 wr w1.heap.size v (openL (ks.take k)).length (openL (ks.take k)) ∧ Below w1.heap.size w1 wr) (fun _ i _ => n - (intOf i).toNat)
  case atStart => exact ⟨0, Nat.zero_le _, rfl, Own.nil, Below.refl _ _⟩
  case round =>
    obtain ⟨k, hk, rfl, hown, hbel⟩ := hrel
    have HOWN := Lib.hid hown
    have HBEL := Lib.hid hbel
    have hsz := hbel.size
    clear hown hbel
    by_cases hlt : k < n
    · obtain ⟨a, ha⟩ : ∃ a, ks[k]? = some a := ⟨_, List.getElem?_eq_getElem (by rw [HL.out]; exact hlt)⟩
      obtain ⟨ad, rfl, hat⟩ := (HR1.out.below HBEL.out).at_ ha
      obtain ⟨c0, c1, c2, c3, c4, c5, c6, c7, c8, c9⟩ := kn_cells hat
      have hnx : openL (ks.take (k + 1)) = openL (ks.take k) ++ (if a.told = true then [] else [a.rq.key]) := by rw [take_next ha, openL_snoc]
      have HNX := Lib.hid hnx
      have hol : (openL (ks.take k)).length ≤ k := Nat.le_trans (openL_len _) (by rw [List.length_take]; omega)
      clear hat ha hnx
      obtain ⟨⟨key', op, ra, rb, amt, legs, til⟩, er, id, told⟩ := a
      dsimp only at c0 c1 c2 c3 c4 c5 c6 c7 c8 c9 HNX
      obtain ⟨m, hm⟩ : ∃ m, (openL (ks.take k)).length = m := ⟨_, rfl⟩
      rw [hm] at HOWN hol
      cases told with
      | true =>
        rw [if_pos rfl, List.append_nil] at HNX
        go_wp2
        go_roundw
        case rel => exact ⟨k + 1, by omega, by go_num, by rw [HNX.out, hm]; exact HOWN.out.alloc _, HBEL.out.alloc hsz _⟩
        case measure => simp [intOf]; omega
      | false =>
        rw [if_neg (by simp)] at HNX
        have HM := Lib.hid hm
        clear hm
        go_wp2_with (at_builtin; refine wpList_append_ints _ rfl (.tmp 19) (.tmp 23) 24 rfl .i64 8 w1.heap.size 3 Try.underlying24 info_num _ m _ rfl ((HOWN.out.alloc _).alloc _) (some ⟨wr.heap.size + 1, 0, none⟩) 1 1 [key'] rfl (by first | exact Rd.one _ | (have h := Rd.one (k := .i64) (w := wr.alloc (.cells #[.int .i64 key', .int .i64 op, .int .i64 ra, .int .i64 rb, .int .i64 amt, .int .i64 legs, .int .i64 til, .int .i64 er, .int .i64 id, .bool false] 32)) (t := 3) key'; simpa using h)) (by omega) (by omega) (by simp; omega) ?_; intro v' w2 ho2 hg2)
        have HO2 := Lib.hid ho2
        have HB2 := Lib.hid (((HBEL.out.alloc hsz _).alloc (by simp; omega) _).grown hg2 (by simp; omega) HOWN.out.rowLt)
        clear ho2 hg2
        go_wp2
        go_roundw
        case rel => exact ⟨k + 1, by omega, by go_num, by rw [HNX.out, List.length_append, HM.out]; exact HO2.out, HB2.out⟩
        case measure => simp [intOf]; omega
    · obtain rfl : k = n := by omega
      rw [List.take_of_length_le (by rw [HL.out]; exact Nat.le_refl _)] at HOWN
      have HBW := Lib.hid (HB1.out.trans (HBEL.out.mono HB1.out.size))
      have HO := Lib.hid (kopen_any A k cap ks wr HL.out (HR1.out.below HBEL.out) hn)
      have hol : (openL ks).length ≤ k := Nat.le_trans (openL_len _) (by rw [HL.out]; exact Nat.le_refl _)
      obtain ⟨os, hos⟩ : ∃ os, openL ks = os := ⟨_, rfl⟩
      rw [hos] at HOWN HO hol
      obtain ⟨m, hm⟩ : ∃ m, os.length = m := ⟨_, rfl⟩
      rw [hm] at HOWN HO hol
      obtain ⟨A2, c2, hv2, _, _, hrd, _⟩ := HOWN.out.form
      subst hv2
      have HRD := Lib.hid hrd
      clear hrd hos hm HOWN
      go_wp2_with fail
      refine HO.out.mono ?_
      rintro _ w3 ⟨v3, rfl, ho3, hb3⟩
      obtain ⟨A3, c3, rfl, _, _, hrd3, _⟩ := ho3.form
      have HRD2 := Lib.hid (HRD.out.below hb3)
      have HRD3 := Lib.hid hrd3
      have HB3 := Lib.hid (HBW.out.trans (hb3.mono HBW.out.size))
      clear hrd3 ho3 hb3
      go_wp2
      go_loopw [35] (fun i wr => ∃ j : Nat, j ≤ m ∧ i = .int .i64 (j : Int) ∧ Below w3.heap.size w3 wr) (fun i _ => m - (intOf i).toNat)
      case atStart => exact ⟨0, Nat.zero_le _, rfl, Below.refl _ _⟩
      case round =>
        obtain ⟨j, hj, rfl, hbel⟩ := hrel
        by_cases hjm : j < m
        · obtain ⟨a2, rfl, d2⟩ := (HRD2.out.below hbel).at_ hjm
          obtain ⟨a3, rfl, d3⟩ := (HRD3.out.below hbel).at_ hjm
          obtain ⟨x, hx⟩ : ∃ x, os.getD j 0 = x := ⟨_, rfl⟩
          rw [hx] at d2 d3
          have HBEL := Lib.hid hbel
          clear hbel hx
          go_wp2
          go_quiet (fail)
          go_wp2
          go_roundw
          case rel => exact ⟨j + 1, by omega, by go_num, below_drewN HBEL.out _⟩
          case measure => simp [intOf]; omega
        · obtain rfl : j = m := by omega
          have HBEL := Lib.hid hbel
          clear hbel
          go_wp2
          go_ret
          exact ⟨rfl, HB3.out.trans (HBEL.out.mono HB3.out.size)⟩
end Go.Proofs.Ytmokdmojhfhopaa
