/-
  The statement LedgerPost by its walk.
-/
import Derived.Test.YtbneohglblkmeaaDoorLedAwake
import Derived.Test.YtbneohglblkmeaaDoorLedLawPost
import Derived.Test.YtbneohglblkmeaaDoorEntries
import Derived.Test.YtbneohglblkmeaaDoorBookAny
import Derived.Test.YtbneohglblkmeaaDoorEntMove
import Derived.Test.YtbneohglblkmeaaDoorEntArg
namespace Go.Proofs.YtbneohglblkmeaaDoor
open Go Go.RowKit
set_option linter.unusedVariables false

set_option maxRecDepth 100000 in
set_option maxHeartbeats 8000000 in
theorem ledgerPost_walk (w : World) (v : Value) (hv : BookAt w v) (PA : Option Addr) (pl pc : Nat) (hp : IsPairs w PA pl pc) (sp : Bool) (RA : Option Addr) (rl rc : Nat) (hA : IsEnts w RA rl rc) (hh : HasErr w) :
    Calls Tryd.prog 3 #[v, .slice PA pl pc, .bool sp, .slice RA rl rc] w fun e w' => e = .returned (.bool true) ∧ Below w.heap.size w w' := by
  obtain ⟨CA, HA, LA, cl, cc, hl, hc, ll, lc, cs, hs, ls, rfl, _⟩ := hv.form
  obtain ⟨ps, hpl, hps, hpf, hplc, hpcm⟩ := pairs_list hp
  have hpl2 : pl ≤ 9223372036854775807 := by unfold maxLen at hpcm; omega
  obtain ⟨raw, hrl, hraw, _, hrc, hrcm, _⟩ := ents_list hA
  have hrl2 : rl ≤ 9223372036854775807 := by unfold maxLen at hrcm; omega
  obtain ⟨zs, kk, hbk, hk8, hbook⟩ := book_is hv
  obtain ⟨n, hn⟩ : ∃ n, zs.length = n := ⟨_, rfl⟩
  have hzl := hbk.len
  have hn17 : n ≤ 17 := by omega
  have hn9 : 9 ≤ n := by omega
  have HH := Lib.hid hh
  have HPL := Lib.hid hpl
  have HPS := Lib.hid hps
  have HPF := Lib.hid hpf
  have HRL := Lib.hid hrl
  have HRAW := Lib.hid hraw
  have HBK := Lib.hid hbook
  have HN := Lib.hid hn
  have HZ := Lib.hid hbk.house_
  have HCU := Lib.hid (Curs.of_book hbk)
  clear hv hp hpl hps hpf hplc hpcm hbk hbook hn hzl hk8 hh hA hrl hraw hrc hrcm
  go_enter Tryd.func3, Tryd.ntmps3
  go_wp2_with fail
  have hb0 := (Below.refl w.heap.size w).alloc (Nat.le_refl _) (.cells #[.slice CA cl cc, .slice HA hl hc, .slice LA ll lc] 25)
  refine (awake_ok _ (HH.out.below hb0)).mono ?_
  rintro e w1 ⟨rfl, hb1⟩
  have k0 : w1.cell? ⟨w.heap.size, 0, none⟩ = some (.slice CA cl cc) := by rw [hb1.cell (by simp)]; simp
  have k1 : w1.cell? ⟨w.heap.size, 1, none⟩ = some (.slice HA hl hc) := by rw [hb1.cell (by simp)]; simp
  have k2 : w1.cell? ⟨w.heap.size, 2, none⟩ = some (.slice LA ll lc) := by rw [hb1.cell (by simp)]; simp
  have hz1 : w.heap.size < w1.heap.size := by have := hb1.size; simp at this; omega
  have HB1 := Lib.hid (hb0.trans (hb1.mono (by simp)))
  clear hb0 hb1
  go_wp2_with fail
  refine (HBK.out _ HB1.out).mono ?_
  rintro e w2 ⟨v2, rfl, ho, hb2⟩
  have K0 := Lib.hid ((hb2.cell (p := ⟨w.heap.size, 0, none⟩) hz1).trans k0)
  have K1 := Lib.hid ((hb2.cell (p := ⟨w.heap.size, 1, none⟩) hz1).trans k1)
  have K2 := Lib.hid ((hb2.cell (p := ⟨w.heap.size, 2, none⟩) hz1).trans k2)
  have hz2 : w.heap.size < w2.heap.size := by have := hb2.size; omega
  obtain ⟨g, cap, hv2, hg1, hg2, hnc, hcm⟩ := ho.open_ (by rw [HN.out]; omega)
  rw [HN.out] at hv2
  subst hv2
  have HO := Lib.hid ho
  have HB2 := Lib.hid (HB1.out.trans (hb2.mono HB1.out.size))
  clear ho hb2 hg1 hg2 hnc hcm k0 k1 k2 hz1
  have HEN := Lib.hid (entries_any (some ⟨g, 0, none⟩) PA n pl cap pc zs ps w2 HN.out HO.out.rd HCU.out (by omega) (by omega) HPL.out (HPS.out.below HB2.out) HPF.out hpl2)
  go_wp2_with fail
  refine HEN.out.mono ?_
  rintro e w3 ⟨v3, rfl, ho3, hb3⟩
  have hel := entriesL_len zs ps
  obtain ⟨es, hes⟩ : ∃ es, entriesL zs ps = es := ⟨_, rfl⟩
  rw [hes] at ho3 hel
  obtain ⟨L, hL⟩ : ∃ L, es.length = L := ⟨_, rfl⟩
  rw [hL] at hel
  have HB3 := Lib.hid hb3
  have HLL := Lib.hid hL
  clear hes hL hb3 HEN
  by_cases hsp : sp = true ∧ 0 < L
  · obtain ⟨rfl, hL0⟩ := hsp
    obtain ⟨ge, cap3, hv3, hg3, hg4, _, _⟩ := ho3.open_ (by rw [HLL.out]; exact hL0)
    rw [HLL.out] at hv3
    subst hv3
    obtain ⟨⟨P, x⟩, he⟩ : ∃ e, es[0]? = some e := ⟨_, List.getElem?_eq_getElem (by rw [HLL.out]; exact hL0)⟩
    obtain ⟨_, d1⟩ := ho3.at_ he
    dsimp only at d1
    rw [show 0 * 2 + 1 = 1 from rfl] at d1
    have hf := ho3.unfrozen HLL.out.symm 1
    have hset : OwnE (w3.setCell ⟨ge, 1, none⟩ (.int .i64 (wrap64 (x + 1)))) w2.heap.size (.slice (some ⟨ge, 0, none⟩) L cap3) (es.set 0 ⟨P, wrap64 (x + 1)⟩) := (ho3.set HLL.out.symm he (wrap64 (x + 1))).2
    have HRZ := Lib.hid hset.rd
    have HBZ := Lib.hid (HB3.out.setCell (p := ⟨ge, 1, none⟩) hg3 (.int .i64 (wrap64 (x + 1))))
    obtain ⟨xs0, hxs0⟩ : ∃ xs, es.set 0 ⟨P, wrap64 (x + 1)⟩ = xs := ⟨_, rfl⟩
    have HLZ : Hid (xs0.length = L) := Lib.hid (by rw [← hxs0, List.length_set]; exact HLL.out)
    rw [hxs0] at HRZ
    obtain ⟨AZ, hAZ⟩ : ∃ A : Option Addr, (some ⟨ge, 0, none⟩ : Option Addr) = A := ⟨_, rfl⟩
    rw [hAZ] at HRZ
    have HAZ := Lib.hid hAZ
    clear hset he hxs0 ho3 hAZ
    go_wp2
    rw [HAZ.out]
    have hzs : (w3.setCell ⟨ge, 1, none⟩ (.int .i64 (wrap64 (x + 1)))).heap.size = w3.heap.size := by simp
    generalize hwz : w3.setCell ⟨ge, 1, none⟩ (.int .i64 (wrap64 (x + 1))) = wz at *
    clear hwz d1 hf HAZ
    obtain ⟨R, hR⟩ : ∃ R, wz.heap.size = R := ⟨_, rfl⟩
    obtain ⟨wy, hwy⟩ : ∃ wy, wz.alloc (.cells #[.slice AZ L cap3, .slice RA rl rc] 27) = wy := ⟨_, rfl⟩
    have hy0 : wy.cell? ⟨R, 0, none⟩ = some (.slice AZ L cap3) := by rw [← hwy, ← hR]; simp
    have hy1 : wy.cell? ⟨R, 1, none⟩ = some (.slice RA rl rc) := by rw [← hwy, ← hR]; simp
    have hyR : R < wy.heap.size := World.block_lt_of_cell? _ _ hy0
    have HBY : Hid (Below w2.heap.size w2 wy) := Lib.hid (by rw [← hwy]; exact HBZ.out.alloc HBZ.out.size _)
    have hsel : ∀ k : Nat, k < 2 → ∃ XA XL XC xs, wy.cell? ⟨R, k, none⟩ = some (.slice XA XL XC) ∧ List.length (α := En) xs = XL ∧ RdE wy XA xs ∧ XL ≤ 9223372036854775807 := fun k hk => by
      have h01 : k = 0 ∨ k = 1 := by omega
      rcases h01 with rfl | rfl
      · exact ⟨_, _, _, xs0, hy0, HLZ.out, by rw [← hwy]; exact HRZ.out.alloc _, by omega⟩
      · exact ⟨_, _, _, raw, hy1, HRL.out, HRAW.out.below (HB2.out.trans (HBY.out.mono HB2.out.size)), hrl2⟩
    have HSEL := Lib.hid hsel
    rw [hwy, ← hzs, hR]
    clear hsel hy0 hy1 hwy hR HRZ HLZ HBZ
    go_loopw [41] (fun i wr => ∃ k : Nat, k ≤ 2 ∧ i = .int .i64 (k : Int) ∧ Below wy.heap.size wy wr) (fun i _ => 2 - (intOf i).toNat)
    case atStart => exact ⟨0, Nat.zero_le _, rfl, Below.refl _ _⟩
    case round =>
      obtain ⟨k, hk, rfl, hbel⟩ := hrel
      have HBEL := Lib.hid hbel
      have HBW := Lib.hid (HBY.out.trans (hbel.mono HBY.out.size))
      by_cases hlt : k < 2
      · obtain ⟨XA, XL, XC, xs, hxc, hxl, hxr, hxm⟩ := HSEL.out k hlt
        have hxc2 : wr.cell? ⟨R, k, none⟩ = some (.slice XA XL XC) := (hbel.cell (p := ⟨R, k, none⟩) hyR).trans hxc
        have HXL := Lib.hid hxl
        have HXR := Lib.hid (hxr.below hbel)
        have HP := Lib.hid (post_any (some ⟨g, 0, none⟩) XA n XL cap XC zs xs wr HN.out (HO.out.below HBW.out).rd HXL.out HXR.out (by omega) hxm (by intro h; cases h))
        have HLP := Lib.hid (fun W (hb : Below w2.heap.size w2 W) (hb' : Below wr.heap.size wr W) => lawpost_any (some ⟨g, 0, none⟩) XA n XL cap XC zs xs W HN.out (HO.out.below hb).rd HXL.out (HXR.out.below hb') (by omega) (by omega) hxm)
        obtain ⟨SE, hSE⟩ : ∃ SE, postE zs xs = SE := ⟨_, rfl⟩
        obtain ⟨SL, hSL⟩ : ∃ SL, postL zs xs = SL := ⟨_, rfl⟩
        rw [hSE, hSL] at HP HLP
        clear hxc hxl hxr hbel hSE hSL
        go_wp2_with fail
        refine HP.out.mono ?_
        rintro e w5 ⟨v5, rfl, ho5, hb5⟩
        have HO5 := Lib.hid ho5
        have HB5 := Lib.hid (HBW.out.trans (hb5.mono HBW.out.size))
        have HQ := Lib.hid (HLP.out w5 HB5.out hb5)
        have HB55 := Lib.hid hb5
        clear hxc2 ho5 hb5 HP HLP
        obtain ⟨EV, hEV⟩ : ∃ V, errV SE = V := ⟨_, rfl⟩
        have HN5 := Lib.hid (fun W (hb : Below w2.heap.size w2 W) => number_of SE W (HH.out.below (HB2.out.trans (hb.mono HB2.out.size))))
        rw [hEV] at HN5 ⊢
        clear hEV
        go_wp2_with fail
        refine HQ.out.mono ?_
        rintro e w6 ⟨v6, rfl, ho6, hb6⟩
        have HB6 := Lib.hid (HB5.out.trans (hb6.mono HB5.out.size))
        have HB66 := Lib.hid (HB55.out.trans (hb6.mono HB55.out.size))
        obtain ⟨A5, cap5, rfl, hrd5, _⟩ := (HO5.out.below hb6).form
        obtain ⟨A6, cap6, rfl, hrd6, hc6, hcm6, _⟩ := ho6.form
        obtain ⟨m, hm⟩ : ∃ m, SL.length = m := ⟨_, rfl⟩
        rw [hm] at hc6 ⊢
        have hm1 : m ≤ 9223372036854775807 := by unfold maxLen at hcm6; omega
        have HSM := Lib.hid (same_any A5 A6 m m cap5 cap6 SL SL w6 hm hm hrd5 hrd6 hm1 hm1)
        rw [show decide (SL = SL) = true from decide_eq_true rfl] at HSM
        have hSS : (SE != SE) = false := by simp
        clear ho6 hb6 hrd5 hrd6 hc6 hcm6 hm HQ HO5 HB5 HB55
        go_wp2_with (first
          | (go_at_call 13; refine HSM.out.mono ?_; rintro e w7 ⟨rfl, hb7⟩; have HB7 := Lib.hid (HB66.out.trans (hb7.mono HB66.out.size)); have HB77 := Lib.hid (HB6.out.trans (hb7.mono HB6.out.size)); clear hb7 HSM)
          | (go_at_call 14; refine (HN5.out w7 HB77.out).mono ?_; rintro e w8 ⟨rfl, hb8⟩; have HB8 := Lib.hid (HB7.out.trans (hb8.mono HB7.out.size)); clear hb8 HN5))
        go_roundw
        case rel => first | exact ⟨k + 1, by omega, by go_num, HBEL.out.trans (HB8.out.mono HBEL.out.size)⟩ | ((repeat apply Exists.intro); exact ⟨⟨k + 1, by omega, by go_num, HBEL.out.trans (HB8.out.mono HBEL.out.size)⟩, rfl⟩)
        case measure => simp [intOf]; omega
      · obtain rfl : k = 2 := by omega
        have k0 := (HBW.out.cell (p := ⟨w.heap.size, 0, none⟩) hz2).trans K0.out
        have k1 := (HBW.out.cell (p := ⟨w.heap.size, 1, none⟩) hz2).trans K1.out
        have k2 := (HBW.out.cell (p := ⟨w.heap.size, 2, none⟩) hz2).trans K2.out
        have HQ := Lib.hid (HBK.out wr (HB2.out.trans (HBW.out.mono HB2.out.size)))
        clear hbel
        go_wp2_with fail
        refine HQ.out.mono ?_
        rintro e w5 ⟨v5, rfl, ho5, hb5⟩
        obtain ⟨A5, cap5, rfl, hrd5, _⟩ := ho5.form
        rw [HN.out]
        have HB5 := Lib.hid (HBW.out.trans (hb5.mono HBW.out.size))
        have HSM := Lib.hid (same_any (some ⟨g, 0, none⟩) A5 n n cap cap5 zs zs w5 HN.out HN.out (HO.out.below HB5.out).rd hrd5 (by omega) (by omega))
        rw [show decide (zs = zs) = true from decide_eq_true rfl] at HSM
        clear ho5 hb5 hrd5 HQ
        go_wp2_with (first | (go_at_call 13; refine HSM.out.mono ?_; rintro e w7 ⟨rfl, hb7⟩))
        go_ret
        exact ⟨rfl, HB2.out.trans ((HB5.out.trans (hb7.mono HB5.out.size)).mono HB2.out.size)⟩
  · obtain ⟨AZ, cap3, rfl, hrd3, _⟩ := ho3.form
    rw [HLL.out]
    have HRZ := Lib.hid hrd3
    have HLZ := Lib.hid HLL.out
    have HBZ := Lib.hid HB3.out
    clear ho3 hrd3
    have hsp2 : sp = false ∨ L = 0 := by
      cases sp with
      | false => exact .inl rfl
      | true => exact .inr (by
        refine Decidable.byContradiction fun h => hsp ⟨rfl, by omega⟩)
    rcases hsp2 with rfl | rfl
    · clear hsp
      go_wp2
      obtain ⟨R, hR⟩ : ∃ R, w3.heap.size = R := ⟨_, rfl⟩
      obtain ⟨wy, hwy⟩ : ∃ wy, w3.alloc (.cells #[.slice AZ L cap3, .slice RA rl rc] 27) = wy := ⟨_, rfl⟩
      have hy0 : wy.cell? ⟨R, 0, none⟩ = some (.slice AZ L cap3) := by rw [← hwy, ← hR]; simp
      have hy1 : wy.cell? ⟨R, 1, none⟩ = some (.slice RA rl rc) := by rw [← hwy, ← hR]; simp
      have hyR : R < wy.heap.size := World.block_lt_of_cell? _ _ hy0
      have HBY : Hid (Below w2.heap.size w2 wy) := Lib.hid (by rw [← hwy]; exact HBZ.out.alloc HBZ.out.size _)
      have hsel : ∀ k : Nat, k < 2 → ∃ XA XL XC xs, wy.cell? ⟨R, k, none⟩ = some (.slice XA XL XC) ∧ List.length (α := En) xs = XL ∧ RdE wy XA xs ∧ XL ≤ 9223372036854775807 := fun k hk => by
        have h01 : k = 0 ∨ k = 1 := by omega
        rcases h01 with rfl | rfl
        · exact ⟨_, _, _, es, hy0, HLZ.out, by rw [← hwy]; exact HRZ.out.alloc _, by omega⟩
        · exact ⟨_, _, _, raw, hy1, HRL.out, HRAW.out.below (HB2.out.trans (HBY.out.mono HB2.out.size)), hrl2⟩
      have HSEL := Lib.hid hsel
      rw [hwy, hR]
      clear hsel hy0 hy1 hwy hR HRZ HLZ HBZ
      go_loopw [41] (fun i wr => ∃ k : Nat, k ≤ 2 ∧ i = .int .i64 (k : Int) ∧ Below wy.heap.size wy wr) (fun i _ => 2 - (intOf i).toNat)
      case atStart => exact ⟨0, Nat.zero_le _, rfl, Below.refl _ _⟩
      case round =>
        obtain ⟨k, hk, rfl, hbel⟩ := hrel
        have HBEL := Lib.hid hbel
        have HBW := Lib.hid (HBY.out.trans (hbel.mono HBY.out.size))
        by_cases hlt : k < 2
        · obtain ⟨XA, XL, XC, xs, hxc, hxl, hxr, hxm⟩ := HSEL.out k hlt
          have hxc2 : wr.cell? ⟨R, k, none⟩ = some (.slice XA XL XC) := (hbel.cell (p := ⟨R, k, none⟩) hyR).trans hxc
          have HXL := Lib.hid hxl
          have HXR := Lib.hid (hxr.below hbel)
          have HP := Lib.hid (post_any (some ⟨g, 0, none⟩) XA n XL cap XC zs xs wr HN.out (HO.out.below HBW.out).rd HXL.out HXR.out (by omega) hxm (by intro h; cases h))
          have HLP := Lib.hid (fun W (hb : Below w2.heap.size w2 W) (hb' : Below wr.heap.size wr W) => lawpost_any (some ⟨g, 0, none⟩) XA n XL cap XC zs xs W HN.out (HO.out.below hb).rd HXL.out (HXR.out.below hb') (by omega) (by omega) hxm)
          obtain ⟨SE, hSE⟩ : ∃ SE, postE zs xs = SE := ⟨_, rfl⟩
          obtain ⟨SL, hSL⟩ : ∃ SL, postL zs xs = SL := ⟨_, rfl⟩
          rw [hSE, hSL] at HP HLP
          clear hxc hxl hxr hbel hSE hSL
          go_wp2_with fail
          refine HP.out.mono ?_
          rintro e w5 ⟨v5, rfl, ho5, hb5⟩
          have HO5 := Lib.hid ho5
          have HB5 := Lib.hid (HBW.out.trans (hb5.mono HBW.out.size))
          have HQ := Lib.hid (HLP.out w5 HB5.out hb5)
          have HB55 := Lib.hid hb5
          clear hxc2 ho5 hb5 HP HLP
          obtain ⟨EV, hEV⟩ : ∃ V, errV SE = V := ⟨_, rfl⟩
          have HN5 := Lib.hid (fun W (hb : Below w2.heap.size w2 W) => number_of SE W (HH.out.below (HB2.out.trans (hb.mono HB2.out.size))))
          rw [hEV] at HN5 ⊢
          clear hEV
          go_wp2_with fail
          refine HQ.out.mono ?_
          rintro e w6 ⟨v6, rfl, ho6, hb6⟩
          have HB6 := Lib.hid (HB5.out.trans (hb6.mono HB5.out.size))
          have HB66 := Lib.hid (HB55.out.trans (hb6.mono HB55.out.size))
          obtain ⟨A5, cap5, rfl, hrd5, _⟩ := (HO5.out.below hb6).form
          obtain ⟨A6, cap6, rfl, hrd6, hc6, hcm6, _⟩ := ho6.form
          obtain ⟨m, hm⟩ : ∃ m, SL.length = m := ⟨_, rfl⟩
          rw [hm] at hc6 ⊢
          have hm1 : m ≤ 9223372036854775807 := by unfold maxLen at hcm6; omega
          have HSM := Lib.hid (same_any A5 A6 m m cap5 cap6 SL SL w6 hm hm hrd5 hrd6 hm1 hm1)
          rw [show decide (SL = SL) = true from decide_eq_true rfl] at HSM
          have hSS : (SE != SE) = false := by simp
          clear ho6 hb6 hrd5 hrd6 hc6 hcm6 hm HQ HO5 HB5 HB55
          go_wp2_with (first
            | (go_at_call 13; refine HSM.out.mono ?_; rintro e w7 ⟨rfl, hb7⟩; have HB7 := Lib.hid (HB66.out.trans (hb7.mono HB66.out.size)); have HB77 := Lib.hid (HB6.out.trans (hb7.mono HB6.out.size)); clear hb7 HSM)
            | (go_at_call 14; refine (HN5.out w7 HB77.out).mono ?_; rintro e w8 ⟨rfl, hb8⟩; have HB8 := Lib.hid (HB7.out.trans (hb8.mono HB7.out.size)); clear hb8 HN5))
          go_roundw
          case rel => first | exact ⟨k + 1, by omega, by go_num, HBEL.out.trans (HB8.out.mono HBEL.out.size)⟩ | ((repeat apply Exists.intro); exact ⟨⟨k + 1, by omega, by go_num, HBEL.out.trans (HB8.out.mono HBEL.out.size)⟩, rfl⟩)
          case measure => simp [intOf]; omega
        · obtain rfl : k = 2 := by omega
          have k0 := (HBW.out.cell (p := ⟨w.heap.size, 0, none⟩) hz2).trans K0.out
          have k1 := (HBW.out.cell (p := ⟨w.heap.size, 1, none⟩) hz2).trans K1.out
          have k2 := (HBW.out.cell (p := ⟨w.heap.size, 2, none⟩) hz2).trans K2.out
          have HQ := Lib.hid (HBK.out wr (HB2.out.trans (HBW.out.mono HB2.out.size)))
          clear hbel
          go_wp2_with fail
          refine HQ.out.mono ?_
          rintro e w5 ⟨v5, rfl, ho5, hb5⟩
          obtain ⟨A5, cap5, rfl, hrd5, _⟩ := ho5.form
          rw [HN.out]
          have HB5 := Lib.hid (HBW.out.trans (hb5.mono HBW.out.size))
          have HSM := Lib.hid (same_any (some ⟨g, 0, none⟩) A5 n n cap cap5 zs zs w5 HN.out HN.out (HO.out.below HB5.out).rd hrd5 (by omega) (by omega))
          rw [show decide (zs = zs) = true from decide_eq_true rfl] at HSM
          clear ho5 hb5 hrd5 HQ
          go_wp2_with (first | (go_at_call 13; refine HSM.out.mono ?_; rintro e w7 ⟨rfl, hb7⟩))
          go_ret
          exact ⟨rfl, HB2.out.trans ((HB5.out.trans (hb7.mono HB5.out.size)).mono HB2.out.size)⟩
    · have hL0 : ((0 : Nat) : Int) = 0 := rfl
      cases sp with
      | false =>
        clear hsp
        go_wp2
        obtain ⟨R, hR⟩ : ∃ R, w3.heap.size = R := ⟨_, rfl⟩
        obtain ⟨wy, hwy⟩ : ∃ wy, w3.alloc (.cells #[.slice AZ 0 cap3, .slice RA rl rc] 27) = wy := ⟨_, rfl⟩
        have hy0 : wy.cell? ⟨R, 0, none⟩ = some (.slice AZ 0 cap3) := by rw [← hwy, ← hR]; simp
        have hy1 : wy.cell? ⟨R, 1, none⟩ = some (.slice RA rl rc) := by rw [← hwy, ← hR]; simp
        have hyR : R < wy.heap.size := World.block_lt_of_cell? _ _ hy0
        have HBY : Hid (Below w2.heap.size w2 wy) := Lib.hid (by rw [← hwy]; exact HBZ.out.alloc HBZ.out.size _)
        have hsel : ∀ k : Nat, k < 2 → ∃ XA XL XC xs, wy.cell? ⟨R, k, none⟩ = some (.slice XA XL XC) ∧ List.length (α := En) xs = XL ∧ RdE wy XA xs ∧ XL ≤ 9223372036854775807 := fun k hk => by
          have h01 : k = 0 ∨ k = 1 := by omega
          rcases h01 with rfl | rfl
          · exact ⟨_, _, _, es, hy0, HLZ.out, by rw [← hwy]; exact HRZ.out.alloc _, by omega⟩
          · exact ⟨_, _, _, raw, hy1, HRL.out, HRAW.out.below (HB2.out.trans (HBY.out.mono HB2.out.size)), hrl2⟩
        have HSEL := Lib.hid hsel
        rw [hwy, hR]
        clear hsel hy0 hy1 hwy hR HRZ HLZ HBZ
        go_loopw [41] (fun i wr => ∃ k : Nat, k ≤ 2 ∧ i = .int .i64 (k : Int) ∧ Below wy.heap.size wy wr) (fun i _ => 2 - (intOf i).toNat)
        case atStart => exact ⟨0, Nat.zero_le _, rfl, Below.refl _ _⟩
        case round =>
          obtain ⟨k, hk, rfl, hbel⟩ := hrel
          have HBEL := Lib.hid hbel
          have HBW := Lib.hid (HBY.out.trans (hbel.mono HBY.out.size))
          by_cases hlt : k < 2
          · obtain ⟨XA, XL, XC, xs, hxc, hxl, hxr, hxm⟩ := HSEL.out k hlt
            have hxc2 : wr.cell? ⟨R, k, none⟩ = some (.slice XA XL XC) := (hbel.cell (p := ⟨R, k, none⟩) hyR).trans hxc
            have HXL := Lib.hid hxl
            have HXR := Lib.hid (hxr.below hbel)
            have HP := Lib.hid (post_any (some ⟨g, 0, none⟩) XA n XL cap XC zs xs wr HN.out (HO.out.below HBW.out).rd HXL.out HXR.out (by omega) hxm (by intro h; cases h))
            have HLP := Lib.hid (fun W (hb : Below w2.heap.size w2 W) (hb' : Below wr.heap.size wr W) => lawpost_any (some ⟨g, 0, none⟩) XA n XL cap XC zs xs W HN.out (HO.out.below hb).rd HXL.out (HXR.out.below hb') (by omega) (by omega) hxm)
            obtain ⟨SE, hSE⟩ : ∃ SE, postE zs xs = SE := ⟨_, rfl⟩
            obtain ⟨SL, hSL⟩ : ∃ SL, postL zs xs = SL := ⟨_, rfl⟩
            rw [hSE, hSL] at HP HLP
            clear hxc hxl hxr hbel hSE hSL
            go_wp2_with fail
            refine HP.out.mono ?_
            rintro e w5 ⟨v5, rfl, ho5, hb5⟩
            have HO5 := Lib.hid ho5
            have HB5 := Lib.hid (HBW.out.trans (hb5.mono HBW.out.size))
            have HQ := Lib.hid (HLP.out w5 HB5.out hb5)
            have HB55 := Lib.hid hb5
            clear hxc2 ho5 hb5 HP HLP
            obtain ⟨EV, hEV⟩ : ∃ V, errV SE = V := ⟨_, rfl⟩
            have HN5 := Lib.hid (fun W (hb : Below w2.heap.size w2 W) => number_of SE W (HH.out.below (HB2.out.trans (hb.mono HB2.out.size))))
            rw [hEV] at HN5 ⊢
            clear hEV
            go_wp2_with fail
            refine HQ.out.mono ?_
            rintro e w6 ⟨v6, rfl, ho6, hb6⟩
            have HB6 := Lib.hid (HB5.out.trans (hb6.mono HB5.out.size))
            have HB66 := Lib.hid (HB55.out.trans (hb6.mono HB55.out.size))
            obtain ⟨A5, cap5, rfl, hrd5, _⟩ := (HO5.out.below hb6).form
            obtain ⟨A6, cap6, rfl, hrd6, hc6, hcm6, _⟩ := ho6.form
            obtain ⟨m, hm⟩ : ∃ m, SL.length = m := ⟨_, rfl⟩
            rw [hm] at hc6 ⊢
            have hm1 : m ≤ 9223372036854775807 := by unfold maxLen at hcm6; omega
            have HSM := Lib.hid (same_any A5 A6 m m cap5 cap6 SL SL w6 hm hm hrd5 hrd6 hm1 hm1)
            rw [show decide (SL = SL) = true from decide_eq_true rfl] at HSM
            have hSS : (SE != SE) = false := by simp
            clear ho6 hb6 hrd5 hrd6 hc6 hcm6 hm HQ HO5 HB5 HB55
            go_wp2_with (first
              | (go_at_call 13; refine HSM.out.mono ?_; rintro e w7 ⟨rfl, hb7⟩; have HB7 := Lib.hid (HB66.out.trans (hb7.mono HB66.out.size)); have HB77 := Lib.hid (HB6.out.trans (hb7.mono HB6.out.size)); clear hb7 HSM)
              | (go_at_call 14; refine (HN5.out w7 HB77.out).mono ?_; rintro e w8 ⟨rfl, hb8⟩; have HB8 := Lib.hid (HB7.out.trans (hb8.mono HB7.out.size)); clear hb8 HN5))
            go_roundw
            case rel => first | exact ⟨k + 1, by omega, by go_num, HBEL.out.trans (HB8.out.mono HBEL.out.size)⟩ | ((repeat apply Exists.intro); exact ⟨⟨k + 1, by omega, by go_num, HBEL.out.trans (HB8.out.mono HBEL.out.size)⟩, rfl⟩)
            case measure => simp [intOf]; omega
          · obtain rfl : k = 2 := by omega
            have k0 := (HBW.out.cell (p := ⟨w.heap.size, 0, none⟩) hz2).trans K0.out
            have k1 := (HBW.out.cell (p := ⟨w.heap.size, 1, none⟩) hz2).trans K1.out
            have k2 := (HBW.out.cell (p := ⟨w.heap.size, 2, none⟩) hz2).trans K2.out
            have HQ := Lib.hid (HBK.out wr (HB2.out.trans (HBW.out.mono HB2.out.size)))
            clear hbel
            go_wp2_with fail
            refine HQ.out.mono ?_
            rintro e w5 ⟨v5, rfl, ho5, hb5⟩
            obtain ⟨A5, cap5, rfl, hrd5, _⟩ := ho5.form
            rw [HN.out]
            have HB5 := Lib.hid (HBW.out.trans (hb5.mono HBW.out.size))
            have HSM := Lib.hid (same_any (some ⟨g, 0, none⟩) A5 n n cap cap5 zs zs w5 HN.out HN.out (HO.out.below HB5.out).rd hrd5 (by omega) (by omega))
            rw [show decide (zs = zs) = true from decide_eq_true rfl] at HSM
            clear ho5 hb5 hrd5 HQ
            go_wp2_with (first | (go_at_call 13; refine HSM.out.mono ?_; rintro e w7 ⟨rfl, hb7⟩))
            go_ret
            exact ⟨rfl, HB2.out.trans ((HB5.out.trans (hb7.mono HB5.out.size)).mono HB2.out.size)⟩
      | true =>
        clear hsp
        go_wp2
        obtain ⟨R, hR⟩ : ∃ R, w3.heap.size = R := ⟨_, rfl⟩
        obtain ⟨wy, hwy⟩ : ∃ wy, w3.alloc (.cells #[.slice AZ 0 cap3, .slice RA rl rc] 27) = wy := ⟨_, rfl⟩
        have hy0 : wy.cell? ⟨R, 0, none⟩ = some (.slice AZ 0 cap3) := by rw [← hwy, ← hR]; simp
        have hy1 : wy.cell? ⟨R, 1, none⟩ = some (.slice RA rl rc) := by rw [← hwy, ← hR]; simp
        have hyR : R < wy.heap.size := World.block_lt_of_cell? _ _ hy0
        have HBY : Hid (Below w2.heap.size w2 wy) := Lib.hid (by rw [← hwy]; exact HBZ.out.alloc HBZ.out.size _)
        have hsel : ∀ k : Nat, k < 2 → ∃ XA XL XC xs, wy.cell? ⟨R, k, none⟩ = some (.slice XA XL XC) ∧ List.length (α := En) xs = XL ∧ RdE wy XA xs ∧ XL ≤ 9223372036854775807 := fun k hk => by
          have h01 : k = 0 ∨ k = 1 := by omega
          rcases h01 with rfl | rfl
          · exact ⟨_, _, _, es, hy0, HLZ.out, by rw [← hwy]; exact HRZ.out.alloc _, by omega⟩
          · exact ⟨_, _, _, raw, hy1, HRL.out, HRAW.out.below (HB2.out.trans (HBY.out.mono HB2.out.size)), hrl2⟩
        have HSEL := Lib.hid hsel
        rw [hwy, hR]
        clear hsel hy0 hy1 hwy hR HRZ HLZ HBZ
        go_loopw [41] (fun i wr => ∃ k : Nat, k ≤ 2 ∧ i = .int .i64 (k : Int) ∧ Below wy.heap.size wy wr) (fun i _ => 2 - (intOf i).toNat)
        case atStart => exact ⟨0, Nat.zero_le _, rfl, Below.refl _ _⟩
        case round =>
          obtain ⟨k, hk, rfl, hbel⟩ := hrel
          have HBEL := Lib.hid hbel
          have HBW := Lib.hid (HBY.out.trans (hbel.mono HBY.out.size))
          by_cases hlt : k < 2
          · obtain ⟨XA, XL, XC, xs, hxc, hxl, hxr, hxm⟩ := HSEL.out k hlt
            have hxc2 : wr.cell? ⟨R, k, none⟩ = some (.slice XA XL XC) := (hbel.cell (p := ⟨R, k, none⟩) hyR).trans hxc
            have HXL := Lib.hid hxl
            have HXR := Lib.hid (hxr.below hbel)
            have HP := Lib.hid (post_any (some ⟨g, 0, none⟩) XA n XL cap XC zs xs wr HN.out (HO.out.below HBW.out).rd HXL.out HXR.out (by omega) hxm (by intro h; cases h))
            have HLP := Lib.hid (fun W (hb : Below w2.heap.size w2 W) (hb' : Below wr.heap.size wr W) => lawpost_any (some ⟨g, 0, none⟩) XA n XL cap XC zs xs W HN.out (HO.out.below hb).rd HXL.out (HXR.out.below hb') (by omega) (by omega) hxm)
            obtain ⟨SE, hSE⟩ : ∃ SE, postE zs xs = SE := ⟨_, rfl⟩
            obtain ⟨SL, hSL⟩ : ∃ SL, postL zs xs = SL := ⟨_, rfl⟩
            rw [hSE, hSL] at HP HLP
            clear hxc hxl hxr hbel hSE hSL
            go_wp2_with fail
            refine HP.out.mono ?_
            rintro e w5 ⟨v5, rfl, ho5, hb5⟩
            have HO5 := Lib.hid ho5
            have HB5 := Lib.hid (HBW.out.trans (hb5.mono HBW.out.size))
            have HQ := Lib.hid (HLP.out w5 HB5.out hb5)
            have HB55 := Lib.hid hb5
            clear hxc2 ho5 hb5 HP HLP
            obtain ⟨EV, hEV⟩ : ∃ V, errV SE = V := ⟨_, rfl⟩
            have HN5 := Lib.hid (fun W (hb : Below w2.heap.size w2 W) => number_of SE W (HH.out.below (HB2.out.trans (hb.mono HB2.out.size))))
            rw [hEV] at HN5 ⊢
            clear hEV
            go_wp2_with fail
            refine HQ.out.mono ?_
            rintro e w6 ⟨v6, rfl, ho6, hb6⟩
            have HB6 := Lib.hid (HB5.out.trans (hb6.mono HB5.out.size))
            have HB66 := Lib.hid (HB55.out.trans (hb6.mono HB55.out.size))
            obtain ⟨A5, cap5, rfl, hrd5, _⟩ := (HO5.out.below hb6).form
            obtain ⟨A6, cap6, rfl, hrd6, hc6, hcm6, _⟩ := ho6.form
            obtain ⟨m, hm⟩ : ∃ m, SL.length = m := ⟨_, rfl⟩
            rw [hm] at hc6 ⊢
            have hm1 : m ≤ 9223372036854775807 := by unfold maxLen at hcm6; omega
            have HSM := Lib.hid (same_any A5 A6 m m cap5 cap6 SL SL w6 hm hm hrd5 hrd6 hm1 hm1)
            rw [show decide (SL = SL) = true from decide_eq_true rfl] at HSM
            have hSS : (SE != SE) = false := by simp
            clear ho6 hb6 hrd5 hrd6 hc6 hcm6 hm HQ HO5 HB5 HB55
            go_wp2_with (first
              | (go_at_call 13; refine HSM.out.mono ?_; rintro e w7 ⟨rfl, hb7⟩; have HB7 := Lib.hid (HB66.out.trans (hb7.mono HB66.out.size)); have HB77 := Lib.hid (HB6.out.trans (hb7.mono HB6.out.size)); clear hb7 HSM)
              | (go_at_call 14; refine (HN5.out w7 HB77.out).mono ?_; rintro e w8 ⟨rfl, hb8⟩; have HB8 := Lib.hid (HB7.out.trans (hb8.mono HB7.out.size)); clear hb8 HN5))
            go_roundw
            case rel => first | exact ⟨k + 1, by omega, by go_num, HBEL.out.trans (HB8.out.mono HBEL.out.size)⟩ | ((repeat apply Exists.intro); exact ⟨⟨k + 1, by omega, by go_num, HBEL.out.trans (HB8.out.mono HBEL.out.size)⟩, rfl⟩)
            case measure => simp [intOf]; omega
          · obtain rfl : k = 2 := by omega
            have k0 := (HBW.out.cell (p := ⟨w.heap.size, 0, none⟩) hz2).trans K0.out
            have k1 := (HBW.out.cell (p := ⟨w.heap.size, 1, none⟩) hz2).trans K1.out
            have k2 := (HBW.out.cell (p := ⟨w.heap.size, 2, none⟩) hz2).trans K2.out
            have HQ := Lib.hid (HBK.out wr (HB2.out.trans (HBW.out.mono HB2.out.size)))
            clear hbel
            go_wp2_with fail
            refine HQ.out.mono ?_
            rintro e w5 ⟨v5, rfl, ho5, hb5⟩
            obtain ⟨A5, cap5, rfl, hrd5, _⟩ := ho5.form
            rw [HN.out]
            have HB5 := Lib.hid (HBW.out.trans (hb5.mono HBW.out.size))
            have HSM := Lib.hid (same_any (some ⟨g, 0, none⟩) A5 n n cap cap5 zs zs w5 HN.out HN.out (HO.out.below HB5.out).rd hrd5 (by omega) (by omega))
            rw [show decide (zs = zs) = true from decide_eq_true rfl] at HSM
            clear ho5 hb5 hrd5 HQ
            go_wp2_with (first | (go_at_call 13; refine HSM.out.mono ?_; rintro e w7 ⟨rfl, hb7⟩))
            go_ret
            exact ⟨rfl, HB2.out.trans ((HB5.out.trans (hb7.mono HB5.out.size)).mono HB2.out.size)⟩
end Go.Proofs.YtbneohglblkmeaaDoor
