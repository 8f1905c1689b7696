/-
  The statement LedgerBack by its walk.
-/
import Derived.Test.YtbneohglblkmeaaDoorLedAwake
import Derived.Test.YtbneohglblkmeaaDoorLedPost
import Derived.Test.YtbneohglblkmeaaDoorEntBack
import Derived.Test.YtbneohglblkmeaaDoorEntries
import Derived.Test.YtbneohglblkmeaaDoorBookAny
import Derived.Test.YtbneohglblkmeaaDoorArgNat
import Derived.Test.YtbneohglblkmeaaDoorEntMove
namespace Go.Proofs.YtbneohglblkmeaaDoor
open Go Go.RowKit
set_option linter.unusedVariables false

theorem back_bal {zs : List Ac} {es : List En} (ht : Tame zs 300000 es) (hl : es.length ≤ 9) (hs : ∀ c, 0 ≤ c ∧ c < 3 → esum zs c es = 0) : balB zs (backE es) = true := by
  rw [balB_tame zs 300000 (by omega) (by omega) _ (tame_back (by omega) ht) (by rw [backE_len]; omega)]
  rw [esum_back zs 0 (by omega) es ht, esum_back zs 1 (by omega) es ht, esum_back zs 2 (by omega) es ht, hs 0 (by omega), hs 1 (by omega), hs 2 (by omega)]
  simp

set_option maxRecDepth 100000 in
set_option maxHeartbeats 8000000 in
theorem ledgerBack_walk (w : World) (v : Value) (hv : BookAt w v) (PA : Option Addr) (pl pc : Nat) (hp : IsPairs w PA pl pc) (K : Int) (wK : (Lit.int .u8 K).wf = true) (X : Int) (wX : (Lit.int .u16 X).wf = true) (hh : HasErr w) :
    Calls Tryd.prog 7 #[v, .slice PA pl pc, .int .u8 K, .int .u16 X] w fun e w' => e = .returned (.bool true) ∧ Below w.heap.size w w' := by
  obtain ⟨CA, HA, LA, cl, cc, hl, hc, ll, lc, cs, hs, ls, rfl, _⟩ := hv.form
  obtain ⟨K, rfl, hK⟩ := u8_nat wK
  obtain ⟨X, rfl, hX⟩ := u16_nat wX
  obtain ⟨ps, hpl, hps, hpf, hplc, hpcm⟩ := pairs_list hp
  have hpl2 : pl ≤ 9223372036854775807 := by unfold maxLen at hpcm; omega
  obtain ⟨zs, kk, hbk, hk8, hbook⟩ := book_is hv
  obtain ⟨n, hn⟩ : ∃ n, zs.length = n := ⟨_, rfl⟩
  have hzl := hbk.len
  have hn17 : n ≤ 17 := by omega
  have hn9 : 9 ≤ n := by omega
  obtain ⟨q, hq⟩ : ∃ q : Nat, K % 8 = q := ⟨_, rfl⟩
  have hq8 : q < 8 := by omega
  have hq1 : (K : Int) % 8 = (q : Int) := by omega
  have hq2 : (K : Int).tmod 8 = (q : Int) := by rw [Int.tmod_eq_emod_of_nonneg (by omega)]; exact hq1
  have HH := Lib.hid hh
  have HPL := Lib.hid hpl
  have HPS := Lib.hid hps
  have HPF := Lib.hid hpf
  have HBK := Lib.hid hbook
  have HN := Lib.hid hn
  have HZ := Lib.hid hbk.house_
  have HCU := Lib.hid (Curs.of_book hbk)
  have HRT := Lib.hid (hbk.right hk8)
  clear hv wK wX hp hpl hps hpf hplc hpcm hbk hbook hn hzl hk8 hq hh
  go_enter Tryd.func7, Tryd.ntmps7
  go_wp2_with fail
  have hb0 := (Below.refl w.heap.size w).alloc (Nat.le_refl _) (.cells #[.slice CA cl cc, .slice HA hl hc, .slice LA ll lc] 25)
  refine (awake_ok _ (HH.out.below hb0)).mono ?_
  rintro e w1 ⟨rfl, hb1⟩
  have k0 : w1.cell? ⟨w.heap.size, 0, none⟩ = some (.slice CA cl cc) := by rw [hb1.cell (by simp)]; simp
  have k1 : w1.cell? ⟨w.heap.size, 1, none⟩ = some (.slice HA hl hc) := by rw [hb1.cell (by simp)]; simp
  have k2 : w1.cell? ⟨w.heap.size, 2, none⟩ = some (.slice LA ll lc) := by rw [hb1.cell (by simp)]; simp
  have HB1 := Lib.hid (hb0.trans (hb1.mono (by simp)))
  clear hb0 hb1
  go_wp2_with fail
  refine (HBK.out _ HB1.out).mono ?_
  rintro e w2 ⟨v2, rfl, ho, hb2⟩
  obtain ⟨g, cap, hv2, hg1, hg2, hnc, hcm⟩ := ho.open_ (by rw [HN.out]; omega)
  rw [HN.out] at hv2
  subst hv2
  have HO := Lib.hid ho
  have HB2 := Lib.hid (HB1.out.trans (hb2.mono HB1.out.size))
  clear ho hb2 hg1 hg2 hnc hcm k0 k1 k2
  have HEN := Lib.hid (entries_any (some ⟨g, 0, none⟩) PA n pl cap pc zs ps w2 HN.out HO.out.rd HCU.out (by omega) (by omega) HPL.out (HPS.out.below HB2.out) HPF.out hpl2)
  go_wp2_with fail
  refine HEN.out.mono ?_
  rintro e w3 ⟨v3, rfl, ho3, hb3⟩
  have htame := entriesL_tame HZ.out HCU.out (by rw [HN.out]; exact hn9) ps
  have hsum := entriesL_sum HZ.out ps
  have hel := entriesL_len zs ps
  have hbal := back_bal htame hel hsum
  obtain ⟨es, hes⟩ : ∃ es, entriesL zs ps = es := ⟨_, rfl⟩
  rw [hes] at ho3 hbal hel
  obtain ⟨L, hL⟩ : ∃ L, es.length = L := ⟨_, rfl⟩
  obtain ⟨A3, cap3, rfl, hrd3, hc3, hcm3, hnil3⟩ := ho3.form
  rw [hL] at hel ⊢
  have HBAL := Lib.hid hbal
  have HLL := Lib.hid hL
  have HR3 := Lib.hid hrd3
  have HB3 := Lib.hid hb3
  have HP := Lib.hid (post_any (some ⟨g, 0, none⟩) A3 n L cap cap3 zs es w3 HN.out (HO.out.below HB3.out).rd HLL.out HR3.out (by omega) (by omega) (by intro h; cases h))
  clear htame hsum hbal hes hL hrd3 hc3 hcm3 hnil3 ho3 hb3 HEN
  go_wp2_with fail
  refine HP.out.mono ?_
  rintro e w4 ⟨v4, rfl, ho4, hb4⟩
  have HB4 := Lib.hid (HB3.out.trans (hb4.mono HB3.out.size))
  have HO4 := Lib.hid ho4
  have HR4 := Lib.hid (HR3.out.below hb4)
  clear ho4 hb4 HP
  obtain ⟨E, hE⟩ : ∃ E, postE zs es = E := ⟨_, rfl⟩
  rw [hE]
  by_cases hE0 : E = 0
  · subst hE0
    rw [show errV 0 = .nilIface from rfl]
    obtain ⟨b1, b2⟩ := post_back HRT.out hE HBAL.out
    have hyl := post_len hE
    rw [HN.out] at hyl
    obtain ⟨ys, hys⟩ : ∃ ys, postL zs es = ys := ⟨_, rfl⟩
    rw [hys] at b1 b2 hyl HO4
    obtain ⟨A4, cap4, rfl, hrd4, hc4, hcm4, hnil4⟩ := HO4.out.form
    rw [hyl] at hnil4 ⊢
    have HYL := Lib.hid hyl
    have HX1 := Lib.hid b1
    have HX2 := Lib.hid b2
    have HR44 := Lib.hid hrd4
    have HNIL4 := Lib.hid hnil4
    clear b1 b2 hyl hys hrd4 hc4 hcm4 hnil4 HO4 hE
    go_wp2_with fail
    refine (back_any A3 L cap3 es w4 HLL.out HR4.out (by omega)).mono ?_
    rintro e w5 ⟨rfl, ho5, hb5⟩
    obtain ⟨G5, hG5⟩ : ∃ G, w4.heap.size = G := ⟨_, rfl⟩
    rw [hG5] at ho5 ⊢
    have HP2 := Lib.hid (post_any A4 (some ⟨G5, 0, none⟩) n L cap4 L ys (backE es) w5 HYL.out (HR44.out.below hb5) (by rw [backE_len]; exact HLL.out) ho5.rd (by omega) (by omega) HNIL4.out)
    rw [HX1.out, HX2.out] at HP2
    have HB5 := Lib.hid (HB4.out.trans (hb5.mono HB4.out.size))
    clear hG5 ho5 hb5 HNIL4
    go_wp2_with fail
    refine HP2.out.mono ?_
    rintro e w6 ⟨v6, rfl, ho6, hb6⟩
    rw [show errV 0 = .nilIface from rfl]
    obtain ⟨A6, cap6, rfl, hrd6, _⟩ := ho6.form
    rw [HN.out]
    have HB6 := Lib.hid (HB5.out.trans (hb6.mono HB5.out.size))
    have HS := Lib.hid (same_any A6 (some ⟨g, 0, none⟩) n n cap6 cap zs zs w6 HN.out HN.out hrd6 (HO.out.below HB6.out).rd (by omega) (by omega))
    rw [show decide (zs = zs) = true from decide_eq_true rfl] at HS
    clear ho6 hrd6 hb6 HP2
    go_wp2_with (first | (go_at_call 13; refine HS.out.mono ?_; rintro e w7 ⟨rfl, hb7⟩; have HB7 := Lib.hid (HB6.out.trans (hb7.mono HB6.out.size)); clear hb7 HS))
    have HHD := Lib.hid (hold_any (some ⟨g, 0, none⟩) n cap zs (9 + (q : Int)) (X : Int) w7 HN.out (HO.out.below HB7.out).rd (by omega) (by intro h; cases h))
    refine HHD.out.mono ?_
    rintro e wa ⟨va, rfl, hoa, hba⟩
    have HBA := Lib.hid (HB7.out.trans (hba.mono HB7.out.size))
    clear hba HHD
    obtain ⟨F, hF⟩ : ∃ F, holdE zs (9 + (q : Int)) (X : Int) = F := ⟨_, rfl⟩
    rw [hF]
    by_cases hF0 : F = 0
    · subst hF0
      rw [show errV 0 = .nilIface from rfl]
      obtain ⟨b1, b2⟩ := hold_back HRT.out hF
      have hyl := hold_len hF
      rw [HN.out] at hyl
      obtain ⟨xs, hxs⟩ : ∃ xs, holdL zs (9 + (q : Int)) (X : Int) = xs := ⟨_, rfl⟩
      rw [hxs] at b1 b2 hyl hoa
      obtain ⟨Aa, capa, rfl, hrda, hca, hcma, hnila⟩ := hoa.form
      rw [hyl] at hnila ⊢
      have HRE := Lib.hid (release_any Aa n capa xs (9 + (q : Int)) (X : Int) wa hyl hrda (by omega) hnila)
      rw [b1, b2] at HRE
      clear b1 b2 hyl hxs hrda hca hcma hnila hoa hF
      go_wp2_with fail
      refine HRE.out.mono ?_
      rintro e wb ⟨vb, rfl, hob, hbb⟩
      rw [show errV 0 = .nilIface from rfl]
      obtain ⟨Ab, capb, rfl, hrdb, _⟩ := hob.form
      rw [HN.out]
      have HBB := Lib.hid (HBA.out.trans (hbb.mono HBA.out.size))
      have HS2 := Lib.hid (same_any Ab (some ⟨g, 0, none⟩) n n capb cap zs zs wb HN.out HN.out hrdb (HO.out.below HBB.out).rd (by omega) (by omega))
      rw [show decide (zs = zs) = true from decide_eq_true rfl] at HS2
      clear hob hrdb hbb HRE
      go_wp2_with (first | (go_at_call 13; refine HS2.out.mono ?_; rintro e wc ⟨rfl, hbc⟩))
      go_ret
      exact ⟨rfl, HB2.out.trans ((HBB.out.trans (hbc.mono HBB.out.size)).mono HB2.out.size)⟩
    · rw [errV, if_neg hF0]
      clear hoa hF
      go_wp2
      go_ret
      exact ⟨rfl, HB2.out.trans (HBA.out.mono HB2.out.size)⟩
  · rw [errV, if_neg hE0]
    clear hE HO4 HR4
    go_wp2_with fail
    have HHD := Lib.hid (hold_any (some ⟨g, 0, none⟩) n cap zs (9 + (q : Int)) (X : Int) w4 HN.out (HO.out.below HB4.out).rd (by omega) (by intro h; cases h))
    refine HHD.out.mono ?_
    rintro e wa ⟨va, rfl, hoa, hba⟩
    have HBA := Lib.hid (HB4.out.trans (hba.mono HB4.out.size))
    clear hba HHD
    obtain ⟨F, hF⟩ : ∃ F, holdE zs (9 + (q : Int)) (X : Int) = F := ⟨_, rfl⟩
    rw [hF]
    by_cases hF0 : F = 0
    · subst hF0
      rw [show errV 0 = .nilIface from rfl]
      obtain ⟨b1, b2⟩ := hold_back HRT.out hF
      have hyl := hold_len hF
      rw [HN.out] at hyl
      obtain ⟨xs, hxs⟩ : ∃ xs, holdL zs (9 + (q : Int)) (X : Int) = xs := ⟨_, rfl⟩
      rw [hxs] at b1 b2 hyl hoa
      obtain ⟨Aa, capa, rfl, hrda, hca, hcma, hnila⟩ := hoa.form
      rw [hyl] at hnila ⊢
      have HRE := Lib.hid (release_any Aa n capa xs (9 + (q : Int)) (X : Int) wa hyl hrda (by omega) hnila)
      rw [b1, b2] at HRE
      clear b1 b2 hyl hxs hrda hca hcma hnila hoa hF
      go_wp2_with fail
      refine HRE.out.mono ?_
      rintro e wb ⟨vb, rfl, hob, hbb⟩
      rw [show errV 0 = .nilIface from rfl]
      obtain ⟨Ab, capb, rfl, hrdb, _⟩ := hob.form
      rw [HN.out]
      have HBB := Lib.hid (HBA.out.trans (hbb.mono HBA.out.size))
      have HS2 := Lib.hid (same_any Ab (some ⟨g, 0, none⟩) n n capb cap zs zs wb HN.out HN.out hrdb (HO.out.below HBB.out).rd (by omega) (by omega))
      rw [show decide (zs = zs) = true from decide_eq_true rfl] at HS2
      clear hob hrdb hbb HRE
      go_wp2_with (first | (go_at_call 13; refine HS2.out.mono ?_; rintro e wc ⟨rfl, hbc⟩))
      go_ret
      exact ⟨rfl, HB2.out.trans ((HBB.out.trans (hbc.mono HBB.out.size)).mono HB2.out.size)⟩
    · rw [errV, if_neg hF0]
      clear hoa hF
      go_wp2
      go_ret
      exact ⟨rfl, HB2.out.trans (HBA.out.mono HB2.out.size)⟩
end Go.Proofs.YtbneohglblkmeaaDoor
