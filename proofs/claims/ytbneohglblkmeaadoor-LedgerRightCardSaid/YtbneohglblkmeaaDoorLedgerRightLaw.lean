/-
  The statement LedgerRight by its walk.
-/
import Derived.Test.YtbneohglblkmeaaDoorLedAwake
import Derived.Test.YtbneohglblkmeaaDoorLedPost
import Derived.Test.YtbneohglblkmeaaDoorEntries
import Derived.Test.YtbneohglblkmeaaDoorBookAny
import Derived.Test.YtbneohglblkmeaaDoorEntMove
import Derived.Test.YtbneohglblkmeaaDoorArgNat
import Derived.Test.YtbneohglblkmeaaDoorArrSame
import Derived.Test.YtbneohglblkmeaaDoorChartRight
import Derived.Test.YtbneohglblkmeaaDoorChartSums
namespace Go.Proofs.YtbneohglblkmeaaDoor
open Go Go.RowKit
set_option linter.unusedVariables false

/-- Right accounts that come to nothing. -/
structure Fine (n : Nat) (zs : List Ac) : Prop where
  len : zs.length = n
  right : rightB zs = true
  sums : ∀ c, 0 ≤ c ∧ c < 3 → psum c zs = 0
theorem Fine.post {n : Nat} {zs : List Ac} {es : List En} (h : Fine n zs) (he : postE zs es = 0) : Fine n (postL zs es) :=
  ⟨(post_len he).trans h.len, post_right h.right he, fun c hc => (post_sums he c hc).trans (h.sums c hc)⟩
theorem Fine.hold {n : Nat} {zs : List Ac} {k x : Int} (h : Fine n zs) (he : holdE zs k x = 0) : Fine n (holdL zs k x) :=
  ⟨(hold_len he).trans h.len, hold_right h.right he, fun c hc => (hold_sums he c).trans (h.sums c hc)⟩
theorem Fine.curs {n : Nat} {zs : List Ac} (h : Fine n zs) : ∀ (j : Nat) (a : Ac), zs[j]? = some a → 0 ≤ a.cur ∧ a.cur < 3 := fun j a ha => (right_at h.right ha).1
theorem Fine.gsum {n : Nat} {zs : List Ac} (h : Fine n zs) : gsum 0 zs = 0 ∧ gsum 1 zs = 0 ∧ gsum 2 zs = 0 :=
  ⟨gsum_zero (h.sums 0 (by omega)), gsum_zero (h.sums 1 (by omega)), gsum_zero (h.sums 2 (by omega))⟩

set_option maxRecDepth 100000 in
set_option maxHeartbeats 8000000 in
theorem ledgerRight_walk (w : World) (v : Value) (hv : BookAt w v) (PA : Option Addr) (pl pc : Nat) (hp : IsPairs w PA pl pc) (K : Int) (wK : (Lit.int .u8 K).wf = true) (X : Int) (wX : (Lit.int .u16 X).wf = true) (hh : HasErr w) :
    Calls Tryd.prog 6 #[v, .slice PA pl pc, .int .u8 K, .int .u16 X] w fun e w' => e = .returned (.bool true) ∧ Below w.heap.size w w' := by
  obtain ⟨CA, HA, LA, cl, cc, hl, hc, ll, lc, cs, hs, ls, rfl, _⟩ := hv.form
  obtain ⟨K, rfl, hK⟩ := u8_nat wK
  obtain ⟨X, rfl, hX⟩ := u16_nat wX
  obtain ⟨ps, hpl, hps, hpf, hplc, hpcm⟩ := pairs_list hp
  have hpl2 : pl ≤ 9223372036854775807 := by unfold maxLen at hpcm; omega
  obtain ⟨zs, kk, hbk, hk8, hbook⟩ := book_is hv
  obtain ⟨n, hn⟩ : ∃ n, zs.length = n := ⟨_, rfl⟩
  have hzl := hbk.len
  have hn17 : n ≤ 17 := by omega
  have hn9 : 9 ≤ n := by omega
  obtain ⟨q, hq⟩ : ∃ q : Nat, K % 8 = q := ⟨_, rfl⟩
  have hq8 : q < 8 := by omega
  have hq1 : (K : Int) % 8 = (q : Int) := by omega
  have hq2 : (K : Int).tmod 8 = (q : Int) := by rw [Int.tmod_eq_emod_of_nonneg (by omega)]; exact hq1
  have HH := Lib.hid hh
  have HPL := Lib.hid hpl
  have HPS := Lib.hid hps
  have HPF := Lib.hid hpf
  have HBK := Lib.hid hbook
  have HN := Lib.hid hn
  have HEQ := Lib.hid arr_cmp
  have HFN : Hid (Fine n zs) := Lib.hid ⟨hn, hbk.right hk8, fun c _ => hbk.sums c⟩
  clear hv wK wX hp hpl hps hpf hplc hpcm hbk hbook hn hzl hk8 hq hh
  go_enter Tryd.func6, Tryd.ntmps6
  go_wp2_with fail
  have hb0 := (Below.refl w.heap.size w).alloc (Nat.le_refl _) (.cells #[.slice CA cl cc, .slice HA hl hc, .slice LA ll lc] 25)
  refine (awake_ok _ (HH.out.below hb0)).mono ?_
  rintro e w1 ⟨rfl, hb1⟩
  have k0 : w1.cell? ⟨w.heap.size, 0, none⟩ = some (.slice CA cl cc) := by rw [hb1.cell (by simp)]; simp
  have k1 : w1.cell? ⟨w.heap.size, 1, none⟩ = some (.slice HA hl hc) := by rw [hb1.cell (by simp)]; simp
  have k2 : w1.cell? ⟨w.heap.size, 2, none⟩ = some (.slice LA ll lc) := by rw [hb1.cell (by simp)]; simp
  have hz1 : w.heap.size < w1.heap.size := by have := hb1.size; simp at this; omega
  have HB1 := Lib.hid (hb0.trans (hb1.mono (by simp)))
  clear hb0 hb1
  go_wp2_with fail
  refine (HBK.out _ HB1.out).mono ?_
  rintro e w2 ⟨v2, rfl, ho, hb2⟩
  have K0 := Lib.hid ((hb2.cell (p := ⟨w.heap.size, 0, none⟩) hz1).trans k0)
  have K1 := Lib.hid ((hb2.cell (p := ⟨w.heap.size, 1, none⟩) hz1).trans k1)
  have K2 := Lib.hid ((hb2.cell (p := ⟨w.heap.size, 2, none⟩) hz1).trans k2)
  have hz2 : w.heap.size < w2.heap.size := by have := hb2.size; omega
  have HO := Lib.hid (ho.less (Nat.zero_le _))
  have HB2 := Lib.hid (HB1.out.trans (hb2.mono HB1.out.size))
  clear ho hb2 k0 k1 k2 hz1
  go_wp2
  go_loopw [9, 22] (fun v i wr => ∃ (k : Nat) (ys : List Ac), k ≤ pl ∧ i = .int .i64 (k : Int) ∧ OwnA wr 0 v ys ∧ Fine n ys ∧ Below w2.heap.size w2 wr) (fun _ i _ => pl - (intOf i).toNat)
  case atStart => exact ⟨0, zs, Nat.zero_le _, rfl, HO.out, HFN.out, Below.refl _ _⟩
  case round =>
    obtain ⟨k, ys, hk, rfl, hown, hfine, hbel⟩ := hrel
    have hyl := hfine.len
    obtain ⟨g, cap, hv2, _, hg2, hnc, hcm⟩ := hown.open_ (by omega)
    rw [hyl] at hv2
    subst hv2
    have HOWN := Lib.hid hown
    have HFINE := Lib.hid hfine
    have HBEL := Lib.hid hbel
    have HYL := Lib.hid hyl
    have hsz := hbel.size
    clear hown hfine hbel hyl hg2 hnc hcm
    by_cases hlt : k < pl
    · obtain ⟨⟨P, x⟩, he⟩ : ∃ e, ps[k]? = some e := ⟨_, List.getElem?_eq_getElem (by rw [HPL.out]; exact hlt)⟩
      obtain ⟨ae, rfl, hae⟩ := (HPS.out.below (HB2.out.trans (HBEL.out.mono HB2.out.size))).at_ he
      have hpf1 := HPF.out _ _ he
      obtain ⟨e0, e1⟩ := hae
      rw [add_next ae (k * 2) 1 (by omega)] at e1
      dsimp only at e0 e1
      obtain ⟨R, hR⟩ : ∃ R, wr.heap.size + 1 = R := ⟨_, rfl⟩
      obtain ⟨wy, hwy⟩ : ∃ W, (wr.alloc (.cells #[.int .u8 (P : Int), .int .i32 x] 56)).alloc (.cells #[.int .u8 (P : Int), .int .i32 x] 56) = W := ⟨_, rfl⟩
      have hbw : Below wr.heap.size wr wy := by rw [← hwy]; exact ((Below.refl _ _).alloc (Nat.le_refl _) _).alloc (by simp) _
      have hrp : RdP wy (some ⟨R, 0, none⟩) [⟨P, x⟩] := fun _ => ⟨_, rfl, fun j a hj => by
        have hj0 : j = 0 := by have := (List.getElem?_eq_some_iff.1 hj).1; simp at this; exact this
        subst hj0
        simp at hj
        subst hj
        rw [← hwy, ← hR]
        exact ⟨by simp [Addr.add], by simp [Addr.add]⟩⟩
      have HEN := Lib.hid (entries_any (some ⟨g, 0, none⟩) (some ⟨R, 0, none⟩) n 1 cap 1 ys [⟨P, x⟩] wy HYL.out (HOWN.out.below hbw).rd HFINE.out.curs (by omega) (by omega) rfl hrp (fun j z hj => by
        have hj0 : j = 0 := by have := (List.getElem?_eq_some_iff.1 hj).1; simp at this; exact this
        subst hj0
        simp at hj
        subst hj
        exact hpf1) (by omega))
      have HBW := Lib.hid (HBEL.out.trans (hbw.mono hsz))
      have HOY := Lib.hid (HOWN.out.below hbw)
      have HWY := Lib.hid hwy
      have HRR := Lib.hid hR
      clear he hpf1 hbw hrp hwy hR
      go_wp2_with fail
      rw [HWY.out, HRR.out]
      refine HEN.out.mono ?_
      rintro e w3 ⟨v3, rfl, ho3, hb3⟩
      have hel := entriesL_len ys [⟨P, x⟩]
      obtain ⟨es, hes⟩ : ∃ es, entriesL ys [⟨P, x⟩] = es := ⟨_, rfl⟩
      rw [hes] at ho3 hel
      obtain ⟨L, hL⟩ : ∃ L, es.length = L := ⟨_, rfl⟩
      obtain ⟨A3, cap3, rfl, hrd3, _⟩ := ho3.form
      rw [hL] at hel ⊢
      have HB3 := Lib.hid (HBW.out.trans (hb3.mono HBW.out.size))
      have HO3 := Lib.hid (HOY.out.below hb3)
      have HP := Lib.hid (post_any (some ⟨g, 0, none⟩) A3 n L cap cap3 ys es w3 HYL.out HO3.out.rd hL hrd3 (by omega) (by omega) (by intro h; cases h))
      clear hes hL ho3 hb3 hrd3 HEN e0 e1
      go_wp2_with fail
      refine HP.out.mono ?_
      rintro e w4 ⟨v4, rfl, ho4, hb4⟩
      have HB4 := Lib.hid (HB3.out.trans (hb4.mono HB3.out.size))
      have HO34 := Lib.hid (HO3.out.below hb4)
      clear hb4 HP
      obtain ⟨E, hE⟩ : ∃ E, postE ys es = E := ⟨_, rfl⟩
      rw [hE]
      by_cases hE0 : E = 0
      · subst hE0
        rw [show errV 0 = .nilIface from rfl]
        have hf4 := HFINE.out.post hE
        obtain ⟨xs, hxs⟩ : ∃ xs, postL ys es = xs := ⟨_, rfl⟩
        rw [hxs] at hf4 ho4
        have hxl := hf4.len
        obtain ⟨g4, cap4, hv4, _, _, _, _⟩ := ho4.open_ (by omega)
        rw [hxl] at hv4
        subst hv4
        have HFX := Lib.hid hf4
        have HXL := Lib.hid hxl
        have HOX := Lib.hid (ho4.less (Nat.zero_le _))
        clear hE hf4 hxs hxl ho4
        have HHD := Lib.hid (hold_any (some ⟨g4, 0, none⟩) n cap4 _ (9 + (q : Int)) (X : Int) w4 HXL.out HOX.out.rd (by omega) (by intro h; cases h))
        go_wp2_with fail
        refine HHD.out.mono ?_
        rintro e wa ⟨va, rfl, hoa, hba⟩
        have HBA := Lib.hid (HB4.out.trans (hba.mono HB4.out.size))
        have HOA := Lib.hid (HOX.out.below hba)
        clear hba HHD
        obtain ⟨F, hF⟩ : ∃ F, holdE xs (9 + (q : Int)) (X : Int) = F := ⟨_, rfl⟩
        rw [hF]
        by_cases hF0 : F = 0
        · subst hF0
          rw [show errV 0 = .nilIface from rfl]
          have hfa := HFX.out.hold hF
          obtain ⟨us, hus⟩ : ∃ us, holdL xs (9 + (q : Int)) (X : Int) = us := ⟨_, rfl⟩
          rw [hus] at hfa hoa
          have hul := hfa.len
          obtain ⟨ga, capa, hva, _, _, _, _⟩ := hoa.open_ (by omega)
          rw [hul] at hva
          subst hva
          have HFA := Lib.hid hfa
          have HUL := Lib.hid hul
          have HOU := Lib.hid (hoa.less (Nat.zero_le _))
          clear hF hfa hus hul hoa
          have HRT := Lib.hid (right_any (some ⟨ga, 0, none⟩) n capa _ wa HUL.out HOU.out.rd (by omega))
          rw [HFA.out.right] at HRT
          have hgs := HFA.out.gsum
          have HSU := Lib.hid (fun W (hb : Below wa.heap.size wa W) => by
            have := sums_any (some ⟨ga, 0, none⟩) n capa _ W HUL.out (HOU.out.below hb).rd (by omega)
            rw [hgs.1, hgs.2.1, hgs.2.2] at this
            exact this)
          clear hgs
          have hq0 := HEQ.out 0 0 0
          rw [show decide ((0 : Int) = 0 ∧ (0 : Int) = 0 ∧ (0 : Int) = 0) = true from rfl] at hq0
          go_wp2_with (first
            | (go_at_call 19; refine HRT.out.mono ?_; rintro e wp ⟨rfl, hbp⟩; have HBP := Lib.hid hbp; clear hbp HRT)
            | (go_at_call 20; refine (HSU.out wp HBP.out).mono ?_; rintro e wq ⟨rfl, hbq⟩; have HBQ := Lib.hid (HBP.out.trans (hbq.mono HBP.out.size)); clear hbq HSU))
          go_roundw
          case rel => first | exact ⟨k + 1, _, by omega, by go_num, HOU.out.below HBQ.out, HFA.out, HBA.out.trans (HBQ.out.mono HBA.out.size)⟩ | ((repeat apply Exists.intro); exact ⟨⟨k + 1, _, by omega, by go_num, HOU.out.below HBQ.out, HFA.out, HBA.out.trans (HBQ.out.mono HBA.out.size)⟩, rfl⟩)
          case measure => simp [intOf]; omega
        · rw [errV, if_neg hF0]
          clear hoa hF
          have HRT := Lib.hid (right_any (some ⟨g4, 0, none⟩) n cap4 _ wa HXL.out HOA.out.rd (by omega))
          rw [HFX.out.right] at HRT
          have hgs := HFX.out.gsum
          have HSU := Lib.hid (fun W (hb : Below wa.heap.size wa W) => by
            have := sums_any (some ⟨g4, 0, none⟩) n cap4 _ W HXL.out (HOA.out.below hb).rd (by omega)
            rw [hgs.1, hgs.2.1, hgs.2.2] at this
            exact this)
          clear hgs
          have hq0 := HEQ.out 0 0 0
          rw [show decide ((0 : Int) = 0 ∧ (0 : Int) = 0 ∧ (0 : Int) = 0) = true from rfl] at hq0
          go_wp2_with (first
            | (go_at_call 19; refine HRT.out.mono ?_; rintro e wp ⟨rfl, hbp⟩; have HBP := Lib.hid hbp; clear hbp HRT)
            | (go_at_call 20; refine (HSU.out wp HBP.out).mono ?_; rintro e wq ⟨rfl, hbq⟩; have HBQ := Lib.hid (HBP.out.trans (hbq.mono HBP.out.size)); clear hbq HSU))
          go_roundw
          case rel => first | exact ⟨k + 1, _, by omega, by go_num, HOA.out.below HBQ.out, HFX.out, HBA.out.trans (HBQ.out.mono HBA.out.size)⟩ | ((repeat apply Exists.intro); exact ⟨⟨k + 1, _, by omega, by go_num, HOA.out.below HBQ.out, HFX.out, HBA.out.trans (HBQ.out.mono HBA.out.size)⟩, rfl⟩)
          case measure => simp [intOf]; omega
      · rw [errV, if_neg hE0]
        clear hE ho4
        have HHD := Lib.hid (hold_any (some ⟨g, 0, none⟩) n cap _ (9 + (q : Int)) (X : Int) w4 HYL.out HO34.out.rd (by omega) (by intro h; cases h))
        go_wp2_with fail
        refine HHD.out.mono ?_
        rintro e wa ⟨va, rfl, hoa, hba⟩
        have HBA := Lib.hid (HB4.out.trans (hba.mono HB4.out.size))
        have HOA := Lib.hid (HO34.out.below hba)
        clear hba HHD
        obtain ⟨F, hF⟩ : ∃ F, holdE ys (9 + (q : Int)) (X : Int) = F := ⟨_, rfl⟩
        rw [hF]
        by_cases hF0 : F = 0
        · subst hF0
          rw [show errV 0 = .nilIface from rfl]
          have hfa := HFINE.out.hold hF
          obtain ⟨us, hus⟩ : ∃ us, holdL ys (9 + (q : Int)) (X : Int) = us := ⟨_, rfl⟩
          rw [hus] at hfa hoa
          have hul := hfa.len
          obtain ⟨ga, capa, hva, _, _, _, _⟩ := hoa.open_ (by omega)
          rw [hul] at hva
          subst hva
          have HFA := Lib.hid hfa
          have HUL := Lib.hid hul
          have HOU := Lib.hid (hoa.less (Nat.zero_le _))
          clear hF hfa hus hul hoa
          have HRT := Lib.hid (right_any (some ⟨ga, 0, none⟩) n capa _ wa HUL.out HOU.out.rd (by omega))
          rw [HFA.out.right] at HRT
          have hgs := HFA.out.gsum
          have HSU := Lib.hid (fun W (hb : Below wa.heap.size wa W) => by
            have := sums_any (some ⟨ga, 0, none⟩) n capa _ W HUL.out (HOU.out.below hb).rd (by omega)
            rw [hgs.1, hgs.2.1, hgs.2.2] at this
            exact this)
          clear hgs
          have hq0 := HEQ.out 0 0 0
          rw [show decide ((0 : Int) = 0 ∧ (0 : Int) = 0 ∧ (0 : Int) = 0) = true from rfl] at hq0
          go_wp2_with (first
            | (go_at_call 19; refine HRT.out.mono ?_; rintro e wp ⟨rfl, hbp⟩; have HBP := Lib.hid hbp; clear hbp HRT)
            | (go_at_call 20; refine (HSU.out wp HBP.out).mono ?_; rintro e wq ⟨rfl, hbq⟩; have HBQ := Lib.hid (HBP.out.trans (hbq.mono HBP.out.size)); clear hbq HSU))
          go_roundw
          case rel => first | exact ⟨k + 1, _, by omega, by go_num, HOU.out.below HBQ.out, HFA.out, HBA.out.trans (HBQ.out.mono HBA.out.size)⟩ | ((repeat apply Exists.intro); exact ⟨⟨k + 1, _, by omega, by go_num, HOU.out.below HBQ.out, HFA.out, HBA.out.trans (HBQ.out.mono HBA.out.size)⟩, rfl⟩)
          case measure => simp [intOf]; omega
        · rw [errV, if_neg hF0]
          clear hoa hF
          have HRT := Lib.hid (right_any (some ⟨g, 0, none⟩) n cap _ wa HYL.out HOA.out.rd (by omega))
          rw [HFINE.out.right] at HRT
          have hgs := HFINE.out.gsum
          have HSU := Lib.hid (fun W (hb : Below wa.heap.size wa W) => by
            have := sums_any (some ⟨g, 0, none⟩) n cap _ W HYL.out (HOA.out.below hb).rd (by omega)
            rw [hgs.1, hgs.2.1, hgs.2.2] at this
            exact this)
          clear hgs
          have hq0 := HEQ.out 0 0 0
          rw [show decide ((0 : Int) = 0 ∧ (0 : Int) = 0 ∧ (0 : Int) = 0) = true from rfl] at hq0
          go_wp2_with (first
            | (go_at_call 19; refine HRT.out.mono ?_; rintro e wp ⟨rfl, hbp⟩; have HBP := Lib.hid hbp; clear hbp HRT)
            | (go_at_call 20; refine (HSU.out wp HBP.out).mono ?_; rintro e wq ⟨rfl, hbq⟩; have HBQ := Lib.hid (HBP.out.trans (hbq.mono HBP.out.size)); clear hbq HSU))
          go_roundw
          case rel => first | exact ⟨k + 1, _, by omega, by go_num, HOA.out.below HBQ.out, HFINE.out, HBA.out.trans (HBQ.out.mono HBA.out.size)⟩ | ((repeat apply Exists.intro); exact ⟨⟨k + 1, _, by omega, by go_num, HOA.out.below HBQ.out, HFINE.out, HBA.out.trans (HBQ.out.mono HBA.out.size)⟩, rfl⟩)
          case measure => simp [intOf]; omega
    · obtain rfl : k = pl := by omega
      have k0 := (HBEL.out.cell (p := ⟨w.heap.size, 0, none⟩) hz2).trans K0.out
      have k1 := (HBEL.out.cell (p := ⟨w.heap.size, 1, none⟩) hz2).trans K1.out
      have k2 := (HBEL.out.cell (p := ⟨w.heap.size, 2, none⟩) hz2).trans K2.out
      have HQ := Lib.hid (HBK.out wr (HB2.out.trans (HBEL.out.mono HB2.out.size)))
      go_wp2_with fail
      refine HQ.out.mono ?_
      rintro e w5 ⟨v5, rfl, ho5, hb5⟩
      obtain ⟨A5, cap5, rfl, _⟩ := ho5.form
      rw [HN.out]
      clear ho5
      go_wp2
      go_ret
      exact ⟨rfl, HB2.out.trans ((HBEL.out.trans (hb5.mono HBEL.out.size)).mono HB2.out.size)⟩
end Go.Proofs.YtbneohglblkmeaaDoor
