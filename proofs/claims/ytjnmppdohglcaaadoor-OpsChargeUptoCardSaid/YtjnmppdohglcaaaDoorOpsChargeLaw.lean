/-
  The law OpsCharge: a charge that may be goes, whole, whoever bears it.
-/
import Derived.Test.YtjnmppdohglcaaaDoorGrG
import Derived.Test.YtjnmppdohglcaaaDoorOpsState
import Derived.Test.YtjnmppdohglcaaaDoorOpsChargePlain
import Derived.Test.YtjnmppdohglcaaaDoorGrD
import Derived.Test.YtjnmppdohglcaaaDoorGrC
import Derived.Test.YtjnmppdohglcaaaDoorGrA
import Derived.Deep.RegionHeld3
import Derived.IntWalk
import Derived.WalkSpells
namespace Go.Proofs.YtjnmppdohglcaaaDoor
open Go Go.RowKit
set_option linter.unusedVariables false

theorem acc_cells3 {w : World} {ad : Addr} {zs : List Ac} {k : Nat} {a : Ac} (h : RdA w (some ad) zs) (hk : zs[k]? = some a) :
    w.cell? (ad.add (k * 3)) = some (.int .i64 a.cur) ∧ w.cell? ⟨(ad.add (k * 3)).block, (ad.add (k * 3)).off + 1, none⟩ = some (.int .i64 a.bal) ∧ w.cell? ⟨(ad.add (k * 3)).block, (ad.add (k * 3)).off + 2, none⟩ = some (.int .i64 a.held) := by
  obtain ⟨ad', e, x0, x1, x2⟩ := h.at_ hk
  injection e with e
  subst e
  rw [add_next ad (k * 3) 1 (by omega)] at x1
  rw [add_next ad (k * 3) 2 (by omega)] at x2
  exact ⟨x0, x1, x2⟩

set_option maxRecDepth 100000 in
set_option maxHeartbeats 4000000 in
theorem opsCharge_core (w : World) (b : Value) (hb : BookAt w b) (a1 : Option Addr) (l1 c1 : Nat) (zs : List Pd) (hzl : zs.length = l1) (hr : RdS paids w a1 zs) (hfit : ∀ (j : Nat) z, zs[j]? = some z → z.fits) (hl : l1 ≤ 1900000) (kk : Nat) (hkk : kk < 256) (N : Nat) (hN : N < 256) (hh : HasErr w) :
    Calls Tryd.prog 4 #[b, .slice a1 l1 c1, .int .u8 (kk : Int), .int .u8 (N : Int)] w fun e w' => e = .returned (.bool true) ∧ Below w.heap.size w w' := by
  have HST := Lib.hid (fun W (hW : Below w.heap.size w W) => (state_any hb a1 l1 c1 zs hzl 0 (by omega) hl W hW (hr.below hW) hfit : Calls Tryd.prog 7 #[b, .slice a1 l1 c1, .int .u8 0] W _))
  have HAW := Lib.hid (fun W (hW : Below w.heap.size w W) => oawake_ok W (hh.below hW))
  have HH := Lib.hid hh
  obtain ⟨CA, HA, LA, cl, cc, hl', hc, ll, lc, cs, hs, ls, rfl, h1, h2, h3, h4, h5, h6, h7, h8, h9⟩ := hb.form
  unfold Sv.val Sv.cells at HST
  clear h1 h2 h3 h4 h5 h6 h7 h8 h9 hb hzl hr hfit hh
  go_enter Tryd.func4, Tryd.ntmps4
  go_wp2_with fail
  refine (HAW.out _ ((Below.refl w.heap.size w).alloc (Nat.le_refl _) (.cells #[.slice CA cl cc, .slice HA hl' hc, .slice LA ll lc] 25))).mono ?_
  rintro _ wa ⟨rfl, hba⟩
  have HBk := Lib.hid ((Blk.new w 25 #[.slice CA cl cc, .slice HA hl' hc, .slice LA ll lc]).later hba)
  have HWA := Lib.hid (((Below.refl w.heap.size w).alloc (Nat.le_refl _) (.cells #[.slice CA cl cc, .slice HA hl' hc, .slice LA ll lc] 25)).trans (hba.mono (by simp)))
  clear hba HAW
  obtain ⟨b0, b1, b2⟩ := (show _ ∧ _ ∧ _ from ⟨HBk.out.cell 0 rfl, HBk.out.cell 1 rfl, HBk.out.cell 2 rfl⟩)
  go_wp2_with fail
  refine (HST.out _ HWA.out).mono ?_
  rintro _ w1 ⟨V, s, rfl, hv, hM, hb1⟩
  have B1 := Lib.hid (HWA.out.trans (hb1.mono HWA.out.size))
  have MD := Lib.hid hM
  obtain ⟨A1, n1, c1', P1, q1, d1, X1, x1, y1, Y1, u1, z1, t1⟩ := V
  have e1 := hv.n
  have e2 := hv.q
  dsimp only at hv e1 e2 ⊢
  rw [hM.len] at e1
  subst e1
  have hq1 : q1 ≤ l1 := by rw [← e2]; exact hM.pays
  have E2 := Lib.hid e2
  have V1 := Lib.hid hv
  clear e2 hv hb1 hM HST HWA HBk b0 b1 b2
  go_upto_region 4 with fail
  have hg : w.heap.size ≤ w1.heap.size := B1.out.size
  have al := (Below.refl w1.heap.size w1).alloc (Nat.le_refl _) (.cells #[.slice A1 15 c1', .slice P1 q1 d1, .slice X1 x1 y1, .slice Y1 u1 z1, .int .i64 t1] 36)
  have G1 := Lib.hid (Blk.new w1 36 #[.slice A1 15 c1', .slice P1 q1 d1, .slice X1 x1 y1, .slice Y1 u1 z1, .int .i64 t1])
  have W1 := Lib.hid (V1.out.below al)
  have B2 := Lib.hid (B1.out.trans (al.mono B1.out.size))
  clear al V1 B1
  generalize w1.alloc (.cells #[.slice A1 15 c1', .slice P1 q1 d1, .slice X1 x1 y1, .slice Y1 u1 z1, .int .i64 t1] 36) = w2 at G1 W1 B2 ⊢
  generalize w1.heap.size = g at G1 hg ⊢
  have a1 := G1.out.cell 1 rfl
  by_cases hq0 : q1 = 0
  · have qz := eqT (show (q1 : Int) = 0 by omega)
    go_wp2
    go_ret
    exact ⟨rfl, B2.out⟩
  · have qz := eqF (show ¬ (q1 : Int) = 0 by omega)
    obtain ⟨i, hi⟩ : ∃ i : Nat, kk % q1 = i := ⟨_, rfl⟩
    have hiq : i < q1 := by rw [← hi]; exact Nat.mod_lt _ (by omega)
    have him : (kk : Int).tmod (q1 : Int) = (i : Int) := by rw [Int.tmod_eq_emod_of_nonneg (by omega), ← hi]; exact (Int.natCast_emod kk q1).symm
    have hqz : ¬ (q1 : Int) = 0 := by omega
    obtain ⟨p, hp⟩ : ∃ p, s.pys[i]? = some p := ⟨_, List.getElem?_eq_getElem (by rw [E2.out]; exact hiq)⟩
    obtain ⟨pa, hpa, hat⟩ := W1.out.st.pays.at_ hp
    dsimp only at hpa
    subst hpa
    obtain ⟨p0, p1, p2, p3, p4, p5, p6, p7⟩ := pay_cells hat
    have HP := Lib.hid hp
    have HGV := Lib.hid (fun W => gave_any p W)
    have HGO := Lib.hid (fun (h1 : 1 + (N : Int) ≤ gaveP p) h2 => charge_goes MD.out hp (n := 1 + (N : Int)) (by omega) h1 h2)
    have HGI := Lib.hid (fun he => charge_gives MD.out.ok hp (n := 1 + (N : Int)) (by omega) he)
    have HPY := Lib.hid (MD.out.ok.pays p (List.mem_of_getElem? hp))
    obtain ⟨GV, hGV⟩ : ∃ x, gaveP p = x := ⟨_, rfl⟩
    rw [hGV] at HGV HGO
    have HDO := Lib.hid (fun W (h : SvAt W ⟨A1, 15, c1', some pa, q1, d1, X1, x1, y1, Y1, u1, z1, t1⟩ s) (hW : Below w.heap.size w W) => sv_do _ s ⟨0, 7, i, 0, 1 + (N : Int), 0, 0⟩ W h (HH.out.below hW) MD.out.ok.right MD.out.ok.few)
    obtain ⟨pf, pd, pau, pcp, prf, pcg, ptl, pst⟩ := p
    unfold IntRes Py.val at HGV
    unfold Rq.val Sv.val Sv.cells at HDO
    dsimp only at p0 p1 p2 p3 p4 p5 p6 p7 HGV HDO HGO HGI HPY
    clear hp hat hGV hi
    go_upto_region 8 with fail
    have hgg : g < w2.heap.size := G1.out.lt
    have G3 := Lib.hid (G1.out.more (.cells #[.int .i64 pf, .int .i64 pd, .int .i64 pau, .int .i64 pcp, .int .i64 prf, .int .i64 pcg, .int .i64 ptl, .int .i64 pst] 47))
    have V3 := Lib.hid (W1.out.alloc (.cells #[.int .i64 pf, .int .i64 pd, .int .i64 pau, .int .i64 pcp, .int .i64 prf, .int .i64 pcg, .int .i64 ptl, .int .i64 pst] 47))
    have B3 := Lib.hid (B2.out.alloc B2.out.size (.cells #[.int .i64 pf, .int .i64 pd, .int .i64 pau, .int .i64 pcp, .int .i64 prf, .int .i64 pcg, .int .i64 ptl, .int .i64 pst] 47))
    have Q3 := Lib.hid (Blk.new w2 47 #[.int .i64 pf, .int .i64 pd, .int .i64 pau, .int .i64 pcp, .int .i64 prf, .int .i64 pcg, .int .i64 ptl, .int .i64 pst])
    clear p0 p1 p2 p3 p4 p5 p6 p7 a1 G1 W1 B2
    generalize w2.alloc (.cells #[.int .i64 pf, .int .i64 pd, .int .i64 pau, .int .i64 pcp, .int .i64 prf, .int .i64 pcg, .int .i64 ptl, .int .i64 pst] 47) = w3 at G3 V3 B3 Q3 ⊢
    generalize w2.heap.size = gp at Q3 hgg ⊢
    obtain ⟨a0, a1, a2, a3, a4⟩ := (show _ ∧ _ ∧ _ ∧ _ ∧ _ from ⟨G3.out.cell 0 rfl, G3.out.cell 1 rfl, G3.out.cell 2 rfl, G3.out.cell 3 rfl, G3.out.cell 4 rfl⟩)
    go_wp2_with fail
    refine (HDO.out _ V3.out B3.out).mono ?_
    rintro _ w4 ⟨V, rfl, hv, hb4⟩
    obtain ⟨A4, n4, c4, P4, q4, d4, X4, x4, y4, Y4, u4, z4, t4⟩ := V
    dsimp only at hv ⊢
    have V4 := Lib.hid hv
    have G4 := Lib.hid (G3.out.later hb4)
    have U4 := Lib.hid (V3.out.below hb4)
    have Q4 := Lib.hid (Q3.out.later hb4)
    have B4 := Lib.hid (B3.out.trans (hb4.mono B3.out.size))
    clear hv hb4 a0 a1 a2 a3 a4 G3 V3 B3 Q3 HDO
    obtain ⟨E, hE⟩ : ∃ x, opE s ⟨0, 7, i, 0, 1 + (N : Int), 0, 0⟩ = x := ⟨_, rfl⟩
    obtain ⟨I, hI⟩ : ∃ x, opI s ⟨0, 7, i, 0, 1 + (N : Int), 0, 0⟩ = x := ⟨_, rfl⟩
    have HE := Lib.hid hE
    rw [hE, hI]
    clear hE hI
    go_upto_region 9 with fail
    have hgt : g ≠ w4.heap.size := by have := G4.out.lt; omega
    have L5 := (((Below.refl w4.heap.size w4).alloc (Nat.le_refl _) (.cells #[.slice A4 n4 c4, .slice P4 q4 d4, .slice X4 x4 y4, .slice Y4 u4 z4, .int .i64 t4] 36)).alloc (by simp) (.cells #[.int .i64 E, .int .i64 I] 40))
    have q2 := Blk.new (w4.alloc (.cells #[.slice A4 n4 c4, .slice P4 q4 d4, .slice X4 x4 y4, .slice Y4 u4 z4, .int .i64 t4] 36)) 40 #[.int .i64 E, .int .i64 I]
    rw [alloc_size] at q2
    have R5 := Lib.hid q2
    have T5 := Lib.hid ((Blk.new w4 36 #[.slice A4 n4 c4, .slice P4 q4 d4, .slice X4 x4 y4, .slice Y4 u4 z4, .int .i64 t4]).more (.cells #[.int .i64 E, .int .i64 I] 40))
    have V5 := Lib.hid (V4.out.below L5)
    have G5 := Lib.hid (G4.out.later L5)
    have U5 := Lib.hid (U4.out.below L5)
    have Q5 := Lib.hid (Q4.out.later L5)
    have B5 := Lib.hid (B4.out.trans (L5.mono B4.out.size))
    clear q2 L5 V4 G4 U4 Q4 B4
    generalize (w4.alloc (.cells #[.slice A4 n4 c4, .slice P4 q4 d4, .slice X4 x4 y4, .slice Y4 u4 z4, .int .i64 t4] 36)).alloc (.cells #[.int .i64 E, .int .i64 I] 40) = w5 at R5 T5 V5 G5 U5 Q5 B5 ⊢
    generalize w4.heap.size = gt at R5 T5 hgt ⊢
    obtain ⟨y1', h2, h3, y4', y5'⟩ := HPY.out
    unfold isC at h2 h3
    rw [MD.out.len] at h2 h3
    obtain ⟨f, hf⟩ : ∃ f : Nat, pf = (f : Int) := ⟨pf.toNat, by omega⟩
    obtain ⟨t, ht⟩ : ∃ t : Nat, pd = (t : Int) := ⟨pd.toNat, by omega⟩
    subst hf ht
    have hf15 : f < 15 := by omega
    have ht15 : t < 15 := by omega
    have hf15i : (f : Int) < 15 := by omega
    have ht15i : (t : Int) < 15 := by omega
    clear h2 h3 y1' y4' y5'
    obtain ⟨aa, haa⟩ : ∃ a, s.acs[f]? = some a := ⟨_, List.getElem?_eq_getElem (by rw [MD.out.len]; exact hf15)⟩
    obtain ⟨ab, hab⟩ : ∃ a, s.acs[t]? = some a := ⟨_, List.getElem?_eq_getElem (by rw [MD.out.len]; exact ht15)⟩
    obtain ⟨ad, had, _⟩ := U5.out.st.accs.at_ haa
    dsimp only at had
    subst had
    have HAA := Lib.hid haa
    have HAB := Lib.hid hab
    have r0 := R5.out.cell 0 rfl
    have hw1 : IntKind.i64.wrap (N : Int) = (N : Int) := by rw [IntKind.wrap_i64]; omega
    have hw2 : IntKind.i64.wrap (1 + (N : Int)) = 1 + (N : Int) := by rw [IntKind.wrap_i64]; omega
    by_cases hE0 : E = 0
    · have qe := eqT hE0
      obtain ⟨f', t', a', b', e1, e2, g1, g2, g3, ⟨g4, g5⟩, g6, g6', g7, g8, g9⟩ := HGI.out (HE.out.trans hE0)
      obtain rfl : f = f' := by omega
      obtain rfl : t = t' := by omega
      rw [haa] at g1
      injection g1 with g1
      subst g1
      have ok1 := V5.out.n
      have ok2 := V5.out.q
      dsimp only at ok1 ok2
      have hn4 : f < n4 := by rw [← ok1]; exact (List.getElem?_eq_some_iff.1 g2).1
      have ht4 : t < n4 := by rw [← ok1]; exact (List.getElem?_eq_some_iff.1 g3).1
      have hi4 : i < q4 := by rw [← ok2]; exact (List.getElem?_eq_some_iff.1 g7).1
      obtain ⟨ad4, had4, _⟩ := V5.out.st.accs.at_ g2
      dsimp only at had4
      subst had4
      obtain ⟨pa4, hpa4, _⟩ := V5.out.st.pays.at_ g7
      dsimp only at hpa4
      subst hpa4
      have H2 := Lib.hid g2
      have H3 := Lib.hid g3
      have H7 := Lib.hid g7
      have HFR := Lib.hid (fun W => free_any b' W)
      unfold isMay at g6 g6'
      rw [w64 (x := b'.bal - b'.held) (by omega) (by omega)] at HFR
      have hfr : 0 ≤ b'.bal - b'.held := by omega
      obtain ⟨FR, hFR⟩ : ∃ x, b'.bal - b'.held = x := ⟨_, rfl⟩
      rw [hFR] at HFR hfr
      have qf := decide_eq_true hfr
      have hba : aa.bal + (1 + (N : Int)) = aa.bal + 1 + (N : Int) := by omega
      have hbc : pcg + (1 + (N : Int)) = pcg + 1 + (N : Int) := by omega
      have hmb := (right_at MD.out.ok.right haa).2.1
      unfold isMay at hmb
      have hw3 : IntKind.i64.wrap (aa.bal + 1) = aa.bal + 1 := by rw [IntKind.wrap_i64]; omega
      have hw4 : IntKind.i64.wrap (aa.bal + 1 + (N : Int)) = aa.bal + 1 + (N : Int) := by rw [IntKind.wrap_i64]; omega
      have hmc := HPY.out.1
      unfold Py.right backOk at hmc
      dsimp only at hmc
      have hw5 : IntKind.i64.wrap (pcg + 1) = pcg + 1 := by rw [IntKind.wrap_i64]; omega
      have hw6 : IntKind.i64.wrap (pcg + 1 + (N : Int)) = pcg + 1 + (N : Int) := by rw [IntKind.wrap_i64]; omega
      clear hmb hmc
      have HBA := Lib.hid hba
      have HBC := Lib.hid hbc
      clear ok1 ok2 g2 g3 g7 haa hab hFR hba hbc hE0 e1 e2 g4 g5
      go_upto_region 11 with fail
      clear r0
      refine wp_region_held_drew (S := fun w' => Below w5.heap.size w5 w') (by kernel_rfl) (Below.refl _ _).drew (fun hHeld => ?_)
      refine take_at 0 75 (v := ?_) rfl rfl (by kernel_rfl) (by kernel_rfl) (by kernel_rfl) (fun _ _ _ h => h) (Or.inl ⟨by rfl, ?_⟩) (by assumption) ?_
      rotate_left
      · intro w' hSw
        go_simp
        (try with_reducible rfl)
      (try simp only [Act.put]); (try simp only [List.setIfInBounds_toArray]); (try simp only [List.set_cons_succ]); (try simp only [List.set_cons_zero])
      refine take_at 1 76 (v := ?_) rfl rfl (by kernel_rfl) (by kernel_rfl) (by kernel_rfl) (fun _ _ _ h => h) (Or.inl ⟨by rfl, ?_⟩) (by assumption) ?_
      rotate_left
      · intro w' hSw
        have hSw' := hSw
        (try dsimp only at hSw')
        obtain ⟨t0, t1, t2, t3, t4⟩ := (show _ ∧ _ ∧ _ ∧ _ ∧ _ from ⟨(T5.out.later hSw').cell 0 rfl, (T5.out.later hSw').cell 1 rfl, (T5.out.later hSw').cell 2 rfl, (T5.out.later hSw').cell 3 rfl, (T5.out.later hSw').cell 4 rfl⟩)
        go_simp
        (try with_reducible rfl)
      (try simp only [Act.put]); (try simp only [List.setIfInBounds_toArray]); (try simp only [List.set_cons_succ]); (try simp only [List.set_cons_zero])
      refine take_at 2 77 (v := ?_) rfl rfl (by kernel_rfl) (by kernel_rfl) (by kernel_rfl) (fun _ _ _ h => h) (Or.inl ⟨by rfl, ?_⟩) (by assumption) ?_
      rotate_left
      · intro w' hSw
        go_simp
        (try with_reducible rfl)
      (try simp only [Act.put]); (try simp only [List.setIfInBounds_toArray]); (try simp only [List.set_cons_succ]); (try simp only [List.set_cons_zero])
      refine take_at 3 78 (v := ?_) rfl rfl (by kernel_rfl) (by kernel_rfl) (by kernel_rfl) (fun _ _ _ h => h) (Or.inl ⟨by rfl, ?_⟩) (by assumption) ?_
      rotate_left
      · intro w' hSw
        have hSw' := hSw
        (try dsimp only at hSw')
        obtain ⟨m0, m1, m2, m3, m4, m5, m6, m7⟩ := (show _ ∧ _ ∧ _ ∧ _ ∧ _ ∧ _ ∧ _ ∧ _ from ⟨(Q5.out.later hSw').cell 0 rfl, (Q5.out.later hSw').cell 1 rfl, (Q5.out.later hSw').cell 2 rfl, (Q5.out.later hSw').cell 3 rfl, (Q5.out.later hSw').cell 4 rfl, (Q5.out.later hSw').cell 5 rfl, (Q5.out.later hSw').cell 6 rfl, (Q5.out.later hSw').cell 7 rfl⟩)
        go_simp
        (try with_reducible rfl)
      (try simp only [Act.put]); (try simp only [List.setIfInBounds_toArray]); (try simp only [List.set_cons_succ]); (try simp only [List.set_cons_zero])
      refine take_at 4 79 (v := ?_) rfl rfl (by kernel_rfl) (by kernel_rfl) (by kernel_rfl) (fun _ _ _ h => h) (Or.inl ⟨by rfl, ?_⟩) (by assumption) ?_
      rotate_left
      · intro w' hSw
        go_simp
        (try with_reducible rfl)
      (try simp only [Act.put]); (try simp only [List.setIfInBounds_toArray]); (try simp only [List.set_cons_succ]); (try simp only [List.set_cons_zero])
      refine take_at 5 80 (v := ?_) rfl rfl (by kernel_rfl) (by kernel_rfl) (by kernel_rfl) (fun _ _ _ h => h) (Or.inl ⟨by rfl, ?_⟩) (by assumption) ?_
      rotate_left
      · intro w' hSw
        go_simp
        (try with_reducible rfl)
      (try simp only [Act.put]); (try simp only [List.setIfInBounds_toArray]); (try simp only [List.set_cons_succ]); (try simp only [List.set_cons_zero])
      refine take_at 6 81 (v := ?_) rfl rfl (by kernel_rfl) (by kernel_rfl) (by kernel_rfl) (fun _ _ _ h => h) (Or.inl ⟨by rfl, ?_⟩) (by assumption) ?_
      rotate_left
      · intro w' hSw
        have hSw' := hSw
        (try dsimp only at hSw')
        obtain ⟨z0, z1, z2⟩ := acc_cells3 (V5.out.below hSw').st.accs H2.out
        dsimp only at z0 z1 z2
        rw [HBA.out] at z1
        go_simp
        (try with_reducible rfl)
      (try simp only [Act.put]); (try simp only [List.setIfInBounds_toArray]); (try simp only [List.set_cons_succ]); (try simp only [List.set_cons_zero])
      refine take_at 7 82 (v := ?_) rfl rfl (by kernel_rfl) (by kernel_rfl) (by kernel_rfl) (fun _ _ _ h => h) (Or.inl ⟨by rfl, ?_⟩) (by assumption) ?_
      rotate_left
      · intro w' hSw
        go_simp
        (try with_reducible rfl)
      (try simp only [Act.put]); (try simp only [List.setIfInBounds_toArray]); (try simp only [List.set_cons_succ]); (try simp only [List.set_cons_zero])
      refine take_at 8 83 (v := ?_) rfl rfl (by kernel_rfl) (by kernel_rfl) (by kernel_rfl) (fun _ _ _ h => h) (Or.inl ⟨by rfl, ?_⟩) (by assumption) ?_
      rotate_left
      · intro w' hSw
        have hSw' := hSw
        (try dsimp only at hSw')
        obtain ⟨s0, s1, s2, s3, s4⟩ := (show _ ∧ _ ∧ _ ∧ _ ∧ _ from ⟨(G5.out.later hSw').cell 0 rfl, (G5.out.later hSw').cell 1 rfl, (G5.out.later hSw').cell 2 rfl, (G5.out.later hSw').cell 3 rfl, (G5.out.later hSw').cell 4 rfl⟩)
        go_simp
        (try with_reducible rfl)
      (try simp only [Act.put]); (try simp only [List.setIfInBounds_toArray]); (try simp only [List.set_cons_succ]); (try simp only [List.set_cons_zero])
      refine take_at 9 84 (v := ?_) rfl rfl (by kernel_rfl) (by kernel_rfl) (by kernel_rfl) (fun _ _ _ h => h) (Or.inl ⟨by rfl, ?_⟩) (by assumption) ?_
      rotate_left
      · intro w' hSw
        go_simp
        (try with_reducible rfl)
      (try simp only [Act.put]); (try simp only [List.setIfInBounds_toArray]); (try simp only [List.set_cons_succ]); (try simp only [List.set_cons_zero])
      refine take_at 10 85 (v := ?_) rfl rfl (by kernel_rfl) (by kernel_rfl) (by kernel_rfl) (fun _ _ _ h => h) (Or.inl ⟨by rfl, ?_⟩) (by assumption) ?_
      rotate_left
      · intro w' hSw
        have hSw' := hSw
        (try dsimp only at hSw')
        obtain ⟨m0, m1, m2, m3, m4, m5, m6, m7⟩ := (show _ ∧ _ ∧ _ ∧ _ ∧ _ ∧ _ ∧ _ ∧ _ from ⟨(Q5.out.later hSw').cell 0 rfl, (Q5.out.later hSw').cell 1 rfl, (Q5.out.later hSw').cell 2 rfl, (Q5.out.later hSw').cell 3 rfl, (Q5.out.later hSw').cell 4 rfl, (Q5.out.later hSw').cell 5 rfl, (Q5.out.later hSw').cell 6 rfl, (Q5.out.later hSw').cell 7 rfl⟩)
        go_simp
        (try with_reducible rfl)
      (try simp only [Act.put]); (try simp only [List.setIfInBounds_toArray]); (try simp only [List.set_cons_succ]); (try simp only [List.set_cons_zero])
      refine take_at 11 86 (v := ?_) rfl rfl (by kernel_rfl) (by kernel_rfl) (by kernel_rfl) (fun _ _ _ h => h) (Or.inl ⟨by rfl, ?_⟩) (by assumption) ?_
      rotate_left
      · intro w' hSw
        go_simp
        (try with_reducible rfl)
      (try simp only [Act.put]); (try simp only [List.setIfInBounds_toArray]); (try simp only [List.set_cons_succ]); (try simp only [List.set_cons_zero])
      refine take_at 12 87 (v := ?_) rfl rfl (by kernel_rfl) (by kernel_rfl) (by kernel_rfl) (fun _ _ _ h => h) (Or.inl ⟨by rfl, ?_⟩) (by assumption) ?_
      rotate_left
      · intro w' hSw
        go_simp
        (try with_reducible rfl)
      (try simp only [Act.put]); (try simp only [List.setIfInBounds_toArray]); (try simp only [List.set_cons_succ]); (try simp only [List.set_cons_zero])
      refine take_at 13 88 (v := ?_) rfl rfl (by kernel_rfl) (by kernel_rfl) (by kernel_rfl) (fun _ _ _ h => h) (Or.inl ⟨by rfl, ?_⟩) (by assumption) ?_
      rotate_left
      · intro w' hSw
        have hSw' := hSw
        (try dsimp only at hSw')
        obtain ⟨z0, z1, z2⟩ := acc_cells3 (U5.out.below hSw').st.accs HAA.out
        go_simp
        (try with_reducible rfl)
      (try simp only [Act.put]); (try simp only [List.setIfInBounds_toArray]); (try simp only [List.set_cons_succ]); (try simp only [List.set_cons_zero])
      refine take_at 14 89 (v := ?_) rfl rfl (by kernel_rfl) (by kernel_rfl) (by kernel_rfl) (fun _ _ _ h => h) (Or.inl ⟨by rfl, ?_⟩) (by assumption) ?_
      rotate_left
      · intro w' hSw
        go_simp
        (try with_reducible rfl)
      (try simp only [Act.put]); (try simp only [List.setIfInBounds_toArray]); (try simp only [List.set_cons_succ]); (try simp only [List.set_cons_zero])
      refine take_at 15 90 (v := ?_) rfl rfl (by kernel_rfl) (by kernel_rfl) (by kernel_rfl) (fun _ _ _ h => h) (Or.inl ⟨by rfl, ?_⟩) (by assumption) ?_
      rotate_left
      · intro w' hSw
        go_simp
        (try with_reducible rfl)
      (try simp only [Act.put]); (try simp only [List.setIfInBounds_toArray]); (try simp only [List.set_cons_succ]); (try simp only [List.set_cons_zero])
      refine take_at 16 91 (v := ?_) rfl rfl (by kernel_rfl) (by kernel_rfl) (by kernel_rfl) (fun _ _ _ h => h) (Or.inl ⟨by rfl, ?_⟩) (by assumption) ?_
      rotate_left
      · intro w' hSw
        go_simp
        (try with_reducible rfl)
      (try simp only [Act.put]); (try simp only [List.setIfInBounds_toArray]); (try simp only [List.set_cons_succ]); (try simp only [List.set_cons_zero])
      refine take_at 17 92 (v := ?_) rfl rfl (by kernel_rfl) (by kernel_rfl) (by kernel_rfl) (fun _ _ _ h => h) (Or.inl ⟨by rfl, ?_⟩) (by assumption) ?_
      rotate_left
      · intro w' hSw
        go_simp
        (try with_reducible rfl)
      (try simp only [Act.put]); (try simp only [List.setIfInBounds_toArray]); (try simp only [List.set_cons_succ]); (try simp only [List.set_cons_zero])
      refine take_at 18 93 (v := ?_) rfl rfl (by kernel_rfl) (by kernel_rfl) (by kernel_rfl) (fun _ _ _ h => h) (Or.inl ⟨by rfl, ?_⟩) (by assumption) ?_
      rotate_left
      · intro w' hSw
        go_simp
        (try with_reducible rfl)
      (try simp only [Act.put]); (try simp only [List.setIfInBounds_toArray]); (try simp only [List.set_cons_succ]); (try simp only [List.set_cons_zero])
      refine take_at 19 94 (v := ?_) rfl rfl (by kernel_rfl) (by kernel_rfl) (by kernel_rfl) (fun _ _ _ h => h) (Or.inl ⟨by rfl, ?_⟩) (by assumption) ?_
      rotate_left
      · intro w' hSw
        go_simp
        (try with_reducible rfl)
      (try simp only [Act.put]); (try simp only [List.setIfInBounds_toArray]); (try simp only [List.set_cons_succ]); (try simp only [List.set_cons_zero])
      refine take_at 20 95 (v := ?_) rfl rfl (by kernel_rfl) (by kernel_rfl) (by kernel_rfl) (fun _ _ _ h => h) (Or.inl ⟨by rfl, ?_⟩) (by assumption) ?_
      rotate_left
      · intro w' hSw
        go_simp
        (try with_reducible rfl)
      (try simp only [Act.put]); (try simp only [List.setIfInBounds_toArray]); (try simp only [List.set_cons_succ]); (try simp only [List.set_cons_zero])
      refine take_at 21 96 (v := ?_) rfl rfl (by kernel_rfl) (by kernel_rfl) (by kernel_rfl) (fun _ _ _ h => h) (Or.inl ⟨by rfl, ?_⟩) (by assumption) ?_
      rotate_left
      · intro w' hSw
        have hSw' := hSw
        (try dsimp only at hSw')
        obtain ⟨t0, t1, t2, t3, t4⟩ := (show _ ∧ _ ∧ _ ∧ _ ∧ _ from ⟨(T5.out.later hSw').cell 0 rfl, (T5.out.later hSw').cell 1 rfl, (T5.out.later hSw').cell 2 rfl, (T5.out.later hSw').cell 3 rfl, (T5.out.later hSw').cell 4 rfl⟩)
        go_simp
        (try with_reducible rfl)
      (try simp only [Act.put]); (try simp only [List.setIfInBounds_toArray]); (try simp only [List.set_cons_succ]); (try simp only [List.set_cons_zero])
      refine take_at 22 97 (v := ?_) rfl rfl (by kernel_rfl) (by kernel_rfl) (by kernel_rfl) (fun _ _ _ h => h) (Or.inl ⟨by rfl, ?_⟩) (by assumption) ?_
      rotate_left
      · intro w' hSw
        go_simp
        (try with_reducible rfl)
      (try simp only [Act.put]); (try simp only [List.setIfInBounds_toArray]); (try simp only [List.set_cons_succ]); (try simp only [List.set_cons_zero])
      refine take_at 23 98 (v := ?_) rfl rfl (by kernel_rfl) (by kernel_rfl) (by kernel_rfl) (fun _ _ _ h => h) (Or.inl ⟨by rfl, ?_⟩) (by assumption) ?_
      rotate_left
      · intro w' hSw
        have hSw' := hSw
        (try dsimp only at hSw')
        obtain ⟨m0, m1, m2, m3, m4, m5, m6, m7⟩ := (show _ ∧ _ ∧ _ ∧ _ ∧ _ ∧ _ ∧ _ ∧ _ from ⟨(Q5.out.later hSw').cell 0 rfl, (Q5.out.later hSw').cell 1 rfl, (Q5.out.later hSw').cell 2 rfl, (Q5.out.later hSw').cell 3 rfl, (Q5.out.later hSw').cell 4 rfl, (Q5.out.later hSw').cell 5 rfl, (Q5.out.later hSw').cell 6 rfl, (Q5.out.later hSw').cell 7 rfl⟩)
        go_simp
        (try with_reducible rfl)
      (try simp only [Act.put]); (try simp only [List.setIfInBounds_toArray]); (try simp only [List.set_cons_succ]); (try simp only [List.set_cons_zero])
      refine take_at 24 99 (v := ?_) rfl rfl (by kernel_rfl) (by kernel_rfl) (by kernel_rfl) (fun _ _ _ h => h) (Or.inl ⟨by rfl, ?_⟩) (by assumption) ?_
      rotate_left
      · intro w' hSw
        go_simp
        (try with_reducible rfl)
      (try simp only [Act.put]); (try simp only [List.setIfInBounds_toArray]); (try simp only [List.set_cons_succ]); (try simp only [List.set_cons_zero])
      refine take_at 25 100 (v := ?_) rfl rfl (by kernel_rfl) (by kernel_rfl) (by kernel_rfl) (fun _ _ _ h => h) (Or.inl ⟨by rfl, ?_⟩) (by assumption) ?_
      rotate_left
      · intro w' hSw
        have hSw' := hSw
        (try dsimp only at hSw')
        obtain ⟨z0, z1, z2⟩ := acc_cells3 (V5.out.below hSw').st.accs H3.out
        go_simp
        (try with_reducible rfl)
      (try simp only [Act.put]); (try simp only [List.setIfInBounds_toArray]); (try simp only [List.set_cons_succ]); (try simp only [List.set_cons_zero])
      refine wpAnyH_ready (rs := [26]) (by kernel_rfl) (by simp) ?_
      refine AllReadyH.cons (i := 26) rfl (fun K hK => ?_) AllReadyH.nil
      go_simp
      go_at_call 12
      refine (HFR.out _).mono ?_
      rintro _ w6 ⟨rfl, hb6⟩
      have hb6' : Below w5.heap.size w5 w6 := (Below.refl w5.heap.size w5).drew.trans hb6
      clear hb6
      refine hK.out _ _ hb6' (fun hHeld => ?_)
      clear hK K
      (try simp only [Act.put]); (try simp only [List.setIfInBounds_toArray]); (try simp only [List.set_cons_succ]); (try simp only [List.set_cons_zero])
      refine take_at 27 102 (v := ?_) rfl rfl (by kernel_rfl) (by kernel_rfl) (by kernel_rfl) (fun _ _ _ h => h) (Or.inl ⟨by rfl, ?_⟩) (by assumption) ?_
      rotate_left
      · intro w' hSw
        go_simp
        (try with_reducible rfl)
      (try simp only [Act.put]); (try simp only [List.setIfInBounds_toArray]); (try simp only [List.set_cons_succ]); (try simp only [List.set_cons_zero])
      refine take_at 28 103 (v := ?_) rfl rfl (by kernel_rfl) (by kernel_rfl) (by kernel_rfl) (fun _ _ _ h => h) (Or.inl ⟨by rfl, ?_⟩) (by assumption) ?_
      rotate_left
      · intro w' hSw
        go_simp
        (try with_reducible rfl)
      (try simp only [Act.put]); (try simp only [List.setIfInBounds_toArray]); (try simp only [List.set_cons_succ]); (try simp only [List.set_cons_zero])
      refine take_at 29 104 (v := ?_) rfl rfl (by kernel_rfl) (by kernel_rfl) (by kernel_rfl) (fun _ _ _ h => h) (Or.inl ⟨by rfl, ?_⟩) (by assumption) ?_
      rotate_left
      · intro w' hSw
        go_simp
        (try with_reducible rfl)
      (try simp only [Act.put]); (try simp only [List.setIfInBounds_toArray]); (try simp only [List.set_cons_succ]); (try simp only [List.set_cons_zero])
      refine take_at 30 105 (v := ?_) rfl rfl (by kernel_rfl) (by kernel_rfl) (by kernel_rfl) (fun _ _ _ h => h) (Or.inl ⟨by rfl, ?_⟩) (by assumption) ?_
      rotate_left
      · intro w' hSw
        go_simp
        (try with_reducible rfl)
      (try simp only [Act.put]); (try simp only [List.setIfInBounds_toArray]); (try simp only [List.set_cons_succ]); (try simp only [List.set_cons_zero])
      refine take_at 31 106 (v := ?_) rfl rfl (by kernel_rfl) (by kernel_rfl) (by kernel_rfl) (fun _ _ _ h => h) (Or.inl ⟨by rfl, ?_⟩) (by assumption) ?_
      rotate_left
      · intro w' hSw
        have hSw' := hSw
        (try dsimp only at hSw')
        obtain ⟨t0, t1, t2, t3, t4⟩ := (show _ ∧ _ ∧ _ ∧ _ ∧ _ from ⟨(T5.out.later hSw').cell 0 rfl, (T5.out.later hSw').cell 1 rfl, (T5.out.later hSw').cell 2 rfl, (T5.out.later hSw').cell 3 rfl, (T5.out.later hSw').cell 4 rfl⟩)
        go_simp
        (try with_reducible rfl)
      (try simp only [Act.put]); (try simp only [List.setIfInBounds_toArray]); (try simp only [List.set_cons_succ]); (try simp only [List.set_cons_zero])
      refine take_at 32 107 (v := ?_) rfl rfl (by kernel_rfl) (by kernel_rfl) (by kernel_rfl) (fun _ _ _ h => h) (Or.inl ⟨by rfl, ?_⟩) (by assumption) ?_
      rotate_left
      · intro w' hSw
        go_simp
        (try with_reducible rfl)
      (try simp only [Act.put]); (try simp only [List.setIfInBounds_toArray]); (try simp only [List.set_cons_succ]); (try simp only [List.set_cons_zero])
      refine take_at 33 108 (v := ?_) rfl rfl (by kernel_rfl) (by kernel_rfl) (by kernel_rfl) (fun _ _ _ h => h) (Or.inl ⟨by rfl, ?_⟩) (by assumption) ?_
      rotate_left
      · intro w' hSw
        go_simp
        (try with_reducible rfl)
      (try simp only [Act.put]); (try simp only [List.setIfInBounds_toArray]); (try simp only [List.set_cons_succ]); (try simp only [List.set_cons_zero])
      refine take_at 34 109 (v := ?_) rfl rfl (by kernel_rfl) (by kernel_rfl) (by kernel_rfl) (fun _ _ _ h => h) (Or.inl ⟨by rfl, ?_⟩) (by assumption) ?_
      rotate_left
      · intro w' hSw
        go_simp
        (try with_reducible rfl)
      (try simp only [Act.put]); (try simp only [List.setIfInBounds_toArray]); (try simp only [List.set_cons_succ]); (try simp only [List.set_cons_zero])
      refine take_at 35 110 (v := ?_) rfl rfl (by kernel_rfl) (by kernel_rfl) (by kernel_rfl) (fun _ _ _ h => h) (Or.inl ⟨by rfl, ?_⟩) (by assumption) ?_
      rotate_left
      · intro w' hSw
        have hSw' := hSw
        (try dsimp only at hSw')
        obtain ⟨pq, hpq, hatq⟩ := (V5.out.below hSw').st.pays.at_ H7.out
        dsimp only at hpq
        injection hpq with hpq
        subst hpq
        obtain ⟨z0, z1, z2, z3, z4, z5, z6, z7⟩ := pay_cells hatq
        dsimp only at z5
        rw [HBC.out] at z5
        go_simp
        (try with_reducible rfl)
      (try simp only [Act.put]); (try simp only [List.setIfInBounds_toArray]); (try simp only [List.set_cons_succ]); (try simp only [List.set_cons_zero])
      refine take_at 36 111 (v := ?_) rfl rfl (by kernel_rfl) (by kernel_rfl) (by kernel_rfl) (fun _ _ _ h => h) (Or.inl ⟨by rfl, ?_⟩) (by assumption) ?_
      rotate_left
      · intro w' hSw
        go_simp
        (try with_reducible rfl)
      (try simp only [Act.put]); (try simp only [List.setIfInBounds_toArray]); (try simp only [List.set_cons_succ]); (try simp only [List.set_cons_zero])
      refine take_at 37 112 (v := ?_) rfl rfl (by kernel_rfl) (by kernel_rfl) (by kernel_rfl) (fun _ _ _ h => h) (Or.inl ⟨by rfl, ?_⟩) (by assumption) ?_
      rotate_left
      · intro w' hSw
        have hSw' := hSw
        (try dsimp only at hSw')
        obtain ⟨m0, m1, m2, m3, m4, m5, m6, m7⟩ := (show _ ∧ _ ∧ _ ∧ _ ∧ _ ∧ _ ∧ _ ∧ _ from ⟨(Q5.out.later hSw').cell 0 rfl, (Q5.out.later hSw').cell 1 rfl, (Q5.out.later hSw').cell 2 rfl, (Q5.out.later hSw').cell 3 rfl, (Q5.out.later hSw').cell 4 rfl, (Q5.out.later hSw').cell 5 rfl, (Q5.out.later hSw').cell 6 rfl, (Q5.out.later hSw').cell 7 rfl⟩)
        go_simp
        (try with_reducible rfl)
      (try simp only [Act.put]); (try simp only [List.setIfInBounds_toArray]); (try simp only [List.set_cons_succ]); (try simp only [List.set_cons_zero])
      refine take_at 38 113 (v := ?_) rfl rfl (by kernel_rfl) (by kernel_rfl) (by kernel_rfl) (fun _ _ _ h => h) (Or.inl ⟨by rfl, ?_⟩) (by assumption) ?_
      rotate_left
      · intro w' hSw
        go_simp
        (try with_reducible rfl)
      (try simp only [Act.put]); (try simp only [List.setIfInBounds_toArray]); (try simp only [List.set_cons_succ]); (try simp only [List.set_cons_zero])
      refine take_at 39 114 (v := ?_) rfl rfl (by kernel_rfl) (by kernel_rfl) (by kernel_rfl) (fun _ _ _ h => h) (Or.inl ⟨by rfl, ?_⟩) (by assumption) ?_
      rotate_left
      · intro w' hSw
        go_simp
        (try with_reducible rfl)
      (try simp only [Act.put]); (try simp only [List.setIfInBounds_toArray]); (try simp only [List.set_cons_succ]); (try simp only [List.set_cons_zero])
      refine take_at 40 115 (v := ?_) rfl rfl (by kernel_rfl) (by kernel_rfl) (by kernel_rfl) (fun _ _ _ h => h) (Or.inl ⟨by rfl, ?_⟩) (by assumption) ?_
      rotate_left
      · intro w' hSw
        go_simp
        (try with_reducible rfl)
      (try simp only [Act.put]); (try simp only [List.setIfInBounds_toArray]); (try simp only [List.set_cons_succ]); (try simp only [List.set_cons_zero])
      refine take_at 41 116 (v := ?_) rfl rfl (by kernel_rfl) (by kernel_rfl) (by kernel_rfl) (fun _ _ _ h => h) (Or.inl ⟨by rfl, ?_⟩) (by assumption) ?_
      rotate_left
      · intro w' hSw
        go_simp
        (try with_reducible rfl)
      (try simp only [Act.put]); (try simp only [List.setIfInBounds_toArray]); (try simp only [List.set_cons_succ]); (try simp only [List.set_cons_zero])
      refine take_at 42 117 (v := ?_) rfl rfl (by kernel_rfl) (by kernel_rfl) (by kernel_rfl) (fun _ _ _ h => h) (Or.inl ⟨by rfl, ?_⟩) (by assumption) ?_
      rotate_left
      · intro w' hSw
        go_simp
        (try with_reducible rfl)
      (try simp only [Act.put]); (try simp only [List.setIfInBounds_toArray]); (try simp only [List.set_cons_succ]); (try simp only [List.set_cons_zero])
      refine take_at 43 118 (v := ?_) rfl rfl (by kernel_rfl) (by kernel_rfl) (by kernel_rfl) (fun _ _ _ h => h) (Or.inl ⟨by rfl, ?_⟩) (by assumption) ?_
      rotate_left
      · intro w' hSw
        go_simp
        (try with_reducible rfl)
      (try simp only [Act.put]); (try simp only [List.setIfInBounds_toArray]); (try simp only [List.set_cons_succ]); (try simp only [List.set_cons_zero])
      refine take_at 44 8 (v := ?_) rfl rfl (by kernel_rfl) (by kernel_rfl) (by kernel_rfl) (fun _ _ _ h => h) (Or.inl ⟨by rfl, ?_⟩) (by assumption) ?_
      rotate_left
      · intro w' hSw
        go_simp
        (try with_reducible rfl)
      (try simp only [Act.put]); (try simp only [List.setIfInBounds_toArray]); (try simp only [List.set_cons_succ]); (try simp only [List.set_cons_zero])
      refine wpAnyH_done (by kernel_rfl) ?_ _
      go_wp2
      go_ret
      exact ⟨rfl, B5.out.trans (hb6'.mono B5.out.size)⟩
    · have qe := eqF hE0
      have hSS : opS s ⟨0, 7, i, 0, 1 + (N : Int), 0, 0⟩ = s := opS_no (by rw [HE.out]; exact hE0)
      rw [hSS] at V5
      have HSM := Lib.hid (fun W (h : Below w5.heap.size w5 W) => sv_same _ _ s W (U5.out.below h) (V5.out.below h) (by rw [MD.out.len]; omega) MD.out.ok.few)
      unfold Sv.val Sv.cells at HSM
      dsimp only at HSM
      have hcf := curOf_at haa
      have hct := curOf_at hab
      have HBAD := Lib.hid (show 1 + (N : Int) ≤ GV → aa.cur ≠ ab.cur from fun h1 h2 => hE0 (HE.out.symm.trans (HGO.out h1 (by rw [hcf, hct]; exact h2))))
      clear hSS haa hab hcf hct hE0
      go_upto_region 10 with fail
      clear r0
      by_cases hG : GV < 1 + (N : Int)
      · have qg := decide_eq_true hG
        refine wp_region_held_drew (S := fun w' => Below w5.heap.size w5 w') (by kernel_rfl) (Below.refl _ _).drew (fun hHeld => ?_)
        refine take_at 0 47 (v := ?_) rfl rfl (by kernel_rfl) (by kernel_rfl) (by kernel_rfl) (fun _ _ _ h => h) (Or.inl ⟨by rfl, ?_⟩) (by assumption) ?_
        rotate_left
        · intro w' hSw
          have hSw' := hSw
          (try dsimp only at hSw')
          obtain ⟨s0, s1, s2, s3, s4⟩ := (show _ ∧ _ ∧ _ ∧ _ ∧ _ from ⟨(G5.out.later hSw').cell 0 rfl, (G5.out.later hSw').cell 1 rfl, (G5.out.later hSw').cell 2 rfl, (G5.out.later hSw').cell 3 rfl, (G5.out.later hSw').cell 4 rfl⟩)
          go_simp
          (try with_reducible rfl)
        (try simp only [Act.put]); (try simp only [List.setIfInBounds_toArray]); (try simp only [List.set_cons_succ]); (try simp only [List.set_cons_zero])
        refine take_at 1 48 (v := ?_) rfl rfl (by kernel_rfl) (by kernel_rfl) (by kernel_rfl) (fun _ _ _ h => h) (Or.inl ⟨by rfl, ?_⟩) (by assumption) ?_
        rotate_left
        · intro w' hSw
          have hSw' := hSw
          (try dsimp only at hSw')
          obtain ⟨t0, t1, t2, t3, t4⟩ := (show _ ∧ _ ∧ _ ∧ _ ∧ _ from ⟨(T5.out.later hSw').cell 0 rfl, (T5.out.later hSw').cell 1 rfl, (T5.out.later hSw').cell 2 rfl, (T5.out.later hSw').cell 3 rfl, (T5.out.later hSw').cell 4 rfl⟩)
          go_simp
          (try with_reducible rfl)
        (try simp only [Act.put]); (try simp only [List.setIfInBounds_toArray]); (try simp only [List.set_cons_succ]); (try simp only [List.set_cons_zero])
        refine wpAnyH_ready (rs := [2]) (by kernel_rfl) (by simp) ?_
        refine AllReadyH.cons (i := 2) rfl (fun K hK => ?_) AllReadyH.nil
        go_simp
        go_at_call 10
        refine (HSM.out _ (Below.refl w5.heap.size w5).drew).mono ?_
        rintro _ w6 ⟨rfl, hb6⟩
        have hb6' : Below w5.heap.size w5 w6 := (Below.refl w5.heap.size w5).drew.trans hb6
        clear hb6
        refine hK.out _ _ hb6' (fun hHeld => ?_)
        clear hK K
        (try simp only [Act.put]); (try simp only [List.setIfInBounds_toArray]); (try simp only [List.set_cons_succ]); (try simp only [List.set_cons_zero])
        refine take_at 3 50 (v := ?_) rfl rfl (by kernel_rfl) (by kernel_rfl) (by kernel_rfl) (fun _ _ _ h => h) (Or.inl ⟨by rfl, ?_⟩) (by assumption) ?_
        rotate_left
        · intro w' hSw
          go_simp
          (try with_reducible rfl)
        (try simp only [Act.put]); (try simp only [List.setIfInBounds_toArray]); (try simp only [List.set_cons_succ]); (try simp only [List.set_cons_zero])
        refine take_at 4 51 (v := ?_) rfl rfl (by kernel_rfl) (by kernel_rfl) (by kernel_rfl) (fun _ _ _ h => h) (Or.inl ⟨by rfl, ?_⟩) (by assumption) ?_
        rotate_left
        · intro w' hSw
          go_simp
          (try with_reducible rfl)
        (try simp only [Act.put]); (try simp only [List.setIfInBounds_toArray]); (try simp only [List.set_cons_succ]); (try simp only [List.set_cons_zero])
        refine take_at 5 52 (v := ?_) rfl rfl (by kernel_rfl) (by kernel_rfl) (by kernel_rfl) (fun _ _ _ h => h) (Or.inl ⟨by rfl, ?_⟩) (by assumption) ?_
        rotate_left
        · intro w' hSw
          go_simp
          (try with_reducible rfl)
        (try simp only [Act.put]); (try simp only [List.setIfInBounds_toArray]); (try simp only [List.set_cons_succ]); (try simp only [List.set_cons_zero])
        refine take_at 6 53 (v := ?_) rfl rfl (by kernel_rfl) (by kernel_rfl) (by kernel_rfl) (fun _ _ _ h => h) (Or.inl ⟨by rfl, ?_⟩) (by assumption) ?_
        rotate_left
        · intro w' hSw
          go_simp
          (try with_reducible rfl)
        (try simp only [Act.put]); (try simp only [List.setIfInBounds_toArray]); (try simp only [List.set_cons_succ]); (try simp only [List.set_cons_zero])
        refine take_at 7 54 (v := ?_) rfl rfl (by kernel_rfl) (by kernel_rfl) (by kernel_rfl) (fun _ _ _ h => h) (Or.inl ⟨by rfl, ?_⟩) (by assumption) ?_
        rotate_left
        · intro w' hSw
          have hSw' := hSw
          (try dsimp only at hSw')
          obtain ⟨m0, m1, m2, m3, m4, m5, m6, m7⟩ := (show _ ∧ _ ∧ _ ∧ _ ∧ _ ∧ _ ∧ _ ∧ _ from ⟨(Q5.out.later hSw').cell 0 rfl, (Q5.out.later hSw').cell 1 rfl, (Q5.out.later hSw').cell 2 rfl, (Q5.out.later hSw').cell 3 rfl, (Q5.out.later hSw').cell 4 rfl, (Q5.out.later hSw').cell 5 rfl, (Q5.out.later hSw').cell 6 rfl, (Q5.out.later hSw').cell 7 rfl⟩)
          go_simp
          (try with_reducible rfl)
        (try simp only [Act.put]); (try simp only [List.setIfInBounds_toArray]); (try simp only [List.set_cons_succ]); (try simp only [List.set_cons_zero])
        refine wpAnyH_ready (rs := [8]) (by kernel_rfl) (by simp) ?_
        refine AllReadyH.cons (i := 8) rfl (fun K hK => ?_) AllReadyH.nil
        go_simp
        go_at_call 11
        refine (HGV.out _).mono ?_
        rintro _ w7 ⟨rfl, hb7⟩
        have hb7' : Below w5.heap.size w5 w7 := hb6'.trans (hb7.mono hb6'.size)
        clear hb7
        refine hK.out _ _ hb7' (fun hHeld => ?_)
        clear hK K
        (try simp only [Act.put]); (try simp only [List.setIfInBounds_toArray]); (try simp only [List.set_cons_succ]); (try simp only [List.set_cons_zero])
        refine take_at 9 56 (v := ?_) rfl rfl (by kernel_rfl) (by kernel_rfl) (by kernel_rfl) (fun _ _ _ h => h) (Or.inl ⟨by rfl, ?_⟩) (by assumption) ?_
        rotate_left
        · intro w' hSw
          go_simp
          (try with_reducible rfl)
        (try simp only [Act.put]); (try simp only [List.setIfInBounds_toArray]); (try simp only [List.set_cons_succ]); (try simp only [List.set_cons_zero])
        refine take_at 10 57 (v := ?_) rfl rfl (by kernel_rfl) (by kernel_rfl) (by kernel_rfl) (fun _ _ _ h => h) (Or.inl ⟨by rfl, ?_⟩) (by assumption) ?_
        rotate_left
        · intro w' hSw
          go_simp
          (try with_reducible rfl)
        (try simp only [Act.put]); (try simp only [List.setIfInBounds_toArray]); (try simp only [List.set_cons_succ]); (try simp only [List.set_cons_zero])
        refine take_at 11 58 (v := undef) rfl rfl (by kernel_rfl) (by kernel_rfl) (by kernel_rfl) (fun _ _ _ h => h) (Or.inr ⟨by rfl, rfl⟩) (by assumption) ?_
        (try simp only [Act.put]); (try simp only [List.setIfInBounds_toArray]); (try simp only [List.set_cons_succ]); (try simp only [List.set_cons_zero])
        refine take_at 12 59 (v := undef) rfl rfl (by kernel_rfl) (by kernel_rfl) (by kernel_rfl) (fun _ _ _ h => h) (Or.inr ⟨by rfl, rfl⟩) (by assumption) ?_
        (try simp only [Act.put]); (try simp only [List.setIfInBounds_toArray]); (try simp only [List.set_cons_succ]); (try simp only [List.set_cons_zero])
        refine take_at 13 60 (v := undef) rfl rfl (by kernel_rfl) (by kernel_rfl) (by kernel_rfl) (fun _ _ _ h => h) (Or.inr ⟨by rfl, rfl⟩) (by assumption) ?_
        (try simp only [Act.put]); (try simp only [List.setIfInBounds_toArray]); (try simp only [List.set_cons_succ]); (try simp only [List.set_cons_zero])
        refine take_at 14 61 (v := undef) rfl rfl (by kernel_rfl) (by kernel_rfl) (by kernel_rfl) (fun _ _ _ h => h) (Or.inr ⟨by rfl, rfl⟩) (by assumption) ?_
        (try simp only [Act.put]); (try simp only [List.setIfInBounds_toArray]); (try simp only [List.set_cons_succ]); (try simp only [List.set_cons_zero])
        refine take_at 15 62 (v := undef) rfl rfl (by kernel_rfl) (by kernel_rfl) (by kernel_rfl) (fun _ _ _ h => h) (Or.inr ⟨by rfl, rfl⟩) (by assumption) ?_
        (try simp only [Act.put]); (try simp only [List.setIfInBounds_toArray]); (try simp only [List.set_cons_succ]); (try simp only [List.set_cons_zero])
        refine take_at 16 63 (v := undef) rfl rfl (by kernel_rfl) (by kernel_rfl) (by kernel_rfl) (fun _ _ _ h => h) (Or.inr ⟨by rfl, rfl⟩) (by assumption) ?_
        (try simp only [Act.put]); (try simp only [List.setIfInBounds_toArray]); (try simp only [List.set_cons_succ]); (try simp only [List.set_cons_zero])
        refine take_at 17 64 (v := undef) rfl rfl (by kernel_rfl) (by kernel_rfl) (by kernel_rfl) (fun _ _ _ h => h) (Or.inr ⟨by rfl, rfl⟩) (by assumption) ?_
        (try simp only [Act.put]); (try simp only [List.setIfInBounds_toArray]); (try simp only [List.set_cons_succ]); (try simp only [List.set_cons_zero])
        refine take_at 18 65 (v := undef) rfl rfl (by kernel_rfl) (by kernel_rfl) (by kernel_rfl) (fun _ _ _ h => h) (Or.inr ⟨by rfl, rfl⟩) (by assumption) ?_
        (try simp only [Act.put]); (try simp only [List.setIfInBounds_toArray]); (try simp only [List.set_cons_succ]); (try simp only [List.set_cons_zero])
        refine take_at 19 66 (v := undef) rfl rfl (by kernel_rfl) (by kernel_rfl) (by kernel_rfl) (fun _ _ _ h => h) (Or.inr ⟨by rfl, rfl⟩) (by assumption) ?_
        (try simp only [Act.put]); (try simp only [List.setIfInBounds_toArray]); (try simp only [List.set_cons_succ]); (try simp only [List.set_cons_zero])
        refine take_at 20 67 (v := undef) rfl rfl (by kernel_rfl) (by kernel_rfl) (by kernel_rfl) (fun _ _ _ h => h) (Or.inr ⟨by rfl, rfl⟩) (by assumption) ?_
        (try simp only [Act.put]); (try simp only [List.setIfInBounds_toArray]); (try simp only [List.set_cons_succ]); (try simp only [List.set_cons_zero])
        refine take_at 21 68 (v := undef) rfl rfl (by kernel_rfl) (by kernel_rfl) (by kernel_rfl) (fun _ _ _ h => h) (Or.inr ⟨by rfl, rfl⟩) (by assumption) ?_
        (try simp only [Act.put]); (try simp only [List.setIfInBounds_toArray]); (try simp only [List.set_cons_succ]); (try simp only [List.set_cons_zero])
        refine take_at 22 69 (v := undef) rfl rfl (by kernel_rfl) (by kernel_rfl) (by kernel_rfl) (fun _ _ _ h => h) (Or.inr ⟨by rfl, rfl⟩) (by assumption) ?_
        (try simp only [Act.put]); (try simp only [List.setIfInBounds_toArray]); (try simp only [List.set_cons_succ]); (try simp only [List.set_cons_zero])
        refine take_at 23 70 (v := undef) rfl rfl (by kernel_rfl) (by kernel_rfl) (by kernel_rfl) (fun _ _ _ h => h) (Or.inr ⟨by rfl, rfl⟩) (by assumption) ?_
        (try simp only [Act.put]); (try simp only [List.setIfInBounds_toArray]); (try simp only [List.set_cons_succ]); (try simp only [List.set_cons_zero])
        refine take_at 24 71 (v := undef) rfl rfl (by kernel_rfl) (by kernel_rfl) (by kernel_rfl) (fun _ _ _ h => h) (Or.inr ⟨by rfl, rfl⟩) (by assumption) ?_
        (try simp only [Act.put]); (try simp only [List.setIfInBounds_toArray]); (try simp only [List.set_cons_succ]); (try simp only [List.set_cons_zero])
        refine take_at 25 72 (v := undef) rfl rfl (by kernel_rfl) (by kernel_rfl) (by kernel_rfl) (fun _ _ _ h => h) (Or.inr ⟨by rfl, rfl⟩) (by assumption) ?_
        (try simp only [Act.put]); (try simp only [List.setIfInBounds_toArray]); (try simp only [List.set_cons_succ]); (try simp only [List.set_cons_zero])
        refine take_at 26 73 (v := ?_) rfl rfl (by kernel_rfl) (by kernel_rfl) (by kernel_rfl) (fun _ _ _ h => h) (Or.inl ⟨by rfl, ?_⟩) (by assumption) ?_
        rotate_left
        · intro w' hSw
          go_simp
          (try with_reducible rfl)
        (try simp only [Act.put]); (try simp only [List.setIfInBounds_toArray]); (try simp only [List.set_cons_succ]); (try simp only [List.set_cons_zero])
        refine take_at 27 74 (v := ?_) rfl rfl (by kernel_rfl) (by kernel_rfl) (by kernel_rfl) (fun _ _ _ h => h) (Or.inl ⟨by rfl, ?_⟩) (by assumption) ?_
        rotate_left
        · intro w' hSw
          go_simp
          (try with_reducible rfl)
        (try simp only [Act.put]); (try simp only [List.setIfInBounds_toArray]); (try simp only [List.set_cons_succ]); (try simp only [List.set_cons_zero])
        refine take_at 28 8 (v := ?_) rfl rfl (by kernel_rfl) (by kernel_rfl) (by kernel_rfl) (fun _ _ _ h => h) (Or.inl ⟨by rfl, ?_⟩) (by assumption) ?_
        rotate_left
        · intro w' hSw
          go_simp
          (try with_reducible rfl)
        (try simp only [Act.put]); (try simp only [List.setIfInBounds_toArray]); (try simp only [List.set_cons_succ]); (try simp only [List.set_cons_zero])
        refine wpAnyH_done (by kernel_rfl) ?_ _
        go_wp2
        go_ret
        exact ⟨rfl, B5.out.trans (hb7'.mono B5.out.size)⟩
      · have qg := decide_eq_false hG
        have qc := eqF (HBAD.out (by omega))
        have qn : (aa.cur != ab.cur) = true := by rw [bne, qc]; rfl
        refine wp_region_held_drew (S := fun w' => Below w5.heap.size w5 w') (by kernel_rfl) (Below.refl _ _).drew (fun hHeld => ?_)
        refine take_at 0 47 (v := ?_) rfl rfl (by kernel_rfl) (by kernel_rfl) (by kernel_rfl) (fun _ _ _ h => h) (Or.inl ⟨by rfl, ?_⟩) (by assumption) ?_
        rotate_left
        · intro w' hSw
          have hSw' := hSw
          (try dsimp only at hSw')
          obtain ⟨s0, s1, s2, s3, s4⟩ := (show _ ∧ _ ∧ _ ∧ _ ∧ _ from ⟨(G5.out.later hSw').cell 0 rfl, (G5.out.later hSw').cell 1 rfl, (G5.out.later hSw').cell 2 rfl, (G5.out.later hSw').cell 3 rfl, (G5.out.later hSw').cell 4 rfl⟩)
          go_simp
          (try with_reducible rfl)
        (try simp only [Act.put]); (try simp only [List.setIfInBounds_toArray]); (try simp only [List.set_cons_succ]); (try simp only [List.set_cons_zero])
        refine take_at 1 48 (v := ?_) rfl rfl (by kernel_rfl) (by kernel_rfl) (by kernel_rfl) (fun _ _ _ h => h) (Or.inl ⟨by rfl, ?_⟩) (by assumption) ?_
        rotate_left
        · intro w' hSw
          have hSw' := hSw
          (try dsimp only at hSw')
          obtain ⟨t0, t1, t2, t3, t4⟩ := (show _ ∧ _ ∧ _ ∧ _ ∧ _ from ⟨(T5.out.later hSw').cell 0 rfl, (T5.out.later hSw').cell 1 rfl, (T5.out.later hSw').cell 2 rfl, (T5.out.later hSw').cell 3 rfl, (T5.out.later hSw').cell 4 rfl⟩)
          go_simp
          (try with_reducible rfl)
        (try simp only [Act.put]); (try simp only [List.setIfInBounds_toArray]); (try simp only [List.set_cons_succ]); (try simp only [List.set_cons_zero])
        refine wpAnyH_ready (rs := [2]) (by kernel_rfl) (by simp) ?_
        refine AllReadyH.cons (i := 2) rfl (fun K hK => ?_) AllReadyH.nil
        go_simp
        go_at_call 10
        refine (HSM.out _ (Below.refl w5.heap.size w5).drew).mono ?_
        rintro _ w6 ⟨rfl, hb6⟩
        have hb6' : Below w5.heap.size w5 w6 := (Below.refl w5.heap.size w5).drew.trans hb6
        clear hb6
        refine hK.out _ _ hb6' (fun hHeld => ?_)
        clear hK K
        (try simp only [Act.put]); (try simp only [List.setIfInBounds_toArray]); (try simp only [List.set_cons_succ]); (try simp only [List.set_cons_zero])
        refine take_at 3 50 (v := ?_) rfl rfl (by kernel_rfl) (by kernel_rfl) (by kernel_rfl) (fun _ _ _ h => h) (Or.inl ⟨by rfl, ?_⟩) (by assumption) ?_
        rotate_left
        · intro w' hSw
          go_simp
          (try with_reducible rfl)
        (try simp only [Act.put]); (try simp only [List.setIfInBounds_toArray]); (try simp only [List.set_cons_succ]); (try simp only [List.set_cons_zero])
        refine take_at 4 51 (v := ?_) rfl rfl (by kernel_rfl) (by kernel_rfl) (by kernel_rfl) (fun _ _ _ h => h) (Or.inl ⟨by rfl, ?_⟩) (by assumption) ?_
        rotate_left
        · intro w' hSw
          go_simp
          (try with_reducible rfl)
        (try simp only [Act.put]); (try simp only [List.setIfInBounds_toArray]); (try simp only [List.set_cons_succ]); (try simp only [List.set_cons_zero])
        refine take_at 5 52 (v := ?_) rfl rfl (by kernel_rfl) (by kernel_rfl) (by kernel_rfl) (fun _ _ _ h => h) (Or.inl ⟨by rfl, ?_⟩) (by assumption) ?_
        rotate_left
        · intro w' hSw
          go_simp
          (try with_reducible rfl)
        (try simp only [Act.put]); (try simp only [List.setIfInBounds_toArray]); (try simp only [List.set_cons_succ]); (try simp only [List.set_cons_zero])
        refine take_at 6 53 (v := ?_) rfl rfl (by kernel_rfl) (by kernel_rfl) (by kernel_rfl) (fun _ _ _ h => h) (Or.inl ⟨by rfl, ?_⟩) (by assumption) ?_
        rotate_left
        · intro w' hSw
          go_simp
          (try with_reducible rfl)
        (try simp only [Act.put]); (try simp only [List.setIfInBounds_toArray]); (try simp only [List.set_cons_succ]); (try simp only [List.set_cons_zero])
        refine take_at 7 54 (v := ?_) rfl rfl (by kernel_rfl) (by kernel_rfl) (by kernel_rfl) (fun _ _ _ h => h) (Or.inl ⟨by rfl, ?_⟩) (by assumption) ?_
        rotate_left
        · intro w' hSw
          have hSw' := hSw
          (try dsimp only at hSw')
          obtain ⟨m0, m1, m2, m3, m4, m5, m6, m7⟩ := (show _ ∧ _ ∧ _ ∧ _ ∧ _ ∧ _ ∧ _ ∧ _ from ⟨(Q5.out.later hSw').cell 0 rfl, (Q5.out.later hSw').cell 1 rfl, (Q5.out.later hSw').cell 2 rfl, (Q5.out.later hSw').cell 3 rfl, (Q5.out.later hSw').cell 4 rfl, (Q5.out.later hSw').cell 5 rfl, (Q5.out.later hSw').cell 6 rfl, (Q5.out.later hSw').cell 7 rfl⟩)
          go_simp
          (try with_reducible rfl)
        (try simp only [Act.put]); (try simp only [List.setIfInBounds_toArray]); (try simp only [List.set_cons_succ]); (try simp only [List.set_cons_zero])
        refine wpAnyH_ready (rs := [8]) (by kernel_rfl) (by simp) ?_
        refine AllReadyH.cons (i := 8) rfl (fun K hK => ?_) AllReadyH.nil
        go_simp
        go_at_call 11
        refine (HGV.out _).mono ?_
        rintro _ w7 ⟨rfl, hb7⟩
        have hb7' : Below w5.heap.size w5 w7 := hb6'.trans (hb7.mono hb6'.size)
        clear hb7
        refine hK.out _ _ hb7' (fun hHeld => ?_)
        clear hK K
        (try simp only [Act.put]); (try simp only [List.setIfInBounds_toArray]); (try simp only [List.set_cons_succ]); (try simp only [List.set_cons_zero])
        refine take_at 9 56 (v := ?_) rfl rfl (by kernel_rfl) (by kernel_rfl) (by kernel_rfl) (fun _ _ _ h => h) (Or.inl ⟨by rfl, ?_⟩) (by assumption) ?_
        rotate_left
        · intro w' hSw
          go_simp
          (try with_reducible rfl)
        (try simp only [Act.put]); (try simp only [List.setIfInBounds_toArray]); (try simp only [List.set_cons_succ]); (try simp only [List.set_cons_zero])
        refine take_at 10 57 (v := ?_) rfl rfl (by kernel_rfl) (by kernel_rfl) (by kernel_rfl) (fun _ _ _ h => h) (Or.inl ⟨by rfl, ?_⟩) (by assumption) ?_
        rotate_left
        · intro w' hSw
          go_simp
          (try with_reducible rfl)
        (try simp only [Act.put]); (try simp only [List.setIfInBounds_toArray]); (try simp only [List.set_cons_succ]); (try simp only [List.set_cons_zero])
        refine take_at 11 58 (v := ?_) rfl rfl (by kernel_rfl) (by kernel_rfl) (by kernel_rfl) (fun _ _ _ h => h) (Or.inl ⟨by rfl, ?_⟩) (by assumption) ?_
        rotate_left
        · intro w' hSw
          go_simp
          (try with_reducible rfl)
        (try simp only [Act.put]); (try simp only [List.setIfInBounds_toArray]); (try simp only [List.set_cons_succ]); (try simp only [List.set_cons_zero])
        refine take_at 12 59 (v := ?_) rfl rfl (by kernel_rfl) (by kernel_rfl) (by kernel_rfl) (fun _ _ _ h => h) (Or.inl ⟨by rfl, ?_⟩) (by assumption) ?_
        rotate_left
        · intro w' hSw
          have hSw' := hSw
          (try dsimp only at hSw')
          obtain ⟨s0, s1, s2, s3, s4⟩ := (show _ ∧ _ ∧ _ ∧ _ ∧ _ from ⟨(G5.out.later hSw').cell 0 rfl, (G5.out.later hSw').cell 1 rfl, (G5.out.later hSw').cell 2 rfl, (G5.out.later hSw').cell 3 rfl, (G5.out.later hSw').cell 4 rfl⟩)
          go_simp
          (try with_reducible rfl)
        (try simp only [Act.put]); (try simp only [List.setIfInBounds_toArray]); (try simp only [List.set_cons_succ]); (try simp only [List.set_cons_zero])
        refine take_at 13 60 (v := ?_) rfl rfl (by kernel_rfl) (by kernel_rfl) (by kernel_rfl) (fun _ _ _ h => h) (Or.inl ⟨by rfl, ?_⟩) (by assumption) ?_
        rotate_left
        · intro w' hSw
          go_simp
          (try with_reducible rfl)
        (try simp only [Act.put]); (try simp only [List.setIfInBounds_toArray]); (try simp only [List.set_cons_succ]); (try simp only [List.set_cons_zero])
        refine take_at 14 61 (v := ?_) rfl rfl (by kernel_rfl) (by kernel_rfl) (by kernel_rfl) (fun _ _ _ h => h) (Or.inl ⟨by rfl, ?_⟩) (by assumption) ?_
        rotate_left
        · intro w' hSw
          have hSw' := hSw
          (try dsimp only at hSw')
          obtain ⟨m0, m1, m2, m3, m4, m5, m6, m7⟩ := (show _ ∧ _ ∧ _ ∧ _ ∧ _ ∧ _ ∧ _ ∧ _ from ⟨(Q5.out.later hSw').cell 0 rfl, (Q5.out.later hSw').cell 1 rfl, (Q5.out.later hSw').cell 2 rfl, (Q5.out.later hSw').cell 3 rfl, (Q5.out.later hSw').cell 4 rfl, (Q5.out.later hSw').cell 5 rfl, (Q5.out.later hSw').cell 6 rfl, (Q5.out.later hSw').cell 7 rfl⟩)
          go_simp
          (try with_reducible rfl)
        (try simp only [Act.put]); (try simp only [List.setIfInBounds_toArray]); (try simp only [List.set_cons_succ]); (try simp only [List.set_cons_zero])
        refine take_at 15 62 (v := ?_) rfl rfl (by kernel_rfl) (by kernel_rfl) (by kernel_rfl) (fun _ _ _ h => h) (Or.inl ⟨by rfl, ?_⟩) (by assumption) ?_
        rotate_left
        · intro w' hSw
          go_simp
          (try with_reducible rfl)
        (try simp only [Act.put]); (try simp only [List.setIfInBounds_toArray]); (try simp only [List.set_cons_succ]); (try simp only [List.set_cons_zero])
        refine take_at 16 63 (v := ?_) rfl rfl (by kernel_rfl) (by kernel_rfl) (by kernel_rfl) (fun _ _ _ h => h) (Or.inl ⟨by rfl, ?_⟩) (by assumption) ?_
        rotate_left
        · intro w' hSw
          go_simp
          (try with_reducible rfl)
        (try simp only [Act.put]); (try simp only [List.setIfInBounds_toArray]); (try simp only [List.set_cons_succ]); (try simp only [List.set_cons_zero])
        refine take_at 17 64 (v := ?_) rfl rfl (by kernel_rfl) (by kernel_rfl) (by kernel_rfl) (fun _ _ _ h => h) (Or.inl ⟨by rfl, ?_⟩) (by assumption) ?_
        rotate_left
        · intro w' hSw
          have hSw' := hSw
          (try dsimp only at hSw')
          obtain ⟨z0, z1, z2⟩ := acc_cells3 (U5.out.below hSw').st.accs HAA.out
          go_simp
          (try with_reducible rfl)
        (try simp only [Act.put]); (try simp only [List.setIfInBounds_toArray]); (try simp only [List.set_cons_succ]); (try simp only [List.set_cons_zero])
        refine take_at 18 65 (v := ?_) rfl rfl (by kernel_rfl) (by kernel_rfl) (by kernel_rfl) (fun _ _ _ h => h) (Or.inl ⟨by rfl, ?_⟩) (by assumption) ?_
        rotate_left
        · intro w' hSw
          go_simp
          (try with_reducible rfl)
        (try simp only [Act.put]); (try simp only [List.setIfInBounds_toArray]); (try simp only [List.set_cons_succ]); (try simp only [List.set_cons_zero])
        refine take_at 19 66 (v := ?_) rfl rfl (by kernel_rfl) (by kernel_rfl) (by kernel_rfl) (fun _ _ _ h => h) (Or.inl ⟨by rfl, ?_⟩) (by assumption) ?_
        rotate_left
        · intro w' hSw
          have hSw' := hSw
          (try dsimp only at hSw')
          obtain ⟨s0, s1, s2, s3, s4⟩ := (show _ ∧ _ ∧ _ ∧ _ ∧ _ from ⟨(G5.out.later hSw').cell 0 rfl, (G5.out.later hSw').cell 1 rfl, (G5.out.later hSw').cell 2 rfl, (G5.out.later hSw').cell 3 rfl, (G5.out.later hSw').cell 4 rfl⟩)
          go_simp
          (try with_reducible rfl)
        (try simp only [Act.put]); (try simp only [List.setIfInBounds_toArray]); (try simp only [List.set_cons_succ]); (try simp only [List.set_cons_zero])
        refine take_at 20 67 (v := ?_) rfl rfl (by kernel_rfl) (by kernel_rfl) (by kernel_rfl) (fun _ _ _ h => h) (Or.inl ⟨by rfl, ?_⟩) (by assumption) ?_
        rotate_left
        · intro w' hSw
          go_simp
          (try with_reducible rfl)
        (try simp only [Act.put]); (try simp only [List.setIfInBounds_toArray]); (try simp only [List.set_cons_succ]); (try simp only [List.set_cons_zero])
        refine take_at 21 68 (v := ?_) rfl rfl (by kernel_rfl) (by kernel_rfl) (by kernel_rfl) (fun _ _ _ h => h) (Or.inl ⟨by rfl, ?_⟩) (by assumption) ?_
        rotate_left
        · intro w' hSw
          have hSw' := hSw
          (try dsimp only at hSw')
          obtain ⟨m0, m1, m2, m3, m4, m5, m6, m7⟩ := (show _ ∧ _ ∧ _ ∧ _ ∧ _ ∧ _ ∧ _ ∧ _ from ⟨(Q5.out.later hSw').cell 0 rfl, (Q5.out.later hSw').cell 1 rfl, (Q5.out.later hSw').cell 2 rfl, (Q5.out.later hSw').cell 3 rfl, (Q5.out.later hSw').cell 4 rfl, (Q5.out.later hSw').cell 5 rfl, (Q5.out.later hSw').cell 6 rfl, (Q5.out.later hSw').cell 7 rfl⟩)
          go_simp
          (try with_reducible rfl)
        (try simp only [Act.put]); (try simp only [List.setIfInBounds_toArray]); (try simp only [List.set_cons_succ]); (try simp only [List.set_cons_zero])
        refine take_at 22 69 (v := ?_) rfl rfl (by kernel_rfl) (by kernel_rfl) (by kernel_rfl) (fun _ _ _ h => h) (Or.inl ⟨by rfl, ?_⟩) (by assumption) ?_
        rotate_left
        · intro w' hSw
          go_simp
          (try with_reducible rfl)
        (try simp only [Act.put]); (try simp only [List.setIfInBounds_toArray]); (try simp only [List.set_cons_succ]); (try simp only [List.set_cons_zero])
        refine take_at 23 70 (v := ?_) rfl rfl (by kernel_rfl) (by kernel_rfl) (by kernel_rfl) (fun _ _ _ h => h) (Or.inl ⟨by rfl, ?_⟩) (by assumption) ?_
        rotate_left
        · intro w' hSw
          go_simp
          (try with_reducible rfl)
        (try simp only [Act.put]); (try simp only [List.setIfInBounds_toArray]); (try simp only [List.set_cons_succ]); (try simp only [List.set_cons_zero])
        refine take_at 24 71 (v := ?_) rfl rfl (by kernel_rfl) (by kernel_rfl) (by kernel_rfl) (fun _ _ _ h => h) (Or.inl ⟨by rfl, ?_⟩) (by assumption) ?_
        rotate_left
        · intro w' hSw
          have hSw' := hSw
          (try dsimp only at hSw')
          obtain ⟨z0, z1, z2⟩ := acc_cells3 (U5.out.below hSw').st.accs HAB.out
          go_simp
          (try with_reducible rfl)
        (try simp only [Act.put]); (try simp only [List.setIfInBounds_toArray]); (try simp only [List.set_cons_succ]); (try simp only [List.set_cons_zero])
        refine take_at 25 72 (v := ?_) rfl rfl (by kernel_rfl) (by kernel_rfl) (by kernel_rfl) (fun _ _ _ h => h) (Or.inl ⟨by rfl, ?_⟩) (by assumption) ?_
        rotate_left
        · intro w' hSw
          go_simp
          (try with_reducible rfl)
        (try simp only [Act.put]); (try simp only [List.setIfInBounds_toArray]); (try simp only [List.set_cons_succ]); (try simp only [List.set_cons_zero])
        refine take_at 26 73 (v := ?_) rfl rfl (by kernel_rfl) (by kernel_rfl) (by kernel_rfl) (fun _ _ _ h => h) (Or.inl ⟨by rfl, ?_⟩) (by assumption) ?_
        rotate_left
        · intro w' hSw
          go_simp
          (try with_reducible rfl)
        (try simp only [Act.put]); (try simp only [List.setIfInBounds_toArray]); (try simp only [List.set_cons_succ]); (try simp only [List.set_cons_zero])
        refine take_at 27 74 (v := ?_) rfl rfl (by kernel_rfl) (by kernel_rfl) (by kernel_rfl) (fun _ _ _ h => h) (Or.inl ⟨by rfl, ?_⟩) (by assumption) ?_
        rotate_left
        · intro w' hSw
          go_simp
          (try with_reducible rfl)
        (try simp only [Act.put]); (try simp only [List.setIfInBounds_toArray]); (try simp only [List.set_cons_succ]); (try simp only [List.set_cons_zero])
        refine take_at 28 8 (v := ?_) rfl rfl (by kernel_rfl) (by kernel_rfl) (by kernel_rfl) (fun _ _ _ h => h) (Or.inl ⟨by rfl, ?_⟩) (by assumption) ?_
        rotate_left
        · intro w' hSw
          go_simp
          (try with_reducible rfl)
        (try simp only [Act.put]); (try simp only [List.setIfInBounds_toArray]); (try simp only [List.set_cons_succ]); (try simp only [List.set_cons_zero])
        refine wpAnyH_done (by kernel_rfl) ?_ _
        go_wp2
        go_ret
        exact ⟨rfl, B5.out.trans (hb7'.mono B5.out.size)⟩

theorem opsCharge_walk (w : World) (v0 : Value) (w0 : BookAt w v0) (a1 : Option Addr) (len1 cap1 : Nat) (w1 : IsRecs paids Pd.fits w a1 len1 cap1) (r1 : cap1 ≤ 1048576) (a2 : Int) (w2 : (Lit.int .u8 a2).wf = true) (a3 : Int) (w3 : (Lit.int .u8 a3).wf = true) (hh : HasErr w) :
    Calls Tryd.prog 4 #[v0, .slice a1 len1 cap1, .int .u8 a2, .int .u8 a3] w fun e w' => e = .returned (.bool true) ∧ Below w.heap.size w w' := by
  obtain ⟨zs, hl, hr, hf, hlc, _, _⟩ := recs_list w1
  obtain ⟨k, rfl, hk⟩ := u8_nat w2
  obtain ⟨N, rfl, hN⟩ := u8_nat w3
  exact opsCharge_core w v0 w0 a1 len1 cap1 zs hl hr hf (by omega) k hk N hN hh
end Go.Proofs.YtjnmppdohglcaaaDoor

