/-
  Held: what accounts hold is what open payments and sagas say: the law's own function, of a right state.
-/
import Derived.Test.YteifgmdaggiaaaaGreatDoorQOpsHeldWords
import Derived.Test.YteifgmdaggiaaaaGreatDoorQBankSt
import Derived.Test.YteifgmdaggiaaaaGreatDoorQGrL
import Derived.Test.YteifgmdaggiaaaaGreatDoorQGrJ
import Derived.LoopTactic
import Derived.RegionTactic
namespace Go.Proofs.YteifgmdaggiaaaaGreatDoor
open Go Go.RowKit
set_option linter.unusedVariables false
set_option maxRecDepth 100000 in
set_option maxHeartbeats 1000000 in
theorem eheld_any (V : Sv) (T : St) (sl : List Sg) (kl : List Kn) (w : World) (hV : SkAt w V T sl kl) (hok : OkS T sl) (hq : T.pys.length ≤ 1999900) (hxn : sl.length ≤ 16) (hn : T.acs.length ≤ 64) :
  Calls Tryz.prog 18 #[V.val] w fun e w' => e = .returned (.bool true) ∧ Below w.heap.size w w' := by
 obtain ⟨A, n, c, B, q, d, X, xn, xc, Y, yn, yc, t⟩ := V
 have e1 := hV.n
 have e3 := hV.xn
 have e2 := hV.q
 dsimp only at e1 e2 e3
 rw [e1] at hn
 rw [e2] at hq
 have E1 := Lib.hid e1
 have E2 := Lib.hid e2
 have E3 := Lib.hid e3
 rw [e3] at hxn
 have HOK := Lib.hid (show Ok ⟨T.acs, T.pys ++ sl.map asPay, T.now⟩ from hok)
 have HTP := Lib.hid (fun (j : Nat) (k : Nat) (h : j ≤ T.pys.length) => congrArg (hsum k) (show (T.pys ++ sl.map asPay).take j = T.pys.take j from List.take_append_of_le_length h))
 have V1 := Lib.hid (hV.alloc (.cells #[.slice A n c, .slice B q d, .slice X xn xc, .slice Y yn yc, .int .i64 t] 35))
 have G1 := Lib.hid (Blk.new w 35 #[.slice A n c, .slice B q d, .slice X xn xc, .slice Y yn yc, .int .i64 t])
 have L1 := Lib.hid ((Below.refl w.heap.size w).alloc (Nat.le_refl _) (.cells #[.slice A n c, .slice B q d, .slice X xn xc, .slice Y yn yc, .int .i64 t] 35))
 have hmk := fun W => run_make_words n (by omega) W
 unfold Sv.val Sv.cells
 dsimp only
 clear e1 e2 e3 hV hok
 go_enter Tryz.func18, Tryz.ntmps18
 go_upto_region 1 with fail
 generalize w.alloc (.cells #[.slice A n c, .slice B q d, .slice X xn xc, .slice Y yn yc, .int .i64 t] 35) = w1 at V1 G1 L1 ⊢
 have a0 := G1.out.cell 0 rfl
 go_upto_region 2 with fail
 have HLOW := Lib.hid (fun W (h : Below w1.heap.size w1 W) => And.intro (V1.out.below h) (And.intro (G1.out.later h) (L1.out.trans (h.mono L1.out.size))))
 have O2 := Lib.hid (own_words w1 n (by simp only [maxLen]; omega))
 have B2 := Lib.hid ((Below.refl w1.heap.size w1).alloc (Nat.le_refl _) (.cells (madeCells #[.int .i64 0] n) 3))
 clear a0 hmk G1 V1 L1
 generalize w1.alloc (.cells (madeCells #[.int .i64 0] n) 3) = w2 at O2 B2 ⊢
 generalize w1.heap.size = gs at HLOW O2 B2 ⊢
 have a1 := (HLOW.out _ B2.out).2.1.cell 1 rfl
 go_wp2
 go_loopw [17] (fun i wr => ∃ (j : Nat) (ys : List Int), j ≤ q ∧ i = .int .i64 (j : Int) ∧ Own 3 .i64 wr gs (.slice (some ⟨gs, 0, none⟩) n n) n ys ∧ (∀ k, k < n → ys.getD k 0 = hsum k (T.pys.take j)) ∧ Below gs w1 wr) (fun i _ => q - (intOf i).toNat)
 case atStart => exact ⟨0, List.replicate n 0, by omega, rfl, O2.out, (fun k hk => by simp [List.getD, hk, hsum]), B2.out⟩
 case round =>
  obtain ⟨j, ys, hj, rfl, hO, hY, hB⟩ := hrel
  have O3 := Lib.hid hO
  have Y3 := Lib.hid hY
  have B3 := Lib.hid hB
  clear hO hY hB a1 O2 B2
  by_cases hlj : j < q
  · obtain ⟨p, hp⟩ : ∃ p, T.pys[j]? = some p := ⟨_, List.getElem?_eq_getElem (by rw [E2.out]; exact hlj)⟩
    obtain ⟨pa, hpa, hat⟩ := (HLOW.out _ B3.out).1.pays.at_ hp
    dsimp only at hpa
    subst hpa
    obtain ⟨p0, p1, p2, p3, p4, p5, p6, p7⟩ := pay_cells hat
    have HTA := Lib.hid (fun k => hsum_take k hp)
    have hp' : (T.pys ++ sl.map asPay)[j]? = some p := by rw [List.getElem?_append_left (by rw [E2.out]; exact hlj)]; exact hp
    have HPA := Lib.hid (fun f (hf : f < n) => by have h := HOK.out.part hp' (f := f) (by dsimp only; rw [E1.out]; exact hf); dsimp only at h; rwa [HTP.out j f (by rw [E2.out]; omega)] at h)
    have HC := Lib.hid (HOK.out.pays p (List.mem_of_getElem? hp')).2.1
    dsimp only at HC
    rw [E1.out] at HC
    obtain ⟨pf, pd, pau, pcp, prf, pcg, ptl, pst⟩ := p
    dsimp only at p0 p1 p2 p3 p4 p5 p6 p7 HC
    clear hp hp' hat
    go_upto_region 5 with fail
    have hgp : gs < wr.heap.size := World.ownsRow.lt O3.out gs rfl |>.2
    have O4 := Lib.hid (O3.out.alloc (.cells #[.int .i64 pf, .int .i64 pd, .int .i64 pau, .int .i64 pcp, .int .i64 prf, .int .i64 pcg, .int .i64 ptl, .int .i64 pst] 96))
    have B4 := Lib.hid (B3.out.alloc (by omega) (.cells #[.int .i64 pf, .int .i64 pd, .int .i64 pau, .int .i64 pcp, .int .i64 prf, .int .i64 pcg, .int .i64 ptl, .int .i64 pst] 96))
    have Q4 := Lib.hid (Blk.new wr 96 #[.int .i64 pf, .int .i64 pd, .int .i64 pau, .int .i64 pcp, .int .i64 prf, .int .i64 pcg, .int .i64 ptl, .int .i64 pst])
    clear p0 p1 p2 p3 p4 p5 p6 p7 O3 B3
    generalize wr.alloc (.cells #[.int .i64 pf, .int .i64 pd, .int .i64 pau, .int .i64 pcp, .int .i64 prf, .int .i64 pcg, .int .i64 ptl, .int .i64 pst] 96) = w4 at O4 B4 Q4 ⊢
    generalize wr.heap.size = gp at Q4 hgp ⊢
    obtain ⟨p0, p2, p3, p7⟩ := (show _ ∧ _ ∧ _ ∧ _ from ⟨Q4.out.cell 0 rfl, Q4.out.cell 2 rfl, Q4.out.cell 3 rfl, Q4.out.cell 7 rfl⟩)
    by_cases hs0 : pst = 0
    · subst hs0
      obtain ⟨f, hf⟩ : ∃ f : Nat, pf = (f : Int) := ⟨pf.toNat, by have := HC.out; unfold isC at this; omega⟩
      subst hf
      have hfn : f < n := by have := HC.out; unfold isC at this; omega
      obtain ⟨g1, g2, g3⟩ := HPA.out f hfn
      obtain ⟨S, hS⟩ : ∃ S, hsum f (T.pys.take j) = S := ⟨_, rfl⟩
      have hpt : hpart f ⟨(f : Int), pd, pau, pcp, prf, pcg, ptl, 0⟩ = pau - pcp := by unfold hpart; rw [if_pos ⟨rfl, rfl⟩]
      rw [hS, hpt] at g3
      rw [hS] at g1
      rw [hpt] at g2
      have y0 : w4.cell? ⟨gs, f, none⟩ = some (.int .i64 S) := by
       have h := O4.out.cell hfn
       rw [Y3.out f hfn, hS] at h
       exact h
      have y1 := O4.out.unfrozen f
      have O5 := Lib.hid (O4.out.set f (S + (pau - pcp)))
      have B5 := Lib.hid (B4.out.setCell (p := ⟨gs, f, none⟩) (Nat.le_refl _) (.int .i64 (S + (pau - pcp))))
      have Y5 : Hid (∀ k, k < n → (ys.set f (S + (pau - pcp))).getD k 0 = hsum k (T.pys.take (j + 1))) := Lib.hid (fun k hk => by
        rw [HTA.out k]
        have hl := O4.out.len
        by_cases hkf : f = k
        · subst hkf
          rw [hpt, hS, List.getD_eq_getElem?_getD, List.getElem?_set_self (by omega)]
          rfl
        · rw [List.getD_eq_getElem?_getD, List.getElem?_set_ne hkf, ← List.getD_eq_getElem?_getD, Y3.out k hk]
          have e : hpart k ⟨(f : Int), pd, pau, pcp, prf, pcg, ptl, 0⟩ = 0 := by unfold hpart; rw [if_neg (by dsimp only; omega)]
          omega)
      clear hpt hS HPA HTA
      go_upto_region 6 with fail
      go_region
      go_wp2
      go_roundw
      · exact ⟨j + 1, _, by omega, rfl, O5.out.drew, Y5.out, B5.out.drew⟩
      · simp [intOf]; omega
    · have qs := eqF hs0
      have Y5 : Hid (∀ k, k < n → ys.getD k 0 = hsum k (T.pys.take (j + 1))) := Lib.hid (fun k hk => by
        rw [HTA.out k, Y3.out k hk]
        have e : hpart k ⟨pf, pd, pau, pcp, prf, pcg, ptl, pst⟩ = 0 := by unfold hpart; rw [if_neg (fun h => hs0 h.1)]
        omega)
      clear hs0 HPA HTA
      go_wp2
      go_roundw
      · exact ⟨j + 1, ys, by omega, rfl, O4.out, Y5.out, B4.out⟩
      · simp [intOf]; omega
  · have hjq : j = q := by omega
    have Y4 : Hid (∀ k, k < n → ys.getD k 0 = hsum k (T.pys ++ (sl.map asPay).take 0)) := Lib.hid (fun k hk => by
      rw [Y3.out k hk, hjq, ← E2.out, List.take_length, List.take_zero, List.append_nil])
    have a2 := (HLOW.out _ B3.out).2.1.cell 2 rfl
    clear Y3 hjq
    go_wp2
    go_loopw [40] (fun i wr => ∃ (m : Nat) (ys : List Int), m ≤ xn ∧ i = .int .i64 (m : Int) ∧ Own 3 .i64 wr gs (.slice (some ⟨gs, 0, none⟩) n n) n ys ∧ (∀ k, k < n → ys.getD k 0 = hsum k (T.pys ++ (sl.map asPay).take m)) ∧ Below gs w1 wr) (fun i _ => xn - (intOf i).toNat)
    case atStart => exact ⟨0, ys, by omega, rfl, O3.out, Y4.out, B3.out⟩
    case round =>
     obtain ⟨m, zs, hm, rfl, hO, hY, hB⟩ := hrel
     have OZ := Lib.hid hO
     have YZ := Lib.hid hY
     have BZ := Lib.hid hB
     clear hO hY hB a2 O3 B3 Y4
     by_cases hlm : m < xn
     · obtain ⟨g, hgm⟩ : ∃ g, sl[m]? = some g := ⟨_, List.getElem?_eq_getElem (by rw [E3.out]; exact hlm)⟩
       have hpm : (sl.map asPay)[m]? = some (asPay g) := by rw [List.getElem?_map, hgm]; rfl
       obtain ⟨pa, hpa, hat⟩ := (HLOW.out _ BZ.out).1.sag.at_ hgm
       dsimp only at hpa
       subst hpa
       obtain ⟨p0, p1, p2, p3, p4, p5, p6, p7, p8, p9, p10⟩ := sg_cells hat
       have hp' : (T.pys ++ sl.map asPay)[T.pys.length + m]? = some (asPay g) := by rw [List.getElem?_append_right (by omega), Nat.add_sub_cancel_left]; exact hpm
       have htk : (T.pys ++ sl.map asPay).take (T.pys.length + m) = T.pys ++ (sl.map asPay).take m := List.take_length_add_append ..
       have HPA := Lib.hid (fun f (hf : f < n) => by have h := HOK.out.part hp' (f := f) (by dsimp only; rw [E1.out]; exact hf); dsimp only at h; rwa [htk] at h)
       have HTA := Lib.hid (fun k => by have h := hsum_take k hp'; rwa [show T.pys.length + m + 1 = T.pys.length + (m + 1) by omega, htk, show (T.pys ++ sl.map asPay).take (T.pys.length + (m + 1)) = T.pys ++ (sl.map asPay).take (m + 1) from List.take_length_add_append ..] at h)
       have HC := Lib.hid (HOK.out.pays (asPay g) (List.mem_of_getElem? hp')).2.1
       dsimp only at HC
       rw [E1.out] at HC
       obtain ⟨⟨gk, go, ga, gb, gm, gl, gu⟩, gp, gg, gt, gy⟩ := g
       dsimp only at p0 p1 p2 p3 p4 p5 p6 p7 p8 p9 p10
       have hce : isC n ga := HC.out
       obtain ⟨f, hf⟩ : ∃ f : Nat, ga = (f : Int) := ⟨ga.toNat, by have := hce; unfold isC at this; omega⟩
       subst hf
       have hfn : f < n := by have := hce; unfold isC at this; omega
       obtain ⟨g1, g2, g3⟩ := HPA.out f hfn
       obtain ⟨S, hS⟩ : ∃ S, hsum f (T.pys ++ (sl.map asPay).take m) = S := ⟨_, rfl⟩
       have hpt : ∀ k : Nat, hpart k (asPay ⟨⟨gk, go, (f : Int), gb, gm, gl, gu⟩, gp, gg, gt, gy⟩) = if f = k then gm else 0 := fun k => by
        unfold hpart asPay
        dsimp only
        by_cases hk : f = k
        · rw [if_pos hk, if_pos ⟨rfl, by omega⟩, Int.sub_zero]
        · rw [if_neg hk, if_neg (by omega)]
       rw [hS, hpt, if_pos rfl] at g3
       rw [hS] at g1
       rw [hpt, if_pos rfl] at g2
       clear hgm hpm hat hp' htk HC hce
       go_upto_region 11 with fail
       have hgp : gs < wr.heap.size := World.ownsRow.lt OZ.out gs rfl |>.2
       have O4 := Lib.hid (OZ.out.alloc (.cells #[.int .i64 gk, .int .i64 go, .int .i64 (f : Int), .int .i64 gb, .int .i64 gm, .int .i64 gl, .int .i64 gu, .int .i64 gp, .int .i64 gg, .int .i64 gt, .int .i64 gy] 68))
       have B4 := Lib.hid (BZ.out.alloc (by omega) (.cells #[.int .i64 gk, .int .i64 go, .int .i64 (f : Int), .int .i64 gb, .int .i64 gm, .int .i64 gl, .int .i64 gu, .int .i64 gp, .int .i64 gg, .int .i64 gt, .int .i64 gy] 68))
       have Q4 := Lib.hid (Blk.new wr 68 #[.int .i64 gk, .int .i64 go, .int .i64 (f : Int), .int .i64 gb, .int .i64 gm, .int .i64 gl, .int .i64 gu, .int .i64 gp, .int .i64 gg, .int .i64 gt, .int .i64 gy])
       clear p0 p1 p2 p3 p4 p5 p6 p7 p8 p9 p10
       generalize wr.alloc (.cells #[.int .i64 gk, .int .i64 go, .int .i64 (f : Int), .int .i64 gb, .int .i64 gm, .int .i64 gl, .int .i64 gu, .int .i64 gp, .int .i64 gg, .int .i64 gt, .int .i64 gy] 68) = w4 at O4 B4 Q4 ⊢
       generalize wr.heap.size = gq at Q4 hgp ⊢
       obtain ⟨p2, p4⟩ := (show _ ∧ _ from ⟨Q4.out.cell 2 rfl, Q4.out.cell 4 rfl⟩)
       have y0 : w4.cell? ⟨gs, f, none⟩ = some (.int .i64 S) := by
        have h := O4.out.cell hfn
        rw [YZ.out f hfn, hS] at h
        exact h
       have y1 := O4.out.unfrozen f
       have O5 := Lib.hid (O4.out.set f (S + gm))
       have B5 := Lib.hid (B4.out.setCell (p := ⟨gs, f, none⟩) (Nat.le_refl _) (.int .i64 (S + gm)))
       have Y5 : Hid (∀ k, k < n → (zs.set f (S + gm)).getD k 0 = hsum k (T.pys ++ (sl.map asPay).take (m + 1))) := Lib.hid (fun k hk => by
         rw [HTA.out k, hpt]
         have hl := O4.out.len
         by_cases hkf : f = k
         · subst hkf
           rw [if_pos rfl, hS, List.getD_eq_getElem?_getD, List.getElem?_set_self (by omega)]
           rfl
         · rw [if_neg hkf, List.getD_eq_getElem?_getD, List.getElem?_set_ne hkf, ← List.getD_eq_getElem?_getD, YZ.out k hk]
           omega)
       clear hpt hS HPA HTA OZ BZ YZ
       go_region
       go_wp2
       go_roundw
       · exact ⟨m + 1, _, by omega, rfl, O5.out.drew, Y5.out, B5.out.drew⟩
       · simp [intOf]; omega
     · have hmx : m = xn := by omega
       have YA : Hid (∀ k a, T.acs[k]? = some a → zs.getD k 0 = a.held) := Lib.hid (fun k a ha => by
         have h2 := HOK.out.held k a ha
         dsimp only at h2
         have h3 : (sl.map asPay).length = xn := by rw [List.length_map]; exact E3.out
         rw [YZ.out k (by have := (List.getElem?_eq_some_iff.1 ha).1; rw [E1.out] at this; exact this), h2, hmx, ← h3, List.take_length])
       have a0 := (HLOW.out _ BZ.out).2.1.cell 0 rfl
       clear YZ hmx
       go_wp2
       go_loopw [59] (fun i wr => ∃ (m : Nat), m ≤ n ∧ i = .int .i64 (m : Int) ∧ Own 3 .i64 wr gs (.slice (some ⟨gs, 0, none⟩) n n) n zs ∧ Below gs w1 wr) (fun i _ => n - (intOf i).toNat)
       case atStart => exact ⟨0, by omega, rfl, OZ.out, BZ.out⟩
       case round =>
        obtain ⟨m, hm, rfl, hO, hB⟩ := hrel
        have O4 := Lib.hid hO
        have B4 := Lib.hid hB
        clear hO hB a0 OZ BZ
        by_cases hlm : m < n
        · obtain ⟨a, ha⟩ : ∃ a, T.acs[m]? = some a := ⟨_, List.getElem?_eq_getElem (by rw [E1.out]; exact hlm)⟩
          obtain ⟨ad, hpa, x0, x1, x2⟩ := (HLOW.out _ B4.out).1.accs.at_ ha
          dsimp only at hpa
          subst hpa
          rw [add_next ad (m * 3) 1 (by omega)] at x1
          rw [add_next ad (m * 3) 2 (by omega)] at x2
          have HY := Lib.hid (YA.out m a ha)
          go_upto_region 16 with fail
          have hgp : gs < wr.heap.size := World.ownsRow.lt O4.out gs rfl |>.2
          have O5 := Lib.hid (O4.out.alloc (.cells #[.int .i64 a.cur, .int .i64 a.bal, .int .i64 a.held] 90))
          have B5 := Lib.hid (B4.out.alloc (by omega) (.cells #[.int .i64 a.cur, .int .i64 a.bal, .int .i64 a.held] 90))
          have Q5 := Lib.hid (Blk.new wr 90 #[.int .i64 a.cur, .int .i64 a.bal, .int .i64 a.held])
          clear x0 x1 x2 O4 B4
          generalize wr.alloc (.cells #[.int .i64 a.cur, .int .i64 a.bal, .int .i64 a.held] 90) = w5 at O5 B5 Q5 ⊢
          generalize wr.heap.size = gp at Q5 hgp ⊢
          have x2 := Q5.out.cell 2 rfl
          have y0 : w5.cell? ⟨gs, m, none⟩ = some (.int .i64 a.held) := by
           have h := O5.out.cell hlm
           rw [HY.out] at h
           exact h
          go_region
          go_wp2
          go_roundw
          · exact ⟨m + 1, by omega, rfl, O5.out.drew, B5.out.drew⟩
          · simp [intOf]; omega
        · go_wp2
          go_ret
          exact ⟨rfl, (HLOW.out _ B4.out).2.2⟩
end Go.Proofs.YteifgmdaggiaaaaGreatDoor
