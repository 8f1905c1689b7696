/-
  held: what accounts hold is what open payments say: the law's own function, of a right state.
-/
import Derived.Test.YtjnmppdohglcaaaGreatDoorGrG
import Derived.Test.YtjnmppdohglcaaaGreatDoorOwnAt
import Derived.Test.YtjnmppdohglcaaaGreatDoorOpsTickPlain
import Derived.LoopTactic
import Derived.RegionTactic
namespace Go.Proofs.YtjnmppdohglcaaaGreatDoor
open Go Go.RowKit
set_option linter.unusedVariables false

theorem info_w64 : (Tryz.prog.info? 3).map (fun i => (i.zero, i.size, i.bytes)) = some (some (.int .i64 0), 1, 8) := by kernel_rfl
theorem run_make_words (n : Nat) (hn : n ≤ 1000000) (W : World) : (Instr.makeSlice 61 (.int .i64 (n : Int)) (.int .i64 (n : Int))).run Tryz.prog W = .ok (.slice (some ⟨W.heap.size, 0, none⟩) n n) (W.alloc (.cells (madeCells #[.int .i64 0] n) 3)) := by
  obtain ⟨i0, hi, hz0, hz1, hz2⟩ := info_parts info_w64
  have h := run_make (P := Tryz.prog) W 61 3 i0 (.int .i64 0) Tryz.underlying61 hi hz0 .i64 .i64 (n : Int) (n : Int) (by omega) (by omega) (by rw [hz2]; omega) (by omega)
  rw [hz1] at h
  have e2 : ((n : Int)).toNat = n := by omega
  rw [e2, Nat.mul_one] at h
  exact h
theorem own_words (w : World) (n : Nat) (hn : n ≤ maxLen) : Own 3 .i64 (w.alloc (.cells (madeCells #[.int .i64 0] n) 3)) w.heap.size (.slice (some ⟨w.heap.size, 0, none⟩) n n) n (List.replicate n 0) := by
  unfold Own
  have e : (List.replicate n (0 : Int)).map (Value.int .i64) = (madeCells #[.int .i64 0] n).toList := by
    refine List.ext_getElem? fun j => ?_
    by_cases hj : j < n
    · simp [madeCells, hj, Nat.mod_one]
    · simp [madeCells, hj]
  rw [e]
  exact World.ownsRow_lit w _ n (Nat.le_refl _) hn (by rw [size_madeCells, Nat.mul_one])
theorem hsum_take {ps : List Py} {j : Nat} {p : Py} (k : Nat) (hp : ps[j]? = some p) : hsum k (ps.take (j + 1)) = hsum k (ps.take j) + hpart k p := by
  rw [List.take_add_one, hp, hsum_append, Option.toList_some, hsum_cons]
  show _ + (hpart k p + 0) = _
  omega
theorem Ok.part {s : St} (h : Ok s) {j f : Nat} {p : Py} (hp : s.pys[j]? = some p) (hf : f < s.acs.length) : 0 ≤ hsum f (s.pys.take j) ∧ 0 ≤ hpart f p ∧ hsum f (s.pys.take j) + hpart f p ≤ 1125899906842624 := by
  obtain ⟨a, ha⟩ : ∃ a, s.acs[f]? = some a := ⟨_, List.getElem?_eq_getElem hf⟩
  obtain ⟨r1, r2, r3, r4⟩ := right_at h.right ha
  have hh := h.held f a ha
  unfold isMay at r2
  have hc : ∀ x ∈ s.pys, x.cap ≤ x.aut := fun x hx => (h.pays x hx).1.2.1.2
  have h1 := hsum_nn f (s.pys.take j) fun x hx => hc x (List.mem_of_mem_take hx)
  have h2 := hpart_nn f (hc p (List.mem_of_getElem? hp))
  have h3 := hsum_nn f (s.pys.drop (j + 1)) fun x hx => hc x (List.mem_of_mem_drop hx)
  have e : hsum f s.pys = hsum f (s.pys.take (j + 1)) + hsum f (s.pys.drop (j + 1)) := by rw [← hsum_append, List.take_append_drop]
  rw [hsum_take f hp] at e
  refine ⟨h1, h2, ?_⟩
  omega

set_option maxRecDepth 100000 in
set_option maxHeartbeats 1000000 in
theorem held_any (V : Sv) (T : St) (w : World) (hV : SvAt w V T) (hok : Ok T) (hn : T.acs.length ≤ 64) :
    Calls Tryz.prog 12 #[V.val] w fun e w' => e = .returned (.bool true) ∧ Below w.heap.size w w' := by
  obtain ⟨A, n, c, B, q, d, X, xn, xc, Y, yn, yc, t⟩ := V
  have e1 := hV.n
  have e2 := hV.q
  dsimp only at e1 e2
  have hq := hok.few
  rw [e1] at hn
  rw [e2] at hq
  have E1 := Lib.hid e1
  have E2 := Lib.hid e2
  have HOK := Lib.hid hok
  have V1 := Lib.hid (hV.alloc (.cells #[.slice A n c, .slice B q d, .slice X xn xc, .slice Y yn yc, .int .i64 t] 34))
  have G1 := Lib.hid (Blk.new w 34 #[.slice A n c, .slice B q d, .slice X xn xc, .slice Y yn yc, .int .i64 t])
  have L1 := Lib.hid ((Below.refl w.heap.size w).alloc (Nat.le_refl _) (.cells #[.slice A n c, .slice B q d, .slice X xn xc, .slice Y yn yc, .int .i64 t] 34))
  have hmk := fun W => run_make_words n (by omega) W
  unfold Sv.val Sv.cells
  dsimp only
  clear e1 e2 hV hok
  go_enter Tryz.func12, Tryz.ntmps12
  go_upto_region 1 with fail
  generalize w.alloc (.cells #[.slice A n c, .slice B q d, .slice X xn xc, .slice Y yn yc, .int .i64 t] 34) = w1 at V1 G1 L1 ⊢
  have a0 := G1.out.cell 0 rfl
  go_upto_region 2 with fail
  have HLOW := Lib.hid (fun W (h : Below w1.heap.size w1 W) => And.intro (V1.out.below h) (And.intro (G1.out.later h) (L1.out.trans (h.mono L1.out.size))))
  have O2 := Lib.hid (own_words w1 n (by simp only [maxLen]; omega))
  have B2 := Lib.hid ((Below.refl w1.heap.size w1).alloc (Nat.le_refl _) (.cells (madeCells #[.int .i64 0] n) 3))
  clear a0 hmk G1 V1 L1
  generalize w1.alloc (.cells (madeCells #[.int .i64 0] n) 3) = w2 at O2 B2 ⊢
  generalize w1.heap.size = gs at HLOW O2 B2 ⊢
  have a1 := (HLOW.out _ B2.out).2.1.cell 1 rfl
  go_wp2
  go_loopw [15] (fun i wr => ∃ (j : Nat) (ys : List Int), j ≤ q ∧ i = .int .i64 (j : Int) ∧ Own 3 .i64 wr gs (.slice (some ⟨gs, 0, none⟩) n n) n ys ∧ (∀ k, k < n → ys.getD k 0 = hsum k (T.pys.take j)) ∧ Below gs w1 wr) (fun i _ => q - (intOf i).toNat)
  case atStart => exact ⟨0, List.replicate n 0, by omega, rfl, O2.out, (fun k hk => by simp [List.getD, hk, hsum]), B2.out⟩
  case round =>
    obtain ⟨j, ys, hj, rfl, hO, hY, hB⟩ := hrel
    have O3 := Lib.hid hO
    have Y3 := Lib.hid hY
    have B3 := Lib.hid hB
    clear hO hY hB a1 O2 B2
    by_cases hlj : j < q
    · obtain ⟨p, hp⟩ : ∃ p, T.pys[j]? = some p := ⟨_, List.getElem?_eq_getElem (by rw [E2.out]; exact hlj)⟩
      obtain ⟨pa, hpa, hat⟩ := (HLOW.out _ B3.out).1.st.pays.at_ hp
      dsimp only at hpa
      subst hpa
      obtain ⟨p0, p1, p2, p3, p4, p5, p6, p7⟩ := pay_cells hat
      have HTA := Lib.hid (fun k => hsum_take k hp)
      have HPA := Lib.hid (fun f (hf : f < n) => HOK.out.part hp (by rw [E1.out]; exact hf))
      have HC := Lib.hid (HOK.out.pays p (List.mem_of_getElem? hp)).2.1
      rw [E1.out] at HC
      obtain ⟨pf, pd, pau, pcp, prf, pcg, ptl, pst⟩ := p
      dsimp only at p0 p1 p2 p3 p4 p5 p6 p7 HC
      clear hp hat
      go_upto_region 5 with fail
      have hgp : gs < wr.heap.size := World.ownsRow.lt O3.out gs rfl |>.2
      have O4 := Lib.hid (O3.out.alloc (.cells #[.int .i64 pf, .int .i64 pd, .int .i64 pau, .int .i64 pcp, .int .i64 prf, .int .i64 pcg, .int .i64 ptl, .int .i64 pst] 55))
      have B4 := Lib.hid (B3.out.alloc (by omega) (.cells #[.int .i64 pf, .int .i64 pd, .int .i64 pau, .int .i64 pcp, .int .i64 prf, .int .i64 pcg, .int .i64 ptl, .int .i64 pst] 55))
      have Q4 := Lib.hid (Blk.new wr 55 #[.int .i64 pf, .int .i64 pd, .int .i64 pau, .int .i64 pcp, .int .i64 prf, .int .i64 pcg, .int .i64 ptl, .int .i64 pst])
      clear p0 p1 p2 p3 p4 p5 p6 p7 O3 B3
      generalize wr.alloc (.cells #[.int .i64 pf, .int .i64 pd, .int .i64 pau, .int .i64 pcp, .int .i64 prf, .int .i64 pcg, .int .i64 ptl, .int .i64 pst] 55) = w4 at O4 B4 Q4 ⊢
      generalize wr.heap.size = gp at Q4 hgp ⊢
      obtain ⟨p0, p2, p3, p7⟩ := (show _ ∧ _ ∧ _ ∧ _ from ⟨Q4.out.cell 0 rfl, Q4.out.cell 2 rfl, Q4.out.cell 3 rfl, Q4.out.cell 7 rfl⟩)
      by_cases hs0 : pst = 0
      · subst hs0
        obtain ⟨f, hf⟩ : ∃ f : Nat, pf = (f : Int) := ⟨pf.toNat, by have := HC.out; unfold isC at this; omega⟩
        subst hf
        have hfn : f < n := by have := HC.out; unfold isC at this; omega
        obtain ⟨g1, g2, g3⟩ := HPA.out f hfn
        obtain ⟨S, hS⟩ : ∃ S, hsum f (T.pys.take j) = S := ⟨_, rfl⟩
        have hpt : hpart f ⟨(f : Int), pd, pau, pcp, prf, pcg, ptl, 0⟩ = pau - pcp := by unfold hpart; rw [if_pos ⟨rfl, rfl⟩]
        rw [hS, hpt] at g3
        rw [hS] at g1
        rw [hpt] at g2
        have y0 : w4.cell? ⟨gs, f, none⟩ = some (.int .i64 S) := by
          have h := O4.out.cell hfn
          rw [Y3.out f hfn, hS] at h
          exact h
        have y1 := O4.out.unfrozen f
        have O5 := Lib.hid (O4.out.set f (S + (pau - pcp)))
        have B5 := Lib.hid (B4.out.setCell (p := ⟨gs, f, none⟩) (Nat.le_refl _) (.int .i64 (S + (pau - pcp))))
        have Y5 : Hid (∀ k, k < n → (ys.set f (S + (pau - pcp))).getD k 0 = hsum k (T.pys.take (j + 1))) := Lib.hid (fun k hk => by
          rw [HTA.out k]
          have hl := O4.out.len
          by_cases hkf : f = k
          · subst hkf
            rw [hpt, hS, List.getD_eq_getElem?_getD, List.getElem?_set_self (by omega)]
            rfl
          · rw [List.getD_eq_getElem?_getD, List.getElem?_set_ne hkf, ← List.getD_eq_getElem?_getD, Y3.out k hk]
            have e : hpart k ⟨(f : Int), pd, pau, pcp, prf, pcg, ptl, 0⟩ = 0 := by unfold hpart; rw [if_neg (by dsimp only; omega)]
            omega)
        clear hpt hS HPA HTA
        go_upto_region 6 with fail
        go_region
        go_wp2
        go_roundw
        · exact ⟨j + 1, _, by omega, rfl, O5.out.drew, Y5.out, B5.out.drew⟩
        · simp [intOf]; omega
      · have qs := eqF hs0
        have Y5 : Hid (∀ k, k < n → ys.getD k 0 = hsum k (T.pys.take (j + 1))) := Lib.hid (fun k hk => by
          rw [HTA.out k, Y3.out k hk]
          have e : hpart k ⟨pf, pd, pau, pcp, prf, pcg, ptl, pst⟩ = 0 := by unfold hpart; rw [if_neg (fun h => hs0 h.1)]
          omega)
        clear hs0 HPA HTA
        go_wp2
        go_roundw
        · exact ⟨j + 1, ys, by omega, rfl, O4.out, Y5.out, B4.out⟩
        · simp [intOf]; omega
    · have hjq : j = q := by omega
      have Y4 : Hid (∀ k a, T.acs[k]? = some a → ys.getD k 0 = a.held) := Lib.hid (fun k a ha => by
        rw [Y3.out k (by have := (List.getElem?_eq_some_iff.1 ha).1; rw [E1.out] at this; exact this), HOK.out.held k a ha, hjq, ← E2.out, List.take_length])
      have a0 := (HLOW.out _ B3.out).2.1.cell 0 rfl
      clear Y3 hjq
      go_wp2
      go_loopw [38] (fun i wr => ∃ (m : Nat), m ≤ n ∧ i = .int .i64 (m : Int) ∧ Own 3 .i64 wr gs (.slice (some ⟨gs, 0, none⟩) n n) n ys ∧ Below gs w1 wr) (fun i _ => n - (intOf i).toNat)
      case atStart => exact ⟨0, by omega, rfl, O3.out, B3.out⟩
      case round =>
        obtain ⟨m, hm, rfl, hO, hB⟩ := hrel
        have O4 := Lib.hid hO
        have B4 := Lib.hid hB
        clear hO hB a0 O3 B3
        by_cases hlm : m < n
        · obtain ⟨a, ha⟩ : ∃ a, T.acs[m]? = some a := ⟨_, List.getElem?_eq_getElem (by rw [E1.out]; exact hlm)⟩
          obtain ⟨ad, hpa, x0, x1, x2⟩ := (HLOW.out _ B4.out).1.st.accs.at_ ha
          dsimp only at hpa
          subst hpa
          rw [add_next ad (m * 3) 1 (by omega)] at x1
          rw [add_next ad (m * 3) 2 (by omega)] at x2
          have HY := Lib.hid (Y4.out m a ha)
          go_upto_region 11 with fail
          have hgp : gs < wr.heap.size := World.ownsRow.lt O4.out gs rfl |>.2
          have O5 := Lib.hid (O4.out.alloc (.cells #[.int .i64 a.cur, .int .i64 a.bal, .int .i64 a.held] 59))
          have B5 := Lib.hid (B4.out.alloc (by omega) (.cells #[.int .i64 a.cur, .int .i64 a.bal, .int .i64 a.held] 59))
          have Q5 := Lib.hid (Blk.new wr 59 #[.int .i64 a.cur, .int .i64 a.bal, .int .i64 a.held])
          clear x0 x1 x2 O4 B4
          generalize wr.alloc (.cells #[.int .i64 a.cur, .int .i64 a.bal, .int .i64 a.held] 59) = w5 at O5 B5 Q5 ⊢
          generalize wr.heap.size = gp at Q5 hgp ⊢
          have x2 := Q5.out.cell 2 rfl
          have y0 : w5.cell? ⟨gs, m, none⟩ = some (.int .i64 a.held) := by
            have h := O5.out.cell hlm
            rw [HY.out] at h
            exact h
          go_region
          go_wp2
          go_roundw
          · exact ⟨m + 1, by omega, rfl, O5.out.drew, B5.out.drew⟩
          · simp [intOf]; omega
        · go_wp2
          go_ret
          exact ⟨rfl, (HLOW.out _ B4.out).2.2⟩
end Go.Proofs.YtjnmppdohglcaaaGreatDoor
