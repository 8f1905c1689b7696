/-
  A saga goes on by answers until it is ready, or goes back: the program's finish by its contract; failed and undo.
-/
import Derived.Test.YteifgmdaggiaaaaGreatDoorWBankAns
import Derived.Test.YteifgmdaggiaaaaGreatDoorWBankRsv
import Derived.Test.YteifgmdaggiaaaaGreatDoorWGrD
set_option linter.unusedSimpArgs false
namespace Go.Proofs.YteifgmdaggiaaaaGreatDoor
open Go Go.RowKit
set_option linter.unusedVariables false
set_option maxRecDepth 100000 in
theorem failed_any (E : Int) (w : World) (hh : HasErr w) : Calls Tryz.prog 37 #[errV E] w fun e w' => e = .returned (.agg #[.int .i64 E, .int .i64 0]) ∧ Below w.heap.size w w' := by
 have HN := Lib.hid (fun W (hb : Below w.heap.size w W) => number_of E W (hh.below hb))
 clear hh
 go_enter Tryz.func37, Tryz.ntmps37
 go_upto_region 1 with fail
 have HB := Lib.hid ((Below.refl w.heap.size w).alloc (Nat.le_refl _) (.cells rp0 46))
 have HR := Lib.hid (Blk.new w 46 rp0)
 generalize w.alloc (.cells rp0 46) = w1 at HB HR ⊢
 generalize errV E = v at HN ⊢
 go_wp2_with fail
 refine (HN.out _ HB.out).mono ?_
 rintro _ w2 ⟨rfl, hb2⟩
 have HR2 := Lib.hid (HR.out.later hb2)
 have HB2 := Lib.hid (HB.out.trans (hb2.mono HB.out.size))
 clear hb2
 obtain ⟨y0, y1, f0, f1⟩ := (show _ ∧ _ ∧ _ ∧ _ from ⟨HR2.out.cell 0 rfl, HR2.out.cell 1 rfl, HR2.out.loose 0, HR2.out.loose 1⟩)
 go_wp2
 refine bodyPost_ret (results_cell_row (p := 2) (ty := 46) rfl _ _ w.heap.size _ _ (0, 0) _ rfl (rp_put HR2.out rfl (.int .i64 E) (.int .i64 0)) Tryz.underlying46 rfl (by kernel_rfl)) rfl ?_
 exact ⟨rfl, rp_below HB2.out (Nat.le_refl _) _ _⟩
/-- What is measured of a saga that goes on: its block's cells. -/
def cellI (w : World) (g i : Nat) : Int := match w.cell? ⟨g, i, none⟩ with | some v => intOf v | none => 0
def leftS (w : World) (g : Nat) : Nat := (4 * (cellI w g 5 - cellI w g 8) - cellI w g 9 + 2).toNat
abbrev sgC (s : Sg) : Array Value := #[.int .i64 s.rq.key, .int .i64 s.rq.op, .int .i64 s.rq.a, .int .i64 s.rq.b, .int .i64 s.rq.amt, .int .i64 s.rq.legs, .int .i64 s.rq.til, .int .i64 s.ph, .int .i64 s.leg, .int .i64 s.tries, .int .i64 s.why]
theorem leftS_at {w : World} {g : Nat} {t : TypeId} {s : Sg} (h : Blk w g t (sgC s)) : leftS w g = (4 * (s.rq.legs - s.leg) - s.tries + 2).toNat := by
 unfold leftS cellI
 rw [h.cell 5 rfl, h.cell 8 rfl, h.cell 9 rfl]
 rfl
theorem leg_back {s : Sg} (h : s.small) (hw : waitS s) (ok : Bool) : ((legS s ok).ph = 1 → (legS s ok).why = 9) ∧ ((legS s ok).ph ≠ 1 → (legS s ok).ph = 0) := by
 rw [legS_small h, if_pos hw]
 have hp := hw.1
 split
 · exact ⟨fun e => by dsimp only at e; omega, fun _ => hp⟩
 · split
   · exact ⟨fun _ => rfl, fun e => absurd rfl e⟩
   · exact ⟨fun e => by dsimp only at e; omega, fun _ => hp⟩
theorem On.of_on {F G : Nat → Prop} {w w' : World} (h : On G w w') (hF : ∀ k, F k → G k) : On F w w' := ⟨h.os, h.tape, h.output, h.size, fun k hk => h.block k (hF k hk)⟩
theorem sg_store {w : World} {g : Nat} {t : TypeId} {s : Sg} (h : Blk w g t (sgC s)) (y0 y1 y2 y3 y4 y5 y6 y7 y8 y9 y10 : Int) :
  Blk (((((((((((w.setCell ⟨g, 0, none⟩ (.int .i64 y0)).setCell ⟨g, 1, none⟩ (.int .i64 y1)).setCell ⟨g, 2, none⟩ (.int .i64 y2)).setCell ⟨g, 3, none⟩ (.int .i64 y3)).setCell ⟨g, 4, none⟩ (.int .i64 y4)).setCell ⟨g, 5, none⟩ (.int .i64 y5)).setCell ⟨g, 6, none⟩ (.int .i64 y6)).setCell ⟨g, 7, none⟩ (.int .i64 y7)).setCell ⟨g, 8, none⟩ (.int .i64 y8)).setCell ⟨g, 9, none⟩ (.int .i64 y9)).setCell ⟨g, 10, none⟩ (.int .i64 y10)) g t #[.int .i64 y0, .int .i64 y1, .int .i64 y2, .int .i64 y3, .int .i64 y4, .int .i64 y5, .int .i64 y6, .int .i64 y7, .int .i64 y8, .int .i64 y9, .int .i64 y10] ∧
  (∀ k, g ≠ k → (((((((((((w.setCell ⟨g, 0, none⟩ (.int .i64 y0)).setCell ⟨g, 1, none⟩ (.int .i64 y1)).setCell ⟨g, 2, none⟩ (.int .i64 y2)).setCell ⟨g, 3, none⟩ (.int .i64 y3)).setCell ⟨g, 4, none⟩ (.int .i64 y4)).setCell ⟨g, 5, none⟩ (.int .i64 y5)).setCell ⟨g, 6, none⟩ (.int .i64 y6)).setCell ⟨g, 7, none⟩ (.int .i64 y7)).setCell ⟨g, 8, none⟩ (.int .i64 y8)).setCell ⟨g, 9, none⟩ (.int .i64 y9)).setCell ⟨g, 10, none⟩ (.int .i64 y10)).heap[k]? = w.heap[k]?) ∧
  (((((((((((w.setCell ⟨g, 0, none⟩ (.int .i64 y0)).setCell ⟨g, 1, none⟩ (.int .i64 y1)).setCell ⟨g, 2, none⟩ (.int .i64 y2)).setCell ⟨g, 3, none⟩ (.int .i64 y3)).setCell ⟨g, 4, none⟩ (.int .i64 y4)).setCell ⟨g, 5, none⟩ (.int .i64 y5)).setCell ⟨g, 6, none⟩ (.int .i64 y6)).setCell ⟨g, 7, none⟩ (.int .i64 y7)).setCell ⟨g, 8, none⟩ (.int .i64 y8)).setCell ⟨g, 9, none⟩ (.int .i64 y9)).setCell ⟨g, 10, none⟩ (.int .i64 y10)).heap.size = w.heap.size ∧
  (((((((((((w.setCell ⟨g, 0, none⟩ (.int .i64 y0)).setCell ⟨g, 1, none⟩ (.int .i64 y1)).setCell ⟨g, 2, none⟩ (.int .i64 y2)).setCell ⟨g, 3, none⟩ (.int .i64 y3)).setCell ⟨g, 4, none⟩ (.int .i64 y4)).setCell ⟨g, 5, none⟩ (.int .i64 y5)).setCell ⟨g, 6, none⟩ (.int .i64 y6)).setCell ⟨g, 7, none⟩ (.int .i64 y7)).setCell ⟨g, 8, none⟩ (.int .i64 y8)).setCell ⟨g, 9, none⟩ (.int .i64 y9)).setCell ⟨g, 10, none⟩ (.int .i64 y10)).os = w.os ∧
  (((((((((((w.setCell ⟨g, 0, none⟩ (.int .i64 y0)).setCell ⟨g, 1, none⟩ (.int .i64 y1)).setCell ⟨g, 2, none⟩ (.int .i64 y2)).setCell ⟨g, 3, none⟩ (.int .i64 y3)).setCell ⟨g, 4, none⟩ (.int .i64 y4)).setCell ⟨g, 5, none⟩ (.int .i64 y5)).setCell ⟨g, 6, none⟩ (.int .i64 y6)).setCell ⟨g, 7, none⟩ (.int .i64 y7)).setCell ⟨g, 8, none⟩ (.int .i64 y8)).setCell ⟨g, 9, none⟩ (.int .i64 y9)).setCell ⟨g, 10, none⟩ (.int .i64 y10)).tape = w.tape ∧
  (((((((((((w.setCell ⟨g, 0, none⟩ (.int .i64 y0)).setCell ⟨g, 1, none⟩ (.int .i64 y1)).setCell ⟨g, 2, none⟩ (.int .i64 y2)).setCell ⟨g, 3, none⟩ (.int .i64 y3)).setCell ⟨g, 4, none⟩ (.int .i64 y4)).setCell ⟨g, 5, none⟩ (.int .i64 y5)).setCell ⟨g, 6, none⟩ (.int .i64 y6)).setCell ⟨g, 7, none⟩ (.int .i64 y7)).setCell ⟨g, 8, none⟩ (.int .i64 y8)).setCell ⟨g, 9, none⟩ (.int .i64 y9)).setCell ⟨g, 10, none⟩ (.int .i64 y10)).output = w.output := by
 have h' : Sg11 w g t s.rq.key s.rq.op s.rq.a s.rq.b s.rq.amt s.rq.legs s.rq.til s.ph s.leg s.tries s.why := h
 refine ⟨h'.put y0 y1 y2 y3 y4 y5 y6 y7 y8 y9 y10, fun k hk => Sg11.put_other hk y0 y1 y2 y3 y4 y5 y6 y7 y8 y9 y10, Sg11.put_size y0 y1 y2 y3 y4 y5 y6 y7 y8 y9 y10, ?_, ?_, ?_⟩
 · simp only [World.setCell]
 · simp only [World.setCell]
 · simp only [World.setCell]
theorem sg_no_bool (s : Sg) (i : Nat) (b : Bool) : (sgC s)[i]? ≠ some (.bool b) := by
 match i with
 | 0 | 1 | 2 | 3 | 4 | 5 | 6 | 7 | 8 | 9 | 10 => simp
 | k + 11 => simp
set_option maxRecDepth 100000 in
set_option maxHeartbeats 2000000 in
theorem finish_any (w : World) (g : Nat) (la : Option Addr) (ln lc : Nat) (ls : List Bool) (u : Nat) (s0 : Sg) (h : AnsAt w g la ln lc ls u) (hm : ln ≤ 9223372036854775806) (hs : s0.small) (hp : s0.ph = 0) (hf : mostS s0 ≤ 20) :
  Calls Tryz.prog 103 #[s0.val, nxV g] w fun e w' => e = .returned (errV (finGo ls 20 s0 u).1) ∧ AnsAt w' g la ln lc ls (finGo ls 20 s0 u).2 ∧ On (fun k => k < w.heap.size ∧ k ≠ g) w w' := by
 have HNX := Lib.hid (fun W u (h : AnsAt W g la ln lc ls u) => next_any W g la ln lc ls u h hm)
 have HA := Lib.hid h
 have hgl : g < w.heap.size := h.blk.lt
 have HS := Lib.hid hs
 have HP := Lib.hid hp
 have HF := Lib.hid hf
 obtain ⟨R, hR⟩ : ∃ R, finGo ls 20 s0 u = R := ⟨_, rfl⟩
 rw [hR]
 have HR := Lib.hid hR
 unfold Sg.val
 clear h hs hp hf hR
 go_enter Tryz.func103, Tryz.ntmps103
 go_wp2
 have HA1 := Lib.hid (HA.out.below ((Below.refl w.heap.size w).alloc (Nat.le_refl _) (.cells (sgC s0) 68)))
 have HB1 := Lib.hid (Blk.new w 68 (sgC s0))
 have HO1 := Lib.hid (On.of (F := fun k => k < w.heap.size ∧ k ≠ g) ((Below.refl w.heap.size w).alloc (Nat.le_refl _) (.cells (sgC s0) 68)) (fun k hk => hk.1))
 generalize w.alloc (.cells (sgC s0) 68) = w1 at HA1 HB1 HO1 ⊢
 obtain ⟨gs, hgs⟩ : ∃ gs, gs = w.heap.size := ⟨_, rfl⟩
 rw [← hgs] at HB1 ⊢
 have hne : g ≠ gs := by omega
 have HG := Lib.hid hgs
 clear hgs hgl HA
 go_loopw [] (fun wr => ∃ (s : Sg) (v f : Nat), s.small ∧ s.ph = 0 ∧ mostS s ≤ (f : Int) ∧ finGo ls f s v = R ∧ Blk wr gs 68 (sgC s) ∧ AnsAt wr g la ln lc ls v ∧ On (fun k => k < w.heap.size ∧ k ≠ g) w wr) (fun wr => leftS wr gs)
 case atStart => exact ⟨s0, u, 20, HS.out, HP.out, HF.out, HR.out, HB1.out, HA1.out, HO1.out⟩
 case round =>
  obtain ⟨s, v, f, hsm, hph, hmo, hfin, hB, hA, hO⟩ := hrel
  have HB := Lib.hid hB
  have HA := Lib.hid hA
  have HO := Lib.hid hO
  have HSM := Lib.hid hsm
  have HRD := Lib.hid (sready_any s wr)
  unfold BoolRes Sg.val at HRD
  obtain ⟨k0, k1, k2, k3, k4, k5, k6, k7, k8, k9, k10⟩ := (show _ ∧ _ ∧ _ ∧ _ ∧ _ ∧ _ ∧ _ ∧ _ ∧ _ ∧ _ ∧ _ from ⟨hB.cell 0 rfl, hB.cell 1 rfl, hB.cell 2 rfl, hB.cell 3 rfl, hB.cell 4 rfl, hB.cell 5 rfl, hB.cell 6 rfl, hB.cell 7 rfl, hB.cell 8 rfl, hB.cell 9 rfl, hB.cell 10 rfl⟩)
  by_cases hrd : readyS s
  · rw [decide_eq_true hrd] at HRD
    have hE : R = (0, v) := by
     rw [← hfin]
     cases f with
     | zero => rfl
     | succ f => rw [finGo, if_pos hrd]
    subst hE
    clear hB hA hO hsm hph hmo hfin hrd HNX HR
    go_wp2_with fail
    refine HRD.out.mono ?_
    rintro _ w3 ⟨rfl, hb3⟩
    have HA3 := Lib.hid (HA.out.below hb3)
    have HO3 := Lib.hid (HO.out.same hb3 (fun k hk => by have := HO.out.size; have := hk.1; omega))
    clear hb3
    clear k0 k1 k2 k3 k4 k5 k6 k7 k8 k9 k10
    go_wp2
    go_ret
    exact ⟨rfl, HA3.out, HO3.out⟩
  · rw [decide_eq_false hrd] at HRD
    have hw : waitS s := ⟨hph, by unfold readyS at hrd; omega⟩
    have hml := most_less hsm hw (ansB ls v)
    have hlf := leftS_at hB
    have hmo0 : mostS s = 4 * (s.rq.legs - s.leg) - s.tries + 2 := by unfold mostS; rw [if_pos hph, if_pos hw.2]
    have hbk := leg_back hsm hw (ansB ls v)
    have hsm2 := hsm.leg_ (ansB ls v)
    obtain ⟨f, rfl⟩ : ∃ f', f = f' + 1 := ⟨f - 1, by omega⟩
    rw [finGo, if_neg hrd] at hfin
    obtain ⟨bb, hbb⟩ : ∃ bb, ansB ls v = bb := ⟨_, rfl⟩
    obtain ⟨nn, hnn⟩ : ∃ nn, ansN ls v = nn := ⟨_, rfl⟩
    have HNV := Lib.hid (fun W (h : AnsAt W g la ln lc ls v) => HNX.out W v h)
    simp only [hbb, hnn] at HNV hfin hml hbk hsm2
    have HLG := Lib.hid (fun W => sleg_any s bb W)
    obtain ⟨s2, hs2⟩ : ∃ s2, legS s bb = s2 := ⟨_, rfl⟩
    rw [hs2] at HLG hfin hml hbk hsm2
    unfold SgRes Sg.val at HLG
    clear hB hA hO hsm hph hrd hw hbb hnn hs2
    go_upto_region 2 with (first | (go_at_call 114; refine HRD.out.mono ?_; rintro _ w3 ⟨rfl, hb3⟩))
    have HA3 := Lib.hid (HA.out.below hb3)
    have HB3 := Lib.hid (HB.out.later hb3)
    have HO3 := Lib.hid (HO.out.same hb3 (fun k hk => by have := HO.out.size; have := hk.1; omega))
    clear hb3 HRD
    clear k0 k1 k2 k3 k4 k5 k6 k7 k8 k9 k10
    refine wp_region_held_drew (S := fun _ => True) (by kernel_rfl) trivial (fun hHeld => ?_)
    refine tk 1 9 (v := ?_) ?_ ?_
    rotate_left
    · intro w' hSw
      go_simp
      (try with_reducible rfl)
    (try simp only [Act.put, sA, sB, sC])
    refine wpAnyH_ready (rs := [0, 2]) (by kernel_rfl) (by simp) ?_
    refine AllReadyH.cons (i := 0) rfl (fun K hK => ?_) (AllReadyH.cons (i := 2) rfl (fun K hK => ?_) AllReadyH.nil)
    · obtain ⟨k0, k1, k2, k3, k4, k5, k6, k7, k8, k9, k10⟩ := (show _ ∧ _ ∧ _ ∧ _ ∧ _ ∧ _ ∧ _ ∧ _ ∧ _ ∧ _ ∧ _ from ⟨HB3.out.drew.cell 0 rfl, HB3.out.drew.cell 1 rfl, HB3.out.drew.cell 2 rfl, HB3.out.drew.cell 3 rfl, HB3.out.drew.cell 4 rfl, HB3.out.drew.cell 5 rfl, HB3.out.drew.cell 6 rfl, HB3.out.drew.cell 7 rfl, HB3.out.drew.cell 8 rfl, HB3.out.drew.cell 9 rfl, HB3.out.drew.cell 10 rfl⟩)
      go_simp
      refine hK.out _ _ trivial (fun hHeld => ?_)
      clear hK K
      (try simp only [Act.put, sA, sB, sC])
      clear k0 k1 k2 k3 k4 k5 k6 k7 k8 k9 k10
      refine wpAnyH_ready (rs := [2]) (by kernel_rfl) (by simp) ?_
      refine AllReadyH.cons (i := 2) rfl (fun K hK => ?_) AllReadyH.nil
      go_simp
      refine (HNV.out _ (HA3.out.drewN 1)).mono ?_
      rintro _ w4 ⟨rfl, ha4, ho4⟩
      have hB4 : Blk w4 gs 68 (sgC s) := Blk.on HB3.out.drew ho4 (Ne.symm hne)
      refine hK.out _ _ trivial (fun hHeld => ?_)
      clear hK K
      (try simp only [Act.put, sA, sB, sC])
      refine wpAnyH_ready (rs := [3]) (by kernel_rfl) (by simp) ?_
      refine AllReadyH.cons (i := 3) rfl (fun K hK => ?_) AllReadyH.nil
      go_simp
      go_at_call 117
      refine (HLG.out _).mono ?_
      rintro _ w5 ⟨rfl, hb5⟩
      have HA5 := Lib.hid (ha4.below hb5)
      have HB5 := Lib.hid (hB4.later hb5)
      have HO5 := Lib.hid (((HO3.out.drewN 1).trans (On.of_on ho4 (fun k hk => hk.2))).same hb5 (fun k hk => by have := HO3.out.size; have := ho4.size; have := hk.1; simp only [World.drewN] at *; omega))
      refine hK.out _ _ trivial (fun hHeld => ?_)
      clear hK K ho4 hb5 hB4 ha4
      (try simp only [Act.put, sA, sB, sC])
      obtain ⟨k0, k1, k2, k3, k4, k5, k6, k7, k8, k9, k10⟩ := (show _ ∧ _ ∧ _ ∧ _ ∧ _ ∧ _ ∧ _ ∧ _ ∧ _ ∧ _ ∧ _ from ⟨HB5.out.cell 0 rfl, HB5.out.cell 1 rfl, HB5.out.cell 2 rfl, HB5.out.cell 3 rfl, HB5.out.cell 4 rfl, HB5.out.cell 5 rfl, HB5.out.cell 6 rfl, HB5.out.cell 7 rfl, HB5.out.cell 8 rfl, HB5.out.cell 9 rfl, HB5.out.cell 10 rfl⟩)
      obtain ⟨f0, f1, f2, f3, f4, f5, f6, f7, f8, f9, f10⟩ := (show _ ∧ _ ∧ _ ∧ _ ∧ _ ∧ _ ∧ _ ∧ _ ∧ _ ∧ _ ∧ _ from ⟨HB5.out.loose 0, HB5.out.loose 1, HB5.out.loose 2, HB5.out.loose 3, HB5.out.loose 4, HB5.out.loose 5, HB5.out.loose 6, HB5.out.loose 7, HB5.out.loose 8, HB5.out.loose 9, HB5.out.loose 10⟩)
      refine wpAnyH_ready (rs := [4]) (by kernel_rfl) (by simp) ?_
      refine AllReadyH.cons (i := 4) rfl (fun K hK => ?_) AllReadyH.nil
      go_simp
      refine hK.out _ (((((((((((w5.setCell ⟨gs, 0, none⟩ (.int .i64 s2.rq.key)).setCell ⟨gs, 1, none⟩ (.int .i64 s2.rq.op)).setCell ⟨gs, 2, none⟩ (.int .i64 s2.rq.a)).setCell ⟨gs, 3, none⟩ (.int .i64 s2.rq.b)).setCell ⟨gs, 4, none⟩ (.int .i64 s2.rq.amt)).setCell ⟨gs, 5, none⟩ (.int .i64 s2.rq.legs)).setCell ⟨gs, 6, none⟩ (.int .i64 s2.rq.til)).setCell ⟨gs, 7, none⟩ (.int .i64 s2.ph)).setCell ⟨gs, 8, none⟩ (.int .i64 s2.leg)).setCell ⟨gs, 9, none⟩ (.int .i64 s2.tries)).setCell ⟨gs, 10, none⟩ (.int .i64 s2.why)) trivial (fun hHeld => ?_)
      clear hK K
      (try simp only [Act.put, sA, sB, sC])
      refine wpAnyH_done (by kernel_rfl) ?_ _
      obtain ⟨hb6, hh6, hz6, ho6, ht6, hp6⟩ := sg_store HB5.out s2.rq.key s2.rq.op s2.rq.a s2.rq.b s2.rq.amt s2.rq.legs s2.rq.til s2.ph s2.leg s2.tries s2.why
      have HB6 := Lib.hid hb6
      have HO6 := Lib.hid (On.mk (F := fun k => k < w.heap.size ∧ k ≠ g) (ho6.trans HO5.out.os) (ht6.trans HO5.out.tape) (hp6.trans HO5.out.output) (Nat.le_trans HO5.out.size (Nat.le_of_eq hz6.symm)) (fun k hk => (hh6 k (by have := hk.1; have := HG.out; omega)).trans (HO5.out.block k hk)))
      have HA6 := Lib.hid (AnsAt.mk ((hh6 g (Ne.symm hne)).trans HA5.out.blk) (flags_far HA5.out.rd HB5.out (sg_no_bool s) (fun k hk => hh6 k (Ne.symm hk))) HA5.out.len HA5.out.us)
      clear k0 k1 k2 k3 k4 k5 k6 k7 k8 k9 k10 f0 f1 f2 f3 f4 f5 f6 f7 f8 f9 f10
      clear hb6 hh6 hz6 ho6 ht6 hp6 HA5 HB5 HO5 hHeld
      generalize (((((((((((w5.setCell ⟨gs, 0, none⟩ (.int .i64 s2.rq.key)).setCell ⟨gs, 1, none⟩ (.int .i64 s2.rq.op)).setCell ⟨gs, 2, none⟩ (.int .i64 s2.rq.a)).setCell ⟨gs, 3, none⟩ (.int .i64 s2.rq.b)).setCell ⟨gs, 4, none⟩ (.int .i64 s2.rq.amt)).setCell ⟨gs, 5, none⟩ (.int .i64 s2.rq.legs)).setCell ⟨gs, 6, none⟩ (.int .i64 s2.rq.til)).setCell ⟨gs, 7, none⟩ (.int .i64 s2.ph)).setCell ⟨gs, 8, none⟩ (.int .i64 s2.leg)).setCell ⟨gs, 9, none⟩ (.int .i64 s2.tries)).setCell ⟨gs, 10, none⟩ (.int .i64 s2.why)) = w6 at HB6 HO6 HA6 ⊢
      obtain ⟨c7, c10⟩ := (show _ ∧ _ from ⟨HB6.out.cell 7 rfl, HB6.out.cell 10 rfl⟩)
      by_cases hp2 : s2.ph = 1
      · have q := eqT hp2
        rw [if_pos hp2] at hfin
        subst hfin
        have h9 := hbk.1 hp2
        have HE9 := Lib.hid (show errV s2.why = eno s2.why by rw [errV, if_neg (by omega)])
        clear hp2 hml hbk h9
        go_wp2
        go_ret
        exact ⟨by rw [HE9.out]; rfl, HA6.out, HO6.out⟩
      · have q := eqF hp2
        rw [if_neg hp2] at hfin
        have hp0 := hbk.2 hp2
        have HL6 := Lib.hid (leftS_at HB6.out)
        have hm2 : mostS s2 = 4 * (if s2.leg < s2.rq.legs then s2.rq.legs - s2.leg else 0) - s2.tries + 2 := by unfold mostS; rw [if_pos hp0]
        have hlg := hsm2.leg
        have HFIN := Lib.hid hfin
        have HSM2 := Lib.hid hsm2
        have HP0 := Lib.hid hp0
        have HML := Lib.hid hml
        have HM2 := Lib.hid hm2
        have HLF := Lib.hid hlf
        have HMO := Lib.hid hmo
        have HMO0 := Lib.hid hmo0
        have HLGG := Lib.hid hlg
        clear hp2 hml hbk hm2 hlf hfin hsm2 hp0 hmo hmo0 hlg
        go_wp2
        go_roundw
        · exact ⟨s2, nn, f, HSM2.out, HP0.out, by have := HML.out; have := HMO.out; omega, HFIN.out, HB6.out, HA6.out, HO6.out⟩
        · rw [HL6.out, HLF.out]
          have h1 := HML.out
          have h2 := HM2.out
          have h3 := HMO0.out
          have h4 := HLGG.out
          split at h2 <;> omega
    · go_simp
      refine (HNV.out _ (HA3.out.drewN 1)).mono ?_
      rintro _ w4 ⟨rfl, ha4, ho4⟩
      have hB4 : Blk w4 gs 68 (sgC s) := Blk.on HB3.out.drew ho4 (Ne.symm hne)
      refine hK.out _ _ trivial (fun hHeld => ?_)
      clear hK K
      (try simp only [Act.put, sA, sB, sC])
      refine wpAnyH_ready (rs := [0]) (by kernel_rfl) (by simp) ?_
      refine AllReadyH.cons (i := 0) rfl (fun K hK => ?_) AllReadyH.nil
      obtain ⟨k0, k1, k2, k3, k4, k5, k6, k7, k8, k9, k10⟩ := (show _ ∧ _ ∧ _ ∧ _ ∧ _ ∧ _ ∧ _ ∧ _ ∧ _ ∧ _ ∧ _ from ⟨hB4.cell 0 rfl, hB4.cell 1 rfl, hB4.cell 2 rfl, hB4.cell 3 rfl, hB4.cell 4 rfl, hB4.cell 5 rfl, hB4.cell 6 rfl, hB4.cell 7 rfl, hB4.cell 8 rfl, hB4.cell 9 rfl, hB4.cell 10 rfl⟩)
      go_simp
      refine hK.out _ _ trivial (fun hHeld => ?_)
      clear hK K
      (try simp only [Act.put, sA, sB, sC])
      clear k0 k1 k2 k3 k4 k5 k6 k7 k8 k9 k10
      refine wpAnyH_ready (rs := [3]) (by kernel_rfl) (by simp) ?_
      refine AllReadyH.cons (i := 3) rfl (fun K hK => ?_) AllReadyH.nil
      go_simp
      go_at_call 117
      refine (HLG.out _).mono ?_
      rintro _ w5 ⟨rfl, hb5⟩
      have HA5 := Lib.hid (ha4.below hb5)
      have HB5 := Lib.hid (hB4.later hb5)
      have HO5 := Lib.hid (((HO3.out.drewN 1).trans (On.of_on ho4 (fun k hk => hk.2))).same hb5 (fun k hk => by have := HO3.out.size; have := ho4.size; have := hk.1; simp only [World.drewN] at *; omega))
      refine hK.out _ _ trivial (fun hHeld => ?_)
      clear hK K ho4 hb5 hB4 ha4
      (try simp only [Act.put, sA, sB, sC])
      obtain ⟨k0, k1, k2, k3, k4, k5, k6, k7, k8, k9, k10⟩ := (show _ ∧ _ ∧ _ ∧ _ ∧ _ ∧ _ ∧ _ ∧ _ ∧ _ ∧ _ ∧ _ from ⟨HB5.out.cell 0 rfl, HB5.out.cell 1 rfl, HB5.out.cell 2 rfl, HB5.out.cell 3 rfl, HB5.out.cell 4 rfl, HB5.out.cell 5 rfl, HB5.out.cell 6 rfl, HB5.out.cell 7 rfl, HB5.out.cell 8 rfl, HB5.out.cell 9 rfl, HB5.out.cell 10 rfl⟩)
      obtain ⟨f0, f1, f2, f3, f4, f5, f6, f7, f8, f9, f10⟩ := (show _ ∧ _ ∧ _ ∧ _ ∧ _ ∧ _ ∧ _ ∧ _ ∧ _ ∧ _ ∧ _ from ⟨HB5.out.loose 0, HB5.out.loose 1, HB5.out.loose 2, HB5.out.loose 3, HB5.out.loose 4, HB5.out.loose 5, HB5.out.loose 6, HB5.out.loose 7, HB5.out.loose 8, HB5.out.loose 9, HB5.out.loose 10⟩)
      refine wpAnyH_ready (rs := [4]) (by kernel_rfl) (by simp) ?_
      refine AllReadyH.cons (i := 4) rfl (fun K hK => ?_) AllReadyH.nil
      go_simp
      refine hK.out _ (((((((((((w5.setCell ⟨gs, 0, none⟩ (.int .i64 s2.rq.key)).setCell ⟨gs, 1, none⟩ (.int .i64 s2.rq.op)).setCell ⟨gs, 2, none⟩ (.int .i64 s2.rq.a)).setCell ⟨gs, 3, none⟩ (.int .i64 s2.rq.b)).setCell ⟨gs, 4, none⟩ (.int .i64 s2.rq.amt)).setCell ⟨gs, 5, none⟩ (.int .i64 s2.rq.legs)).setCell ⟨gs, 6, none⟩ (.int .i64 s2.rq.til)).setCell ⟨gs, 7, none⟩ (.int .i64 s2.ph)).setCell ⟨gs, 8, none⟩ (.int .i64 s2.leg)).setCell ⟨gs, 9, none⟩ (.int .i64 s2.tries)).setCell ⟨gs, 10, none⟩ (.int .i64 s2.why)) trivial (fun hHeld => ?_)
      clear hK K
      (try simp only [Act.put, sA, sB, sC])
      refine wpAnyH_done (by kernel_rfl) ?_ _
      obtain ⟨hb6, hh6, hz6, ho6, ht6, hp6⟩ := sg_store HB5.out s2.rq.key s2.rq.op s2.rq.a s2.rq.b s2.rq.amt s2.rq.legs s2.rq.til s2.ph s2.leg s2.tries s2.why
      have HB6 := Lib.hid hb6
      have HO6 := Lib.hid (On.mk (F := fun k => k < w.heap.size ∧ k ≠ g) (ho6.trans HO5.out.os) (ht6.trans HO5.out.tape) (hp6.trans HO5.out.output) (Nat.le_trans HO5.out.size (Nat.le_of_eq hz6.symm)) (fun k hk => (hh6 k (by have := hk.1; have := HG.out; omega)).trans (HO5.out.block k hk)))
      have HA6 := Lib.hid (AnsAt.mk ((hh6 g (Ne.symm hne)).trans HA5.out.blk) (flags_far HA5.out.rd HB5.out (sg_no_bool s) (fun k hk => hh6 k (Ne.symm hk))) HA5.out.len HA5.out.us)
      clear k0 k1 k2 k3 k4 k5 k6 k7 k8 k9 k10 f0 f1 f2 f3 f4 f5 f6 f7 f8 f9 f10
      clear hb6 hh6 hz6 ho6 ht6 hp6 HA5 HB5 HO5 hHeld
      generalize (((((((((((w5.setCell ⟨gs, 0, none⟩ (.int .i64 s2.rq.key)).setCell ⟨gs, 1, none⟩ (.int .i64 s2.rq.op)).setCell ⟨gs, 2, none⟩ (.int .i64 s2.rq.a)).setCell ⟨gs, 3, none⟩ (.int .i64 s2.rq.b)).setCell ⟨gs, 4, none⟩ (.int .i64 s2.rq.amt)).setCell ⟨gs, 5, none⟩ (.int .i64 s2.rq.legs)).setCell ⟨gs, 6, none⟩ (.int .i64 s2.rq.til)).setCell ⟨gs, 7, none⟩ (.int .i64 s2.ph)).setCell ⟨gs, 8, none⟩ (.int .i64 s2.leg)).setCell ⟨gs, 9, none⟩ (.int .i64 s2.tries)).setCell ⟨gs, 10, none⟩ (.int .i64 s2.why)) = w6 at HB6 HO6 HA6 ⊢
      obtain ⟨c7, c10⟩ := (show _ ∧ _ from ⟨HB6.out.cell 7 rfl, HB6.out.cell 10 rfl⟩)
      by_cases hp2 : s2.ph = 1
      · have q := eqT hp2
        rw [if_pos hp2] at hfin
        subst hfin
        have h9 := hbk.1 hp2
        have HE9 := Lib.hid (show errV s2.why = eno s2.why by rw [errV, if_neg (by omega)])
        clear hp2 hml hbk h9
        go_wp2
        go_ret
        exact ⟨by rw [HE9.out]; rfl, HA6.out, HO6.out⟩
      · have q := eqF hp2
        rw [if_neg hp2] at hfin
        have hp0 := hbk.2 hp2
        have HL6 := Lib.hid (leftS_at HB6.out)
        have hm2 : mostS s2 = 4 * (if s2.leg < s2.rq.legs then s2.rq.legs - s2.leg else 0) - s2.tries + 2 := by unfold mostS; rw [if_pos hp0]
        have hlg := hsm2.leg
        have HFIN := Lib.hid hfin
        have HSM2 := Lib.hid hsm2
        have HP0 := Lib.hid hp0
        have HML := Lib.hid hml
        have HM2 := Lib.hid hm2
        have HLF := Lib.hid hlf
        have HMO := Lib.hid hmo
        have HMO0 := Lib.hid hmo0
        have HLGG := Lib.hid hlg
        clear hp2 hml hbk hm2 hlf hfin hsm2 hp0 hmo hmo0 hlg
        go_wp2
        go_roundw
        · exact ⟨s2, nn, f, HSM2.out, HP0.out, by have := HML.out; have := HMO.out; omega, HFIN.out, HB6.out, HA6.out, HO6.out⟩
        · rw [HL6.out, HLF.out]
          have h1 := HML.out
          have h2 := HM2.out
          have h3 := HMO0.out
          have h4 := HLGG.out
          split at h2 <;> omega
end Go.Proofs.YteifgmdaggiaaaaGreatDoor
