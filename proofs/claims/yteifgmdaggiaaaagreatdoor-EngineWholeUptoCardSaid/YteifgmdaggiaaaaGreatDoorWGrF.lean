/-
  ops.withLoss by its contract: what the house bears of a charge.
  What becomes of the accounts when an amount of a payment is captured, voided, refunded or charged: the program's effects by their contracts.
  What moves between accounts of a state that is being changed: the program's areClients, move, transfer, deposit, open, refuse by their contracts.
  The program's refuse, transfer, deposit and open, over a state that is being changed, by their contracts.
  The program's open, over a state that is being changed, by its contract.
-/
import Derived.Test.YteifgmdaggiaaaaGreatDoorWGrE
import Derived.Test.YteifgmdaggiaaaaGreatDoorWGrC
import Derived.Test.YteifgmdaggiaaaaGreatDoorWGrA
import Derived.Deep.CutRange
import Derived.Test.YteifgmdaggiaaaaGreatDoorWGrD
import Derived.Deep.RegionHeld3
import Derived.Test.YteifgmdaggiaaaaGreatDoorWGrB
import Derived.BigQuiet
import Derived.Deep.QuietTactic
import Derived.Deep.AppendLies
set_option linter.unusedSimpArgs false
namespace Go.Proofs.YteifgmdaggiaaaaGreatDoor
open Go Go.RowKit
set_option linter.unusedVariables false
set_option maxRecDepth 100000 in
set_option maxHeartbeats 1000000 in
theorem loss_any (A : Option Addr) (n cap g m capb base : Nat) (zs : List Ac) (y : Int) (r : List En) (d : Nat) (a : Ac) (w : World) (hl : zs.length = n) (hr : RdA w A zs) (hn : n ≤ 5864062014805)
  (hes : OwnE w base (.slice (some ⟨g, 0, none⟩) m capb) (⟨(d : Int), y⟩ :: r)) (hm : r.length + 1 = m) (hm9 : m ≤ 1000) (hA : ∀ ad, A = some ad → ad.block < base) (hd : zs[d]? = some a)
  (hc : 0 ≤ a.cur ∧ a.cur < 3) (hb : isMay a.bal) (hh : 0 ≤ a.held ∧ a.held ≤ 1125899906842624) (hy : isMay y) (hbase : base ≤ w.heap.size) :
  Calls Tryz.prog 174 #[.slice A n cap, .slice (some ⟨g, 0, none⟩) m capb] w fun e w' => ∃ v, e = .returned v ∧ OwnE w' base v (chgL zs (d : Int) (⟨(d : Int), y⟩ :: r)) ∧ Below base w w' := by
 obtain ⟨ad, rfl, hat⟩ := hr.at_ hd
 obtain ⟨c0, c1, c2⟩ := hat
 rw [add_next ad (d * 3) 1 (by omega)] at c1
 rw [add_next ad (d * 3) 2 (by omega)] at c2
 obtain ⟨e0, e1⟩ := hes.at_ (j := 0) rfl
 have hfr := hes.unfrozen (by simpa using hm.symm) 1
 rw [Nat.zero_mul, Nat.zero_add] at e1
 rw [Nat.zero_mul] at e0
 have hg : base ≤ g := hes.rowLt g rfl
 have hgw : g < w.heap.size := (World.ownsRow.lt hes g rfl).2
 have hab : ad.block < w.heap.size := by have := hA ad rfl; omega
 have HF := Lib.hid (fun W => free_any a W)
 have hfo : freeOf zs (d : Int) = a.bal - a.held := by unfold freeOf; rw [acOf_at hd]
 have hcu : (acOf zs (d : Int)).cur = a.cur := by rw [acOf_at hd]
 have hdn : d < n := by rw [← hl]; exact (List.getElem?_eq_some_iff.1 hd).1
 have HCH := Lib.hid (show chgL zs (d : Int) (⟨(d : Int), y⟩ :: r) = if a.bal - a.held < -y then ⟨(d : Int), -(a.bal - a.held)⟩ :: (r ++ [⟨3 * a.cur + 2, y + (a.bal - a.held)⟩]) else ⟨(d : Int), y⟩ :: r from by
   unfold chgL
   dsimp only
   rw [hfo, hcu])
 obtain ⟨c, b, l⟩ := a
 dsimp only at c0 c1 c2 HF hc hb hh HCH
 unfold isMay at hb hy
 rw [w64 (x := b - l) (by omega) (by omega)] at HF
 obtain ⟨f, hf⟩ : ∃ f, b - l = f := ⟨_, rfl⟩
 rw [hf] at HF HCH
 have hfb : -2251799813685248 ≤ f ∧ f ≤ 2251799813685248 := by omega
 have w1 : wrap64 (-y) = -y := w64 (by omega) (by omega)
 have w2 : wrap64 (-y - f) = -y - f := w64 (by omega) (by omega)
 have HES := Lib.hid hes
 have HM := Lib.hid hm
 have hm0 : 0 < m := by omega
 clear hr hd hl hA hfo hcu hf hes hm hb hh
 by_cases hx : f < -y
 · have HX := Lib.hid hx
   have q := decide_eq_false (show ¬ -y - f ≤ 0 by omega)
   have w3 : wrap64 (-f) = -f := w64 (by omega) (by omega)
   have w4 : wrap64 (-(-y - f)) = y + f := by rw [w64 (by omega) (by omega)]; omega
   have HNU := Lib.hid (fun W => number_some 2 c W (by omega) (by omega) hc.1 hc.2)
   have HHC := Lib.hid hc
   clear hx hy hfb hc
   go_enter Tryz.func174, Tryz.ntmps174
   go_upto_region 7 with (first
     | (go_at_call 67; refine (HF.out _).mono ?_; rintro e w1 ⟨rfl, hb1⟩
        have HB1 := Lib.hid (((Below.refl w.heap.size w).alloc (Nat.le_refl _) (.cells #[.int .i64 c, .int .i64 b, .int .i64 l] 90)).trans (hb1.mono (by simp)))
        have HE1 := Lib.hid (HES.out.below HB1.out)
        have HK1 := Lib.hid ((Blk.new w 90 #[.int .i64 c, .int .i64 b, .int .i64 l]).later hb1)
        have hz1 : w.heap.size < w1.heap.size := HK1.out.lt
        have x1 := (HE1.out.at_ (j := 0) rfl).2
        rw [Nat.zero_mul, Nat.zero_add] at x1
        have x2 := HE1.out.unfrozen (by simpa using HM.out.symm) 1
        have x3 := HK1.out.cell 0 rfl
        dsimp only at x1
        clear hb1 c0 c1 c2 e0 e1 hfr))
   have HE2 := Lib.hid ((HE1.out.set (by simpa using HM.out.symm) (j := 0) rfl (-f)).2)
   have HK2 := Lib.hid (HK1.out.setOther (b := g) (by omega) 1 (.int .i64 (-f)))
   have HB2 := Lib.hid ((HB1.out.mono hbase).setCell (p := ⟨g, 1, none⟩) hg (.int .i64 (-f)))
   rw [Nat.zero_mul, Nat.zero_add] at HE2
   have hz2 : base ≤ (w1.setCell ⟨g, 1, none⟩ (.int .i64 (-f))).heap.size := by simp; omega
   clear x1 x2 x3
   generalize w1.setCell ⟨g, 1, none⟩ (.int .i64 (-f)) = w2 at HE2 HK2 HB2 hz2 ⊢
   have x3 := HK2.out.cell 0 rfl
   go_wp2_with (first
     | (go_at_call 155; refine (HNU.out _).mono ?_; rintro e w3 ⟨rfl, rfl⟩)
     | (at_builtin; refine wpList_append_ent _ rfl (.tmp 32) (.tmp 39) rfl base _ _ rfl (HE2.out.alloc _) ⟨w2.heap.size, 0, none⟩ 1 ⟨c * 3 + 2, y + f⟩ rfl ⟨by simp [Addr.add], by simp [Addr.add]⟩ (by have := HM.out; simp; omega) (by simp; omega) ?_
        intro v3 w3 ho3 hg3
        have HO3 := Lib.hid ho3
        have HB3 := Lib.hid ((HB2.out.alloc hz2 (.cells #[.int .i64 (c * 3 + 2), .int .i64 (y + f)] 243)).grown hg3 (by simp; omega) (fun k hk => HE2.out.rowLt k hk))
        clear ho3 hg3))
   go_ret
   rw [HCH.out, if_pos HX.out]
   refine ⟨_, rfl, ?_, HB3.out⟩
   have h := HO3.out
   rw [show c * 3 + 2 = 3 * c + 2 by omega] at h
   exact h
 · have HX := Lib.hid hx
   have q := decide_eq_true (show -y - f ≤ 0 by omega)
   clear hx hy hfb hc
   go_enter Tryz.func174, Tryz.ntmps174
   go_wp2_with (first
     | (go_at_call 67; refine (HF.out _).mono ?_; rintro e w1 ⟨rfl, hb1⟩
        have HB1 := Lib.hid (((Below.refl w.heap.size w).alloc (Nat.le_refl _) (.cells #[.int .i64 c, .int .i64 b, .int .i64 l] 90)).trans (hb1.mono (by simp)))
        have HE1 := Lib.hid (HES.out.below HB1.out)
        have HK1 := Lib.hid ((Blk.new w 90 #[.int .i64 c, .int .i64 b, .int .i64 l]).later hb1)
        have hz1 : w.heap.size < w1.heap.size := HK1.out.lt
        have x1 := (HE1.out.at_ (j := 0) rfl).2
        rw [Nat.zero_mul, Nat.zero_add] at x1
        have x2 := HE1.out.unfrozen (by simpa using HM.out.symm) 1
        have x3 := HK1.out.cell 0 rfl
        dsimp only at x1
        clear hb1 c0 c1 c2 e0 e1 hfr))
   go_ret
   rw [HCH.out, if_neg (by have := HX.out; omega)]
   exact ⟨_, rfl, HE1.out, HB1.out.mono hbase⟩
/-- Accounts, if nothing is wrong, and an error by its number; nothing below is turned. -/
def FxRes (E : Int) (L : List Ac) (w : World) (e : Ending) (w' : World) : Prop :=
 ∃ v, e = .returned (.tuple #[v, errV E]) ∧ (E = 0 → OwnA w' w.heap.size v L) ∧ Below w.heap.size w w'
theorem fxRes_no {E F : Int} {L : List Ac} {w w' : World} {v : Value} (hE : E = F) (h0 : F ≠ 0) (hb : Below w.heap.size w w') : FxRes E L w (.returned (.tuple #[v, eno F])) w' := by
 subst hE
 exact ⟨v, by rw [errV, if_neg h0], fun h => absurd h h0, hb⟩
/-- An op that moves: its error, if the move goes. -/
theorem acc_mv {zs : List Ac} {p : Py} {op x : Int} (ho : op ≠ 5) (h : moveE zs p.frm p.dst x ≠ 0) : accE zs p op x = moveE zs p.frm p.dst x := by unfold accE; rw [if_neg ho, if_neg h]
set_option maxRecDepth 100000 in
theorem voided_any (A : Option Addr) (n cap : Nat) (zs : List Ac) (p : Py) (x : Int) (w : World) (hl : zs.length = n) (hr : RdA w A zs) (hn : n ≤ 5864062014805) (hnil : A = none → n = 0 ∧ cap = 0) :
  Calls Tryz.prog 159 #[.slice A n cap, p.val, .int .i64 x] w (FxRes (accE zs p 5 x) (accL zs p 5 x) w) := by
 obtain ⟨pf, pd, pa, pc, pr, pg, pt, pst⟩ := p
 have HLE := Lib.hid (fun W => left_any ⟨pf, pd, pa, pc, pr, pg, pt, pst⟩ W)
 have HRE := Lib.hid (fun W (hb : Below w.heap.size w W) => release_any A n cap zs pf (leftP ⟨pf, pd, pa, pc, pr, pg, pt, pst⟩) W hl (hr.below hb) hn hnil)
 unfold IntRes Py.val at HLE
 dsimp only at HLE
 obtain ⟨lf, hlf⟩ : ∃ lf, leftP ⟨pf, pd, pa, pc, pr, pg, pt, pst⟩ = lf := ⟨_, rfl⟩
 rw [hlf] at HLE HRE
 unfold LedRes at HRE
 have hE : accE zs ⟨pf, pd, pa, pc, pr, pg, pt, pst⟩ 5 x = relE zs pf lf := by unfold accE; rw [if_pos rfl]; dsimp only; rw [hlf]
 have hL : accL zs ⟨pf, pd, pa, pc, pr, pg, pt, pst⟩ 5 x = relL zs pf lf := by unfold accL; rw [if_pos rfl]; dsimp only; rw [hlf]
 rw [hE, hL]
 unfold Py.val
 dsimp only
 obtain ⟨E, hE0⟩ : ∃ E, relE zs pf lf = E := ⟨_, rfl⟩
 obtain ⟨L, hL0⟩ : ∃ L, relL zs pf lf = L := ⟨_, rfl⟩
 rw [hE0, hL0] at HRE ⊢
 clear hE hL hE0 hL0 hlf hl hr hnil
 go_enter Tryz.func159, Tryz.ntmps159
 go_upto_region 1 with fail
 have HP := Lib.hid (Blk.new w 96 #[.int .i64 pf, .int .i64 pd, .int .i64 pa, .int .i64 pc, .int .i64 pr, .int .i64 pg, .int .i64 pt, .int .i64 pst])
 have HB := Lib.hid ((Below.refl w.heap.size w).alloc (Nat.le_refl _) (.cells #[.int .i64 pf, .int .i64 pd, .int .i64 pa, .int .i64 pc, .int .i64 pr, .int .i64 pg, .int .i64 pt, .int .i64 pst] 96))
 have hlt := HP.out.lt
 generalize w.alloc (.cells #[.int .i64 pf, .int .i64 pd, .int .i64 pa, .int .i64 pc, .int .i64 pr, .int .i64 pg, .int .i64 pt, .int .i64 pst] 96) = w0 at HP HB hlt ⊢
 refine wp_region_held_drew (S := fun w' => Below w0.heap.size w0 w') (by kernel_rfl) (Below.refl _ _).drew (fun hHeld => ?_)
 refine tk 0 8 (v := ?_) ?_ ?_
 rotate_left
 · intro w' hSw
   go_simp
   (try with_reducible rfl)
 (try simp only [Act.put, sA, sB, sC])
 refine tk 1 9 (v := ?_) ?_ ?_
 rotate_left
 · intro w' hSw
   go_simp
   (try with_reducible rfl)
 (try simp only [Act.put, sA, sB, sC])
 refine tk 2 10 (v := ?_) ?_ ?_
 rotate_left
 · intro w' hSw
   have hSw' := hSw
   (try dsimp only at hSw')
   obtain ⟨k0, k1, k2, k3, k4, k5, k6, k7⟩ := (show _ ∧ _ ∧ _ ∧ _ ∧ _ ∧ _ ∧ _ ∧ _ from ⟨(HP.out.later hSw').cell 0 rfl, (HP.out.later hSw').cell 1 rfl, (HP.out.later hSw').cell 2 rfl, (HP.out.later hSw').cell 3 rfl, (HP.out.later hSw').cell 4 rfl, (HP.out.later hSw').cell 5 rfl, (HP.out.later hSw').cell 6 rfl, (HP.out.later hSw').cell 7 rfl⟩)
   go_simp
   (try with_reducible rfl)
 (try simp only [Act.put, sA, sB, sC])
 refine tk 3 11 (v := ?_) ?_ ?_
 rotate_left
 · intro w' hSw
   have hSw' := hSw
   (try dsimp only at hSw')
   obtain ⟨k0, k1, k2, k3, k4, k5, k6, k7⟩ := (show _ ∧ _ ∧ _ ∧ _ ∧ _ ∧ _ ∧ _ ∧ _ from ⟨(HP.out.later hSw').cell 0 rfl, (HP.out.later hSw').cell 1 rfl, (HP.out.later hSw').cell 2 rfl, (HP.out.later hSw').cell 3 rfl, (HP.out.later hSw').cell 4 rfl, (HP.out.later hSw').cell 5 rfl, (HP.out.later hSw').cell 6 rfl, (HP.out.later hSw').cell 7 rfl⟩)
   go_simp
   (try with_reducible rfl)
 (try simp only [Act.put, sA, sB, sC])
 refine wpAnyH_ready (rs := [4]) (by kernel_rfl) (by simp) ?_
 refine AllReadyH.cons (i := 4) rfl (fun K hK => ?_) AllReadyH.nil
 go_simp
 go_at_call 33
 refine (HLE.out _).mono ?_
 rintro _ w1 ⟨rfl, hb1⟩
 have hb1' : Below w0.heap.size w0 w1 := (Below.refl w0.heap.size w0).drew.trans hb1
 refine hK.out _ _ hb1' (fun hHeld => ?_)
 clear hK K
 (try simp only [Act.put, sA, sB, sC])
 refine wpAnyH_rebase hb1' ?_
 have hHeld : Below w1.heap.size w1 w1 := Below.refl _ _
 refine wpAnyH_ready (rs := [5]) (by kernel_rfl) (by simp) ?_
 refine AllReadyH.cons (i := 5) rfl (fun K hK => ?_) AllReadyH.nil
 go_simp
 go_at_call 164
 refine (HRE.out _ (HB.out.trans (hb1'.mono (by omega)))).mono ?_
 rintro _ w2 ⟨v2, rfl, ho2, hb2⟩
 refine hK.out _ _ hb2 (fun hHeld => ?_)
 clear hK K
 (try simp only [Act.put, sA, sB, sC])
 refine tk 6 14 (v := ?_) ?_ ?_
 rotate_left
 · intro w' hSw
   go_simp
   (try with_reducible rfl)
 (try simp only [Act.put, sA, sB, sC])
 refine tk 7 15 (v := ?_) ?_ ?_
 rotate_left
 · intro w' hSw
   go_simp
   (try with_reducible rfl)
 (try simp only [Act.put, sA, sB, sC])
 refine tk 8 6 (v := ?_) ?_ ?_
 rotate_left
 · intro w' hSw
   go_simp
   (try with_reducible rfl)
 (try simp only [Act.put, sA, sB, sC])
 refine tk 9 7 (v := ?_) ?_ ?_
 rotate_left
 · intro w' hSw
   go_simp
   (try with_reducible rfl)
 (try simp only [Act.put, sA, sB, sC])
 refine wpAnyH_done (by kernel_rfl) ?_ _
 go_wp2
 go_ret2
 have h1 : Below w.heap.size w w1 := HB.out.trans (hb1'.mono (by omega))
 exact ⟨v2, rfl, fun _ => ho2.less h1.size, h1.trans (hb2.mono h1.size)⟩
set_option maxRecDepth 100000 in
set_option maxHeartbeats 1000000 in
theorem captured_any (A : Option Addr) (n cap : Nat) (zs : List Ac) (p : Py) (x : Int) (w : World) (hl : zs.length = n) (hr : RdA w A zs) (hn : n ≤ 5864062014805) (hnil : A = none → n = 0 ∧ cap = 0) (hcu : Curs zs) :
  Calls Tryz.prog 158 #[.slice A n cap, p.val, .int .i64 x] w (FxRes (accE zs p 4 x) (accL zs p 4 x) w) := by
 obtain ⟨pf, pd, pa, pc, pr, pg, pt, pst⟩ := p
 have HMV := Lib.hid (fun W (hb : Below w.heap.size w W) => move_any A n cap zs pf pd x W hl (hr.below hb) hcu (by omega))
 unfold MoveRes at HMV
 unfold Py.val
 dsimp only
 by_cases hm : moveE zs pf pd x = 0
 · have hE : accE zs ⟨pf, pd, pa, pc, pr, pg, pt, pst⟩ 4 x = spendE zs x (moveL zs pf pd x) := by unfold accE; rw [if_neg (by decide), if_pos hm, if_pos rfl]
   have hL : accL zs ⟨pf, pd, pa, pc, pr, pg, pt, pst⟩ 4 x = spendL zs x (moveL zs pf pd x) := by unfold accL; rw [if_neg (by decide), if_pos rfl]
   rw [hE, hL]
   rw [errV, if_pos hm] at HMV
   obtain ⟨es, hes⟩ : ∃ es, moveL zs pf pd x = es := ⟨_, rfl⟩
   rw [hes] at HMV ⊢
   have hel : es.length ≤ 4 := by rw [← hes]; exact moveL_len zs pf pd x
   have HEL := Lib.hid hel
   have HL := Lib.hid hl
   have HR := Lib.hid hr
   have HNIL := Lib.hid hnil
   clear hE hL hm hl hr hnil hcu hes hel
   go_enter Tryz.func158, Tryz.ntmps158
   go_wp2_with (first
     | (go_at_call 141; refine (HMV.out _ ((Below.refl _ _).alloc (Nat.le_refl _) _)).mono ?_; rintro _ w1 ⟨v1, rfl, ho1, hb1⟩
        obtain ⟨B1, capb, rfl, hre, _, _, _⟩ := ho1.form
        have HB1 := Lib.hid (((Below.refl w.heap.size w).alloc (Nat.le_refl _) (.cells #[.int .i64 pf, .int .i64 pd, .int .i64 pa, .int .i64 pc, .int .i64 pr, .int .i64 pg, .int .i64 pt, .int .i64 pst] 96)).trans (hb1.mono (by simp)))
        have HSP := Lib.hid (spend_any A B1 n es.length cap capb zs x es w1 HL.out (HR.out.below HB1.out) rfl hre hn (by have := HEL.out; omega) HNIL.out)
        unfold LedRes at HSP
        clear ho1 hb1 hre)
     | (go_at_call 144; refine HSP.out.mono ?_; rintro _ w2 ⟨v2, rfl, ho2, hb2⟩))
   go_ret2
   exact ⟨v2, rfl, fun _ => ho2.less HB1.out.size, HB1.out.trans (hb2.mono HB1.out.size)⟩
 · rw [acc_mv (by decide) hm]
   dsimp only
   rw [errV, if_neg hm] at HMV
   obtain ⟨E, hE⟩ : ∃ E, moveE zs pf pd x = E := ⟨_, rfl⟩
   rw [hE] at HMV hm ⊢
   have HE := Lib.hid hm
   clear hE hm hl hr hnil hcu
   go_enter Tryz.func158, Tryz.ntmps158
   go_wp2_with (first
     | (go_at_call 141; refine (HMV.out _ ((Below.refl _ _).alloc (Nat.le_refl _) _)).mono ?_; rintro _ w1 ⟨v1, rfl, ho1, hb1⟩))
   go_ret2
   exact fxRes_no rfl HE.out (((Below.refl w.heap.size w).alloc (Nat.le_refl _) _).trans (hb1.mono (by simp)))
set_option maxRecDepth 100000 in
set_option maxHeartbeats 1000000 in
theorem refunded_any (A : Option Addr) (n cap : Nat) (zs : List Ac) (p : Py) (x : Int) (w : World) (hl : zs.length = n) (hr : RdA w A zs) (hn : n ≤ 5864062014805) (hnil : A = none → n = 0 ∧ cap = 0) (hcu : Curs zs) :
  Calls Tryz.prog 160 #[.slice A n cap, p.val, .int .i64 x] w (FxRes (accE zs p 6 x) (accL zs p 6 x) w) := by
 obtain ⟨pf, pd, pa, pc, pr, pg, pt, pst⟩ := p
 have HMV := Lib.hid (fun W (hb : Below w.heap.size w W) => move_any A n cap zs pf pd x W hl (hr.below hb) hcu (by omega))
 unfold MoveRes at HMV
 unfold Py.val
 dsimp only
 by_cases hm : moveE zs pf pd x = 0
 · have hE : accE zs ⟨pf, pd, pa, pc, pr, pg, pt, pst⟩ 6 x = postE zs (backE (moveL zs pf pd x)) := by unfold accE; rw [if_neg (by decide), if_pos hm, if_neg (by decide), if_pos rfl]
   have hL : accL zs ⟨pf, pd, pa, pc, pr, pg, pt, pst⟩ 6 x = postL zs (backE (moveL zs pf pd x)) := by unfold accL; rw [if_neg (by decide), if_neg (by decide), if_pos rfl]
   rw [hE, hL]
   rw [errV, if_pos hm] at HMV
   obtain ⟨es, hes⟩ : ∃ es, moveL zs pf pd x = es := ⟨_, rfl⟩
   rw [hes] at HMV ⊢
   have hel : es.length ≤ 4 := by rw [← hes]; exact moveL_len zs pf pd x
   have HEL := Lib.hid hel
   have HL := Lib.hid hl
   have HR := Lib.hid hr
   have HNIL := Lib.hid hnil
   clear hE hL hm hl hr hnil hcu hes hel
   go_enter Tryz.func160, Tryz.ntmps160
   go_wp2_with (first
     | (go_at_call 141; refine (HMV.out _ ((Below.refl _ _).alloc (Nat.le_refl _) _)).mono ?_; rintro _ w1 ⟨v1, rfl, ho1, hb1⟩
        obtain ⟨B1, capb, rfl, hre, _, _, _⟩ := ho1.form
        have HB1 := Lib.hid (((Below.refl w.heap.size w).alloc (Nat.le_refl _) (.cells #[.int .i64 pf, .int .i64 pd, .int .i64 pa, .int .i64 pc, .int .i64 pr, .int .i64 pg, .int .i64 pt, .int .i64 pst] 96)).trans (hb1.mono (by simp)))
        have HBK := Lib.hid (back_any B1 es.length capb es w1 rfl hre (by have := HEL.out; omega))
        clear ho1 hb1 hre)
     | (go_at_call 173; refine HBK.out.mono ?_; rintro _ w2 ⟨rfl, ho2, hb2⟩
        have HB2 := Lib.hid (HB1.out.trans (hb2.mono HB1.out.size))
        have HSP := Lib.hid (post_any A _ n es.length cap es.length zs (backE es) w2 HL.out (HR.out.below HB2.out) (backE_len es) ho2.rd hn (by have := HEL.out; omega) HNIL.out)
        unfold LedRes at HSP
        clear ho2 hb2)
     | (go_at_call 165; refine HSP.out.mono ?_; rintro _ w3 ⟨v3, rfl, ho3, hb3⟩))
   go_ret2
   exact ⟨v3, rfl, fun _ => ho3.less HB2.out.size, HB2.out.trans (hb3.mono HB2.out.size)⟩
 · rw [acc_mv (by decide) hm]
   dsimp only
   rw [errV, if_neg hm] at HMV
   obtain ⟨E, hE⟩ : ∃ E, moveE zs pf pd x = E := ⟨_, rfl⟩
   rw [hE] at HMV hm ⊢
   have HE := Lib.hid hm
   clear hE hm hl hr hnil hcu
   go_enter Tryz.func160, Tryz.ntmps160
   go_wp2_with (first
     | (go_at_call 141; refine (HMV.out _ ((Below.refl _ _).alloc (Nat.le_refl _) _)).mono ?_; rintro _ w1 ⟨v1, rfl, ho1, hb1⟩))
   go_ret2
   exact fxRes_no rfl HE.out (((Below.refl w.heap.size w).alloc (Nat.le_refl _) _).trans (hb1.mono (by simp)))
/-- The first of the entries the other way round is of the one that gets. -/
theorem moveE_in {zs : List Ac} {f t x : Int} (h : moveE zs f t x = 0) : (0 ≤ f ∧ f < (zs.length : Int)) ∧ (0 ≤ t ∧ t < (zs.length : Int)) ∧ 1 ≤ x ∧ x ≤ 1099511627776 := by
 unfold moveE at h
 split at h
 · omega
 · split at h
   · omega
   · omega
theorem right_held {zs : List Ac} (hr : rightB zs = true) {j : Nat} {a : Ac} (ha : zs[j]? = some a) : 0 ≤ a.held ∧ a.held ≤ 1125899906842624 := by
 obtain ⟨h1, h2, h3, h4⟩ := right_at hr ha
 unfold isMay at h2
 rcases Nat.lt_or_ge j 9 with hj | hj
 · have := h3 hj; omega
 · have := h4 hj; omega
theorem back_first {zs : List Ac} {f t x : Int} (hr : rightB zs = true) (h : moveE zs f t x = 0) : ∃ (d : Nat) (y : Int) (r : List En), t = (d : Int) ∧ backE (moveL zs f t x) = ⟨(d : Int), y⟩ :: r ∧ isMay y := by
 obtain ⟨h1, h2, h3⟩ := moveE_in h
 obtain ⟨d, hd⟩ : ∃ d : Nat, t = (d : Int) := ⟨t.toNat, by omega⟩
 unfold moveL
 rw [if_pos h]
 unfold moveOk
 have hm := h
 unfold moveE at hm
 rw [if_neg (by omega)] at hm
 split at hm
 · omega
 · by_cases hc : curOf zs f = curOf zs t
   · rw [if_pos hc]
     refine ⟨d, wrap64 (-x), _, hd, by rw [← hd]; rfl, ?_⟩
     rw [w64 (by omega) (by omega)]
     unfold isMay
     omega
   · rw [if_neg hc] at hm ⊢
     have hp : 0 ≤ conv (curOf zs f) (curOf zs t) x := by
      unfold conv
      refine Int.ediv_nonneg (Int.mul_nonneg (by omega) ?_) ?_
      · unfold rateN; repeat' split
        all_goals omega
      · unfold rateD; repeat' split
        all_goals omega
     unfold convE at hm
     split at hm
     · omega
     · refine ⟨d, wrap64 (-(conv (curOf zs f) (curOf zs t) x)), _, hd, by rw [← hd]; rfl, ?_⟩
       rw [w64 (by omega) (by omega)]
       unfold isMay
       omega
theorem RdA.lt_base {w : World} {A : Option Addr} {zs : List Ac} {B d : Nat} {a : Ac} (h : RdA w A zs) (hd : zs[d]? = some a) (hB : w.heap.size ≤ B) : ∀ ad, A = some ad → ad.block < B := fun ad e => by
 obtain ⟨ad', e', hat⟩ := h.at_ hd
 rw [e] at e'
 injection e' with e'
 subst e'
 have := World.block_lt_of_cell? w _ hat.c0
 rw [add_block] at this
 omega
set_option maxRecDepth 100000 in
set_option maxHeartbeats 1000000 in
theorem charged_any (A : Option Addr) (n cap : Nat) (zs : List Ac) (p : Py) (x : Int) (w : World) (hl : zs.length = n) (hr : RdA w A zs) (hn : n ≤ 5864062014805) (hnil : A = none → n = 0 ∧ cap = 0) (hcu : Curs zs) (hrt : rightB zs = true) :
  Calls Tryz.prog 161 #[.slice A n cap, p.val, .int .i64 x] w (FxRes (accE zs p 7 x) (accL zs p 7 x) w) := by
 obtain ⟨pf, pd, pa, pc, pr, pg, pt, pst⟩ := p
 have HMV := Lib.hid (fun W (hb : Below w.heap.size w W) => move_any A n cap zs pf pd x W hl (hr.below hb) hcu (by omega))
 unfold MoveRes at HMV
 unfold Py.val
 dsimp only
 by_cases hm : moveE zs pf pd x = 0
 · have hE : accE zs ⟨pf, pd, pa, pc, pr, pg, pt, pst⟩ 7 x = postE zs (chgL zs pd (backE (moveL zs pf pd x))) := by unfold accE; rw [if_neg (by decide), if_pos hm, if_neg (by decide), if_neg (by decide)]
   have hL : accL zs ⟨pf, pd, pa, pc, pr, pg, pt, pst⟩ 7 x = postL zs (chgL zs pd (backE (moveL zs pf pd x))) := by unfold accL; rw [if_neg (by decide), if_neg (by decide), if_neg (by decide)]
   rw [hE, hL]
   rw [errV, if_pos hm] at HMV
   obtain ⟨es, hes⟩ : ∃ es, moveL zs pf pd x = es := ⟨_, rfl⟩
   rw [hes] at HMV ⊢
   have hel : es.length ≤ 4 := by rw [← hes]; exact moveL_len zs pf pd x
   have HEL := Lib.hid hel
   have HL := Lib.hid hl
   have HR := Lib.hid hr
   have HNIL := Lib.hid hnil
   have HRT := Lib.hid hrt
   obtain ⟨d, y, r, hd0, hbk, hy⟩ := back_first hrt hm
   rw [hes] at hbk
   subst hd0
   obtain ⟨a, ha⟩ : ∃ a, zs[d]? = some a := ⟨_, List.getElem?_eq_getElem (by have := moveE_in hm; omega)⟩
   have hat := right_at hrt ha
   have hah := right_held hrt ha
   have HBF := Lib.hid hbk
   have HAT := Lib.hid hat
   have HAH := Lib.hid hah
   have HA := Lib.hid ha
   have HY := Lib.hid hy
   have hrl : r.length + 1 = es.length := by have h := backE_len es; rw [hbk] at h; simpa using h
   have HRL := Lib.hid hrl
   clear hE hL hm hl hr hnil hcu hes hel hrt hbk hat hah ha hy hrl
   go_enter Tryz.func161, Tryz.ntmps161
   go_wp2_with (first
     | (go_at_call 141; refine (HMV.out _ ((Below.refl _ _).alloc (Nat.le_refl _) _)).mono ?_; rintro _ w1 ⟨v1, rfl, ho1, hb1⟩
        obtain ⟨B1, capb, rfl, hre, _, _, _⟩ := ho1.form
        have HB1 := Lib.hid (((Below.refl w.heap.size w).alloc (Nat.le_refl _) (.cells #[.int .i64 pf, .int .i64 (d : Int), .int .i64 pa, .int .i64 pc, .int .i64 pr, .int .i64 pg, .int .i64 pt, .int .i64 pst] 96)).trans (hb1.mono (by simp)))
        have HBK := Lib.hid (back_any B1 es.length capb es w1 rfl hre (by have := HEL.out; omega))
        clear ho1 hb1 hre)
     | (go_at_call 173; refine HBK.out.mono ?_; rintro _ w2 ⟨rfl, ho2, hb2⟩
        have HB2 := Lib.hid (HB1.out.trans (hb2.mono HB1.out.size))
        rw [HBF.out] at ho2
        have HLO := Lib.hid (loss_any A n cap w1.heap.size es.length es.length w1.heap.size zs y r d a w2 HL.out (HR.out.below HB2.out) hn ho2 HRL.out (by have := HEL.out; omega) (RdA.lt_base HR.out HA.out HB1.out.size) HA.out HAT.out.1 HAT.out.2.1 HAH.out HY.out hb2.size)
        clear ho2 hb2)
     | (go_at_call 174; refine HLO.out.mono ?_; rintro _ w3 ⟨v3, rfl, ho3, hb3⟩
        obtain ⟨B3, cap3, rfl, hre3, hle3, hcm3, _⟩ := ho3.form
        have HB3 := Lib.hid (HB2.out.trans (hb3.mono HB1.out.size))
        have HSP := Lib.hid (post_any A B3 n _ cap cap3 zs _ w3 HL.out (HR.out.below HB3.out) rfl hre3 hn (by simp only [maxLen] at hcm3; omega) HNIL.out)
        unfold LedRes at HSP
        clear ho3 hb3 hre3 hle3 hcm3)
     | (go_at_call 165; refine HSP.out.mono ?_; rintro _ w4 ⟨v4, rfl, ho4, hb4⟩))
   go_ret2
   rw [HBF.out]
   exact ⟨v4, rfl, fun _ => ho4.less HB3.out.size, HB3.out.trans (hb4.mono HB3.out.size)⟩
 · rw [acc_mv (by decide) hm]
   dsimp only
   rw [errV, if_neg hm] at HMV
   obtain ⟨E, hE⟩ : ∃ E, moveE zs pf pd x = E := ⟨_, rfl⟩
   rw [hE] at HMV hm ⊢
   have HE := Lib.hid hm
   clear hE hm hl hr hnil hcu
   go_enter Tryz.func161, Tryz.ntmps161
   go_wp2_with (first
     | (go_at_call 141; refine (HMV.out _ ((Below.refl _ _).alloc (Nat.le_refl _) _)).mono ?_; rintro _ w1 ⟨v1, rfl, ho1, hb1⟩))
   go_ret2
   exact fxRes_no rfl HE.out (((Below.refl w.heap.size w).alloc (Nat.le_refl _) _).trans (hb1.mono (by simp)))
theorem areClients_any (A : Option Addr) (n cap : Nat) (a b : Int) (w : World) : Calls Tryz.prog 140 #[.slice A n cap, .int .i64 a, .int .i64 b] w fun e w' => e = .returned (.bool (decide (isC n a ∧ isC n b))) ∧ w = w' := by
 have HA := Lib.hid (fun W => isClient_any A n cap a W)
 have HB := Lib.hid (fun W => isClient_any A n cap b W)
 by_cases ha : isC n a
 · rw [show decide (9 ≤ a ∧ a < (n : Int)) = true from decide_eq_true ha] at HA
   by_cases hb : isC n b
   · rw [show decide (9 ≤ b ∧ b < (n : Int)) = true from decide_eq_true hb] at HB
     rw [decide_eq_true (show isC n a ∧ isC n b from ⟨ha, hb⟩)]
     clear ha hb
     go_enter Tryz.func140, Tryz.ntmps140
     go_wp2_with fail
     refine (HA.out _).mono ?_
     rintro _ w1 ⟨rfl, rfl⟩
     go_wp2_with fail
     refine (HB.out _).mono ?_
     rintro _ w1 ⟨rfl, rfl⟩
     go_wp2
     go_ret
     exact ⟨rfl, rfl⟩
   · rw [show decide (9 ≤ b ∧ b < (n : Int)) = false from decide_eq_false hb] at HB
     rw [decide_eq_false (show ¬ (isC n a ∧ isC n b) from fun h => hb h.2)]
     clear ha hb
     go_enter Tryz.func140, Tryz.ntmps140
     go_wp2_with fail
     refine (HA.out _).mono ?_
     rintro _ w1 ⟨rfl, rfl⟩
     go_wp2_with fail
     refine (HB.out _).mono ?_
     rintro _ w1 ⟨rfl, rfl⟩
     go_wp2
     go_ret
     exact ⟨rfl, rfl⟩
 · rw [show decide (9 ≤ a ∧ a < (n : Int)) = false from decide_eq_false ha] at HA
   rw [decide_eq_false (show ¬ (isC n a ∧ isC n b) from fun h => ha h.1)]
   clear ha HB
   go_enter Tryz.func140, Tryz.ntmps140
   go_wp2_with fail
   refine (HA.out _).mono ?_
   rintro _ w1 ⟨rfl, rfl⟩
   go_wp2
   go_ret
   exact ⟨rfl, rfl⟩
/-- The state behind a move. -/
def goS (s : St) (f t x : Int) : St := if goE s.acs f t x = 0 then ⟨goL s.acs f t x, s.pys, s.now⟩ else s
set_option maxRecDepth 100000 in
theorem omove_any (F : Nat → Prop) (g : Nat) (va vp X Y : Value) (s : St) (f t x : Int) (w : World) (h : Dr F w g va vp X Y s) (hrt : rightB s.acs = true) :
  Calls Tryz.prog 156 #[.pointer (some ⟨g, 0, none⟩), .int .i64 f, .int .i64 t, .int .i64 x] w (DrE F w g X Y (goS s f t x) (goE s.acs f t x)) := by
 obtain ⟨zs, ps, now⟩ := s
 obtain ⟨A, cap, rfl, hr, _, _, hnil⟩ := h.oa.form
 have hlen := right_len hrt
 dsimp only at *
 obtain ⟨n, hn⟩ : ∃ n, zs.length = n := ⟨_, rfl⟩
 rw [hn] at h hlen hnil
 have HD := Lib.hid h
 have c0 := h.blk.cell 0 rfl
 have HR := Lib.hid hr
 have HN := Lib.hid hn
 have HNIL := Lib.hid hnil
 have HMV := Lib.hid (fun W (hb : Below w.heap.size w W) => move_any A n cap zs f t x W hn (hr.below hb) (right_curs hrt) (by omega))
 unfold MoveRes at HMV
 obtain ⟨es, hes⟩ : ∃ es, moveL zs f t x = es := ⟨_, rfl⟩
 have hel : es.length ≤ 4 := by rw [← hes]; exact moveL_len zs f t x
 unfold goS goE goL
 dsimp only
 by_cases hm : moveE zs f t x = 0
 · rw [if_pos hm, hes]
   rw [hm, hes, show errV 0 = .nilIface from rfl] at HMV
   clear h hn hr hnil hm hes hrt
   have HPO := Lib.hid (fun W (hb : Below w.heap.size w W) B capb (hre : RdE W B es) => post_any A B n es.length cap capb zs es W HN.out (HR.out.below hb) rfl hre (by omega) (by omega) HNIL.out)
   unfold LedRes at HPO
   have HEL := Lib.hid hel
   clear hel
   by_cases hp : postE zs es = 0
   · rw [if_pos hp]
     rw [hp, show errV 0 = .nilIface from rfl] at HPO
     rw [hp]
     clear hp
     go_enter Tryz.func156, Tryz.ntmps156
     go_wp2_with (first
       | (go_at_call 141; refine (HMV.out _ (Below.refl _ _)).mono ?_; rintro _ w1 ⟨v1, rfl, ho1, hb1⟩
          obtain ⟨B1, capb, rfl, hre1, _, _, _⟩ := ho1.form
          have HD1 := Lib.hid (HD.out.below hb1)
          have HB1 := Lib.hid hb1
          have HRE := Lib.hid hre1
          have c1 := HD1.out.blk.cell 0 rfl
          clear ho1 hb1 hre1 c0)
       | (go_at_call 165; refine (HPO.out _ HB1.out _ _ HRE.out).mono ?_; rintro _ w2 ⟨v2, rfl, ho2, hb2⟩
          obtain ⟨A2, cap2, rfl, _, _, _, _⟩ := ho2.form
          have HS := Lib.hid (HD1.out.setA hb2 ho2)
          have c2 := (HD1.out.below hb2).blk.cell 0 rfl
          have f2 := (HD1.out.below hb2).blk.loose 0
          clear ho2 hb2 c1))
     go_ret
     exact ⟨_, _, rfl, HS.out.1, (HD.out.on HB1.out).trans HS.out.2⟩
   · rw [if_neg hp]
     obtain ⟨E, hE⟩ : ∃ E, postE zs es = E := ⟨_, rfl⟩
     rw [hE] at hp HPO ⊢
     rw [errV, if_neg hp] at HPO
     have HE := Lib.hid hp
     clear hp hE
     go_enter Tryz.func156, Tryz.ntmps156
     go_wp2_with (first
       | (go_at_call 141; refine (HMV.out _ (Below.refl _ _)).mono ?_; rintro _ w1 ⟨v1, rfl, ho1, hb1⟩
          obtain ⟨B1, capb, rfl, hre1, _, _, _⟩ := ho1.form
          have HD1 := Lib.hid (HD.out.below hb1)
          have HB1 := Lib.hid hb1
          have HRE := Lib.hid hre1
          have c1 := HD1.out.blk.cell 0 rfl
          clear ho1 hb1 hre1 c0)
       | (go_at_call 165; refine (HPO.out _ HB1.out _ _ HRE.out).mono ?_; rintro _ w2 ⟨v2, rfl, ho2, hb2⟩))
     go_ret
     exact drE_no HE.out (HD1.out.below hb2) ((HD.out.on HB1.out).trans (HD1.out.on hb2))
 · rw [if_neg hm]
   obtain ⟨E, hE⟩ : ∃ E, moveE zs f t x = E := ⟨_, rfl⟩
   rw [hE] at hm HMV ⊢
   rw [errV, if_neg hm] at HMV
   rw [if_neg hm]
   have HE := Lib.hid hm
   clear hm hE h hn hr hnil hes hrt
   go_enter Tryz.func156, Tryz.ntmps156
   go_wp2_with (first
     | (go_at_call 141; refine (HMV.out _ (Below.refl _ _)).mono ?_; rintro _ w1 ⟨v1, rfl, ho1, hb1⟩))
   go_ret
   exact drE_no HE.out (HD.out.below hb1) (HD.out.on hb1)
set_option maxRecDepth 100000 in
theorem orefuse_any (F : Nat → Prop) (g : Nat) (va vp X Y : Value) (s : St) (r : Rq) (w : World) (h : Dr F w g va vp X Y s) (h0 : ¬ (0 ≤ r.op ∧ r.op ≤ 7)) :
  Calls Tryz.prog 139 #[.pointer (some ⟨g, 0, none⟩), r.val] w (DrI F w g X Y (opS s r) (opI s r) (opE s r)) := by
 have hE : opE s r = 1 := by unfold opE; rw [if_neg (by omega), if_neg (by omega), if_neg (by omega), if_neg (by omega), if_neg (by omega)]
 rw [opS_no (by omega), hE, show opI s r = 0 by unfold opI; rw [if_neg (by omega)]]
 clear hE h0
 have HD := Lib.hid h
 clear h
 unfold Rq.val
 go_enter Tryz.func139, Tryz.ntmps139
 go_wp2
 go_ret2
 exact drI_no (by omega) (HD.out.alloc _) (HD.out.on ((Below.refl _ _).alloc (Nat.le_refl _) _))
set_option maxRecDepth 100000 in
set_option maxHeartbeats 1000000 in
theorem otransfer_any (F : Nat → Prop) (g : Nat) (va vp X Y : Value) (s : St) (r : Rq) (w : World) (h : Dr F w g va vp X Y s) (hrt : rightB s.acs = true) (h0 : r.op = 2) :
  Calls Tryz.prog 133 #[.pointer (some ⟨g, 0, none⟩), r.val] w (DrI F w g X Y (opS s r) (opI s r) (opE s r)) := by
 have hE : opE s r = if isC s.acs.length r.a ∧ isC s.acs.length r.b then goE s.acs r.a r.b r.amt else 2 := by unfold opE; rw [if_neg (by omega), if_neg (by omega), if_pos h0]
 have hI : opI s r = 0 := by
  unfold opI
  by_cases hz : opE s r = 0
  · rw [if_pos hz, if_neg (by omega), if_neg (by omega)]
  · rw [if_neg hz]
 rw [hI]
 by_cases hc : isC s.acs.length r.a ∧ isC s.acs.length r.b
 · rw [if_pos hc] at hE
   have hS : opS s r = goS s r.a r.b r.amt := by
    unfold opS goS
    rw [hE]
    by_cases hz : goE s.acs r.a r.b r.amt = 0
    · rw [if_pos hz, if_pos hz]; unfold opT; rw [if_neg (by omega), if_neg (by omega), if_pos h0]
    · rw [if_neg hz, if_neg hz]
   rw [hS, hE]
   clear hS hE hI h0
   have hcc := decide_eq_true hc
   clear hc
   obtain ⟨zs, ps, now⟩ := s
   obtain ⟨k, o, a, b, m, l, u⟩ := r
   obtain ⟨A, cap, rfl, hr, _, _, hnil⟩ := h.oa.form
   have hlen := right_len hrt
   dsimp only at *
   obtain ⟨n, hn⟩ : ∃ n, zs.length = n := ⟨_, rfl⟩
   rw [hn] at hcc h hlen hnil
   have HDQ := Lib.hid (h.alloc (.cells (rqC k o a b m l u) 42))
   have HRQ := Lib.hid (Blk.new w 42 (rqC k o a b m l u))
   have HON := Lib.hid (h.on ((Below.refl _ _).alloc (Nat.le_refl _) (.cells (rqC k o a b m l u) 42)))
   have HRT := Lib.hid hrt
   have HN := Lib.hid hn
   unfold Rq.val
   dsimp only
   clear h hr hnil hn hrt
   go_enter Tryz.func133, Tryz.ntmps133
   go_upto_region 1 with fail
   generalize w.alloc (.cells (rqC k o a b m l u) 42) = w1 at HDQ HRQ HON ⊢
   have c0 := HDQ.out.blk.cell 0 rfl
   have r2 := HRQ.out.cell 2 rfl
   have r3 := HRQ.out.cell 3 rfl
   have r4 := HRQ.out.cell 4 rfl
   have HC := Lib.hid (fun W => areClients_any A n cap a b W)
   rw [hcc] at HC
   have HMV := Lib.hid (fun W vb (hd : Dr F W g vb vp X Y ⟨zs, ps, now⟩) => omove_any F g vb vp X Y ⟨zs, ps, now⟩ a b m W hd HRT.out)
   unfold DrE at HMV
   clear hcc
   go_wp2
   go_quiet (first | (go_at_call 140; exact quiet_same (HC.out _)))
   go_wp2_with (first
     | (go_at_call 156; refine (HMV.out _ _ (HDQ.out.drewN _)).mono ?_; rintro _ w2 ⟨va2, vp2, rfl, hd2, ho2⟩))
   go_ret2
   exact ⟨_, _, rfl, hd2, HON.out.trans ((On.refl F w1).drewN _ |>.trans ho2)⟩
 · rw [if_neg hc] at hE
   rw [opS_no (by omega), hE]
   clear hE hI h0
   have hcc := decide_eq_false hc
   clear hc
   obtain ⟨zs, ps, now⟩ := s
   obtain ⟨k, o, a, b, m, l, u⟩ := r
   obtain ⟨A, cap, rfl, hr, _, _, hnil⟩ := h.oa.form
   have hlen := right_len hrt
   dsimp only at *
   obtain ⟨n, hn⟩ : ∃ n, zs.length = n := ⟨_, rfl⟩
   rw [hn] at hcc h hlen hnil
   have HDQ := Lib.hid (h.alloc (.cells (rqC k o a b m l u) 42))
   have HRQ := Lib.hid (Blk.new w 42 (rqC k o a b m l u))
   have HON := Lib.hid (h.on ((Below.refl _ _).alloc (Nat.le_refl _) (.cells (rqC k o a b m l u) 42)))
   have HRT := Lib.hid hrt
   have HN := Lib.hid hn
   unfold Rq.val
   dsimp only
   clear h hr hnil hn hrt
   go_enter Tryz.func133, Tryz.ntmps133
   go_upto_region 1 with fail
   generalize w.alloc (.cells (rqC k o a b m l u) 42) = w1 at HDQ HRQ HON ⊢
   have c0 := HDQ.out.blk.cell 0 rfl
   have r2 := HRQ.out.cell 2 rfl
   have r3 := HRQ.out.cell 3 rfl
   have r4 := HRQ.out.cell 4 rfl
   have HC := Lib.hid (fun W => areClients_any A n cap a b W)
   rw [hcc] at HC
   clear hcc
   go_wp2
   go_quiet (first | (go_at_call 140; exact quiet_same (HC.out _)))
   go_wp2
   go_ret2
   exact drI_no (by omega) (HDQ.out.drewN _) (HON.out.drewN _)
set_option maxRecDepth 100000 in
set_option maxHeartbeats 1000000 in
theorem odeposit_any (F : Nat → Prop) (g : Nat) (va vp X Y : Value) (s : St) (r : Rq) (w : World) (h : Dr F w g va vp X Y s) (hrt : rightB s.acs = true) (h0 : r.op = 1) :
  Calls Tryz.prog 132 #[.pointer (some ⟨g, 0, none⟩), r.val] w (DrI F w g X Y (opS s r) (opI s r) (opE s r)) := by
 have hE : opE s r = if isC s.acs.length r.a then goE s.acs (3 * (acOf s.acs r.a).cur) r.a r.amt else 2 := by unfold opE; rw [if_neg (by omega), if_pos h0]
 have hI : opI s r = 0 := by
  unfold opI
  by_cases hz : opE s r = 0
  · rw [if_pos hz, if_neg (by omega), if_neg (by omega)]
  · rw [if_neg hz]
 rw [hI]
 by_cases hc : isC s.acs.length r.a
 · rw [if_pos hc] at hE
   have hS : opS s r = goS s (3 * (acOf s.acs r.a).cur) r.a r.amt := by
    unfold opS goS
    rw [hE]
    by_cases hz : goE s.acs (3 * (acOf s.acs r.a).cur) r.a r.amt = 0
    · rw [if_pos hz, if_pos hz]; unfold opT; rw [if_neg (by omega), if_pos h0]
    · rw [if_neg hz, if_neg hz]
   rw [hS, hE]
   clear hS hE hI h0
   have hcc := decide_eq_true hc
   obtain ⟨j, hj⟩ : ∃ j : Nat, r.a = (j : Int) := ⟨r.a.toNat, by unfold isC at hc; omega⟩
   obtain ⟨ac, hac⟩ : ∃ ac, s.acs[j]? = some ac := ⟨_, List.getElem?_eq_getElem (by unfold isC at hc; omega)⟩
   rw [hj] at hcc
   rw [show (acOf s.acs r.a) = ac by rw [hj, acOf_at hac]]
   have hjl : j < s.acs.length := by unfold isC at hc; omega
   have hcur := right_curs hrt j ac hac
   clear hc
   obtain ⟨zs, ps, now⟩ := s
   obtain ⟨k, o, a, b, m, l, u⟩ := r
   obtain ⟨A, cap, rfl, hr, _, _, hnil⟩ := h.oa.form
   have hlen := right_len hrt
   dsimp only at *
   subst hj
   obtain ⟨n, hn⟩ : ∃ n, zs.length = n := ⟨_, rfl⟩
   rw [hn] at hcc hjl h hlen hnil
   have HDQ := Lib.hid (h.alloc (.cells (rqC k o (j : Int) b m l u) 42))
   have HRQ := Lib.hid (Blk.new w 42 (rqC k o (j : Int) b m l u))
   have HON := Lib.hid (h.on ((Below.refl _ _).alloc (Nat.le_refl _) (.cells (rqC k o (j : Int) b m l u) 42)))
   have HRT := Lib.hid hrt
   have HN := Lib.hid hn
   unfold Rq.val
   dsimp only
   clear h hr hnil hn hrt
   go_enter Tryz.func132, Tryz.ntmps132
   go_upto_region 1 with fail
   generalize w.alloc (.cells (rqC k o (j : Int) b m l u) 42) = w1 at HDQ HRQ HON ⊢
   have c0 := HDQ.out.blk.cell 0 rfl
   have r2 := HRQ.out.cell 2 rfl
   have r3 := HRQ.out.cell 3 rfl
   have r4 := HRQ.out.cell 4 rfl
   have HC := Lib.hid (fun W => isClient_any A n cap (j : Int) W)
   rw [show decide (9 ≤ (j : Int) ∧ (j : Int) < (n : Int)) = true from hcc] at HC
   obtain ⟨ad, rfl, hat⟩ := HDQ.out.oa.rd.at_ hac
   obtain ⟨x0, _, _⟩ := hat
   have HNU := Lib.hid (fun W => number_some 0 ac.cur W (by omega) (by omega) hcur.1 hcur.2)
   have HMV := Lib.hid (fun W vb (hd : Dr F W g vb vp X Y ⟨zs, ps, now⟩) => omove_any F g vb vp X Y ⟨zs, ps, now⟩ (ac.cur * 3 + 0) (j : Int) m W hd HRT.out)
   have e3 : ac.cur * 3 + 0 = 3 * ac.cur := by omega
   obtain ⟨xc, xb, xh⟩ := ac
   dsimp only at HNU HMV x0 e3 ⊢
   rw [e3] at HNU HMV
   unfold DrE at HMV
   clear hcc hac hcur e3
   go_wp2
   go_quiet (first | (go_at_call 97; exact quiet_same (HC.out _)))
   go_wp2
   have HDR := Lib.hid (HDQ.out.drewN nq)
   have HRR := Lib.hid (HRQ.out.drewN nq)
   have HOR := Lib.hid (HON.out.drewN nq)
   replace x0 : (w1.drewN nq).cell? (ad.add (j * 3)) = some (.int .i64 xc) := x0
   clear c0 r2 r3 r4
   generalize w1.drewN nq = w2 at HDR HRR HOR x0 ⊢
   have c0 := HDR.out.blk.cell 0 rfl
   have r2 := HRR.out.cell 2 rfl
   have r4 := HRR.out.cell 4 rfl
   go_quiet (first | (go_at_call 155; exact quiet_same (HNU.out _)))
   go_wp2_with (first
     | (go_at_call 156; refine (HMV.out _ _ (HDR.out.drewN _)).mono ?_; rintro _ w3 ⟨va3, vp3, rfl, hd3, ho3⟩))
   go_ret2
   exact ⟨_, _, rfl, hd3, HOR.out.trans (((On.refl F w2).drewN _).trans ho3)⟩
 · rw [if_neg hc] at hE
   rw [opS_no (by omega), hE]
   clear hE hI h0
   have hcc := decide_eq_false hc
   clear hc
   obtain ⟨zs, ps, now⟩ := s
   obtain ⟨k, o, a, b, m, l, u⟩ := r
   obtain ⟨A, cap, rfl, hr, _, _, hnil⟩ := h.oa.form
   have hlen := right_len hrt
   dsimp only at *
   obtain ⟨n, hn⟩ : ∃ n, zs.length = n := ⟨_, rfl⟩
   rw [hn] at hcc h hlen hnil
   have HDQ := Lib.hid (h.alloc (.cells (rqC k o a b m l u) 42))
   have HRQ := Lib.hid (Blk.new w 42 (rqC k o a b m l u))
   have HON := Lib.hid (h.on ((Below.refl _ _).alloc (Nat.le_refl _) (.cells (rqC k o a b m l u) 42)))
   have HRT := Lib.hid hrt
   have HN := Lib.hid hn
   unfold Rq.val
   dsimp only
   clear h hr hnil hn hrt
   go_enter Tryz.func132, Tryz.ntmps132
   go_upto_region 1 with fail
   generalize w.alloc (.cells (rqC k o a b m l u) 42) = w1 at HDQ HRQ HON ⊢
   have c0 := HDQ.out.blk.cell 0 rfl
   have r2 := HRQ.out.cell 2 rfl
   have r3 := HRQ.out.cell 3 rfl
   have r4 := HRQ.out.cell 4 rfl
   have HC := Lib.hid (fun W => isClient_any A n cap a W)
   rw [show decide (9 ≤ a ∧ a < (n : Int)) = false from hcc] at HC
   clear hcc
   go_wp2
   go_quiet (first | (go_at_call 97; exact quiet_same (HC.out _)))
   go_wp2
   go_ret2
   exact drI_no (by omega) (HDQ.out.drewN _) (HON.out.drewN _)
set_option maxRecDepth 100000 in
set_option maxHeartbeats 1000000 in
theorem oopen_any (F : Nat → Prop) (g : Nat) (va vp X Y : Value) (s : St) (r : Rq) (w : World) (h : Dr F w g va vp X Y s) (hrt : rightB s.acs = true) (h0 : r.op = 0) :
  Calls Tryz.prog 131 #[.pointer (some ⟨g, 0, none⟩), r.val] w (DrI F w g X Y (opS s r) (opI s r) (opE s r)) := by
 by_cases hl : 64 ≤ s.acs.length
 · have hE : opE s r = 7 := by unfold opE; rw [if_pos h0, if_pos hl]
   rw [opS_no (by omega), hE, show opI s r = 0 by unfold opI; rw [if_neg (by omega)]]
   clear hE h0
   obtain ⟨zs, ps, now⟩ := s
   obtain ⟨k, o, a, b, m, l, u⟩ := r
   obtain ⟨A, cap, rfl, hr, _, _, hnil⟩ := h.oa.form
   have hlen := right_len hrt
   dsimp only at *
   obtain ⟨n, hn⟩ : ∃ n, zs.length = n := ⟨_, rfl⟩
   rw [hn] at hl h hlen hnil
   have HDQ := Lib.hid (h.alloc (.cells (rqC k o a b m l u) 42))
   have HRQ := Lib.hid (Blk.new w 42 (rqC k o a b m l u))
   have HON := Lib.hid (h.on ((Below.refl _ _).alloc (Nat.le_refl _) (.cells (rqC k o a b m l u) 42)))
   have HRT := Lib.hid hrt
   have HN := Lib.hid hn
   unfold Rq.val
   dsimp only
   clear h hr hnil hn hrt
   go_enter Tryz.func131, Tryz.ntmps131
   go_upto_region 1 with fail
   generalize w.alloc (.cells (rqC k o a b m l u) 42) = w1 at HDQ HRQ HON ⊢
   have c0 := HDQ.out.blk.cell 0 rfl
   have r2 := HRQ.out.cell 2 rfl
   have r3 := HRQ.out.cell 3 rfl
   have r4 := HRQ.out.cell 4 rfl
   have q := decide_eq_true (show (64 : Int) ≤ (n : Int) by omega)
   go_wp2
   go_ret2
   exact drI_no (by omega) HDQ.out HON.out
 · have hE : opE s r = 0 := by unfold opE; rw [if_pos h0, if_neg hl]
   rw [opS_yes hE, hE, show opI s r = (s.acs.length : Int) by unfold opI; rw [if_pos hE, if_pos h0]]
   rw [show opT s r = ⟨s.acs ++ [⟨r.a, 0, 0⟩], s.pys, s.now⟩ by unfold opT; rw [if_pos h0]]
   clear hE h0
   have har := h.alt
   have hgR : g < w.heap.size := h.blk.lt
   obtain ⟨zs, ps, now⟩ := s
   obtain ⟨k, o, a, b, m, l, u⟩ := r
   obtain ⟨A, cap, rfl, hr, _, _, hnil⟩ := h.oa.form
   have hlen := right_len hrt
   dsimp only at *
   obtain ⟨n, hn⟩ : ∃ n, zs.length = n := ⟨_, rfl⟩
   rw [hn] at hl har h hlen hnil
   have HDQ := Lib.hid (h.alloc (.cells (rqC k o a b m l u) 42))
   have HRQ := Lib.hid (Blk.new w 42 (rqC k o a b m l u))
   have HON := Lib.hid (h.on ((Below.refl _ _).alloc (Nat.le_refl _) (.cells (rqC k o a b m l u) 42)))
   have HRT := Lib.hid hrt
   have HN := Lib.hid hn
   rw [hn]
   unfold Rq.val
   dsimp only
   clear h hr hnil hn hrt
   go_enter Tryz.func131, Tryz.ntmps131
   go_upto_region 1 with fail
   generalize w.alloc (.cells (rqC k o a b m l u) 42) = w1 at HDQ HRQ HON ⊢
   have c0 := HDQ.out.blk.cell 0 rfl
   have r2 := HRQ.out.cell 2 rfl
   have r3 := HRQ.out.cell 3 rfl
   have r4 := HRQ.out.cell 4 rfl
   have q := decide_eq_false (show ¬ (64 : Int) ≤ (n : Int) by omega)
   have HDW := HDQ
   have HGA := Lib.hid (fun b e => (HDQ.out.ag b e).1)
   have HAR := Lib.hid har
   clear har
   go_upto_region 3 with fail
   refine wp_region_held_drew (S := fun w' => Blk w' w.heap.size 42 (rqC k o a b m l u)) (by kernel_rfl) HRQ.out.drew (fun hHeld => ?_)
   refine tk 0 13 (v := ?_) ?_ ?_
   rotate_left
   · intro w' hSw
     go_simp
     (try with_reducible rfl)
   (try simp only [Act.put, sA, sB, sC])
   refine tk 1 14 (v := ?_) ?_ ?_
   rotate_left
   · intro w' hSw
     go_simp
     (try with_reducible rfl)
   (try simp only [Act.put, sA, sB, sC])
   refine tk 2 15 (v := ?_) ?_ ?_
   rotate_left
   · intro w' hSw
     go_simp
     (try with_reducible rfl)
   (try simp only [Act.put, sA, sB, sC])
   refine tk 3 16 (v := ?_) ?_ ?_
   rotate_left
   · intro w' hSw
     go_simp
     (try with_reducible rfl)
   (try simp only [Act.put, sA, sB, sC])
   refine tk 5 18 (v := ?_) ?_ ?_
   rotate_left
   · intro w' hSw
     go_simp
     (try with_reducible rfl)
   (try simp only [Act.put, sA, sB, sC])
   refine tk 6 19 (v := ?_) ?_ ?_
   rotate_left
   · intro w' hSw
     have hSw' := hSw
     (try dsimp only at hSw')
     have c2 := hSw'.cell 2 rfl
     go_simp
     (try with_reducible rfl)
   (try simp only [Act.put, sA, sB, sC])
   refine tk 7 20 (v := ?_) ?_ ?_
   rotate_left
   · intro w' hSw
     go_simp
     (try with_reducible rfl)
   (try simp only [Act.put, sA, sB, sC])
   refine wpAnyH_ready (rs := [4, 8]) (by kernel_rfl) (by simp) ?_
   refine AllReadyH.cons (i := 4) rfl (fun K hK => ?_) (AllReadyH.cons (i := 8) rfl (fun K hK => ?_) AllReadyH.nil)
   · go_simp
     refine hK.out _ _ hHeld (fun hHeld => ?_)
     clear hK K
     (try simp only [Act.put, sA, sB, sC])
     refine wpAnyH_ready (rs := [8]) (by kernel_rfl) (by simp) ?_
     refine AllReadyH.cons (i := 8) rfl (fun K hK => ?_) AllReadyH.nil
     go_simp
     refine hK.out _ _ (hHeld.more _) (fun hHeld => ?_)
     clear hK K
     (try simp only [Act.put, sA, sB, sC])
     have HDA := Lib.hid (HDW.out.alloc (.cells #[.int .i64 a, .int .i64 0, .int .i64 0] 90)).drew
     have HNB := Lib.hid (Blk.new w1 90 #[.int .i64 a, .int .i64 0, .int .i64 0]).drew
     refine wpAnyH_ready (rs := [9]) (by kernel_rfl) (by simp) ?_
     refine AllReadyH.cons (i := 9) rfl (fun K hK => ?_) AllReadyH.nil
     obtain ⟨i0, hi, hz0, hz1, hz2⟩ := info_parts info_acc
     refine step_append_lies _ rfl (.tmp 17) (.tmp 21) 30 rfl 0 90 i0 _ 3 24 Tryz.underlying30 hi hz0 hz1 hz2 rfl (by omega) (.slice A n cap) _ _ rfl (show OwnA _ 0 _ zs from HDA.out.oa) ⟨w1.heap.size, 0, none⟩ 1 1 (acells [⟨a, 0, 0⟩]) rfl rfl (World.news_of_block HNB.out) (acells_one _) (by omega) (by have := HN.out; simp only [maxLen]; omega) (by have := HN.out; omega) (Nat.zero_le _) _ rfl ?_
     clear hi hz0 hz1 hz2 i0
     intro g9 c9 w9 ho9 hg9 hat9 hlt9
     rw [HN.out] at ho9 ⊢
     refine hK.out _ _ (hHeld.grown hg9 (fun e => by have := HAR.out _ e.symm; omega)) (fun hHeld => ?_)
     clear hK K
     (try simp only [Act.put, sA, sB, sC])
     have HDX := Lib.hid (HDA.out.growA (zs := zs ++ [⟨a, 0, 0⟩]) (v := .slice (some ⟨g9, 0, none⟩) (n + 1) c9) hg9 (by unfold OwnA; rw [List.length_append, acells_append, HN.out]; exact ho9) (fun b e => by
         have e' : g9 = b := by simpa [Value.ownBlock] using e
         subst e'
         exact hat9))
     refine tk 10 23 (v := ?_) ?_ ?_
     rotate_left
     · intro w' hSw
       go_simp
       (try with_reducible rfl)
     (try simp only [Act.put, sA, sB, sC])
     refine tk 11 24 (v := ?_) ?_ ?_
     rotate_left
     · intro w' hSw
       go_simp
       (try with_reducible rfl)
     (try simp only [Act.put, sA, sB, sC])
     have f9 : w9.frozen? ⟨g, 0, none⟩ = false := (HDA.out.blk.grown hg9 (fun e => HGA.out _ e.symm rfl)).loose 0
     have g9_ := (HDA.out.blk.grown hg9 (fun e => HGA.out _ e.symm rfl)).cell 0 rfl
     refine wpAnyH_ready (rs := [12]) (by kernel_rfl) (by simp) ?_
     refine AllReadyH.cons (i := 12) rfl (fun K hK => ?_) AllReadyH.nil
     go_simp
     refine hK.out _ _ (hHeld.setOther (b := g) (by omega) _ _) (fun hHeld => ?_)
     clear hK K
     (try simp only [Act.put, sA, sB, sC])
     refine wpAnyH_done (by kernel_rfl) ?_ _
     clear hHeld f9 g9_
     have HD9 := Lib.hid HDX.out.1
     have HO9 := Lib.hid ((On.of ((Below.refl _ _).alloc (Nat.le_refl _) (.cells #[.int .i64 a, .int .i64 0, .int .i64 0] 90)) HDW.out.lt).drew.trans HDX.out.2)
     generalize w9.setCell ⟨g, 0, none⟩ (.slice (some ⟨g9, 0, none⟩) (n + 1) c9) = w10 at HD9 HO9 ⊢
     clear HDX HDA HNB ho9 hg9 hat9 hlt9 c0 r2 r3 r4
     have c0 := HD9.out.blk.cell 0 rfl
     go_wp2
     go_ret2
     exact ⟨_, _, rfl, HD9.out, HON.out.trans HO9.out⟩
   · go_simp
     refine hK.out _ _ (hHeld.more _) (fun hHeld => ?_)
     clear hK K
     (try simp only [Act.put, sA, sB, sC])
     refine wpAnyH_ready (rs := [4]) (by kernel_rfl) (by simp) ?_
     refine AllReadyH.cons (i := 4) rfl (fun K hK => ?_) AllReadyH.nil
     have c0' := (HDW.out.alloc (.cells #[.int .i64 a, .int .i64 0, .int .i64 0] 90)).blk.cell 0 rfl
     go_simp
     refine hK.out _ _ hHeld (fun hHeld => ?_)
     clear hK K
     (try simp only [Act.put, sA, sB, sC])
     have HDA := Lib.hid (HDW.out.alloc (.cells #[.int .i64 a, .int .i64 0, .int .i64 0] 90)).drew
     have HNB := Lib.hid (Blk.new w1 90 #[.int .i64 a, .int .i64 0, .int .i64 0]).drew
     refine wpAnyH_ready (rs := [9]) (by kernel_rfl) (by simp) ?_
     refine AllReadyH.cons (i := 9) rfl (fun K hK => ?_) AllReadyH.nil
     obtain ⟨i0, hi, hz0, hz1, hz2⟩ := info_parts info_acc
     refine step_append_lies _ rfl (.tmp 17) (.tmp 21) 30 rfl 0 90 i0 _ 3 24 Tryz.underlying30 hi hz0 hz1 hz2 rfl (by omega) (.slice A n cap) _ _ rfl (show OwnA _ 0 _ zs from HDA.out.oa) ⟨w1.heap.size, 0, none⟩ 1 1 (acells [⟨a, 0, 0⟩]) rfl rfl (World.news_of_block HNB.out) (acells_one _) (by omega) (by have := HN.out; simp only [maxLen]; omega) (by have := HN.out; omega) (Nat.zero_le _) _ rfl ?_
     clear hi hz0 hz1 hz2 i0
     intro g9 c9 w9 ho9 hg9 hat9 hlt9
     rw [HN.out] at ho9 ⊢
     refine hK.out _ _ (hHeld.grown hg9 (fun e => by have := HAR.out _ e.symm; omega)) (fun hHeld => ?_)
     clear hK K
     (try simp only [Act.put, sA, sB, sC])
     have HDX := Lib.hid (HDA.out.growA (zs := zs ++ [⟨a, 0, 0⟩]) (v := .slice (some ⟨g9, 0, none⟩) (n + 1) c9) hg9 (by unfold OwnA; rw [List.length_append, acells_append, HN.out]; exact ho9) (fun b e => by
         have e' : g9 = b := by simpa [Value.ownBlock] using e
         subst e'
         exact hat9))
     refine tk 10 23 (v := ?_) ?_ ?_
     rotate_left
     · intro w' hSw
       go_simp
       (try with_reducible rfl)
     (try simp only [Act.put, sA, sB, sC])
     refine tk 11 24 (v := ?_) ?_ ?_
     rotate_left
     · intro w' hSw
       go_simp
       (try with_reducible rfl)
     (try simp only [Act.put, sA, sB, sC])
     have f9 : w9.frozen? ⟨g, 0, none⟩ = false := (HDA.out.blk.grown hg9 (fun e => HGA.out _ e.symm rfl)).loose 0
     have g9_ := (HDA.out.blk.grown hg9 (fun e => HGA.out _ e.symm rfl)).cell 0 rfl
     refine wpAnyH_ready (rs := [12]) (by kernel_rfl) (by simp) ?_
     refine AllReadyH.cons (i := 12) rfl (fun K hK => ?_) AllReadyH.nil
     go_simp
     refine hK.out _ _ (hHeld.setOther (b := g) (by omega) _ _) (fun hHeld => ?_)
     clear hK K
     (try simp only [Act.put, sA, sB, sC])
     refine wpAnyH_done (by kernel_rfl) ?_ _
     clear hHeld f9 g9_
     have HD9 := Lib.hid HDX.out.1
     have HO9 := Lib.hid ((On.of ((Below.refl _ _).alloc (Nat.le_refl _) (.cells #[.int .i64 a, .int .i64 0, .int .i64 0] 90)) HDW.out.lt).drew.trans HDX.out.2)
     generalize w9.setCell ⟨g, 0, none⟩ (.slice (some ⟨g9, 0, none⟩) (n + 1) c9) = w10 at HD9 HO9 ⊢
     clear HDX HDA HNB ho9 hg9 hat9 hlt9 c0 r2 r3 r4
     have c0 := HD9.out.blk.cell 0 rfl
     go_wp2
     go_ret2
     exact ⟨_, _, rfl, HD9.out, HON.out.trans HO9.out⟩
end Go.Proofs.YteifgmdaggiaaaaGreatDoor
