/-
  The law's do by its contract: a charge that is refused.
-/
import Derived.Test.YtjnmppdohglcaaaDoorGrE
import Derived.Test.YtjnmppdohglcaaaDoorOpsFive
import Derived.Test.YtjnmppdohglcaaaDoorGrB
import Derived.Test.YtjnmppdohglcaaaDoorGrC
import Derived.Test.YtjnmppdohglcaaaDoorGrH
import Derived.Test.YtjnmppdohglcaaaDoorGrA
import Derived.BigQuiet
import Derived.BigRegion
import Derived.Deep.QuietTactic
import Derived.Deep.CutRange
import Derived.Deep.RegionHeld3
import Derived.IntWalk
import Derived.WalkSpells
import Derived.Test.YtjnmppdohglcaaaDoorOpsSmall
import Derived.Test.YtjnmppdohglcaaaDoorGrD
import Derived.Test.YtjnmppdohglcaaaDoorGrF
import Derived.Test.YtjnmppdohglcaaaDoorOpsSev
import Derived.Deep.RegionLaw
namespace Go.Proofs.YtjnmppdohglcaaaDoor
open Go Go.RowKit
set_option linter.unusedVariables false

set_option maxRecDepth 100000 in
set_option maxHeartbeats 4000000 in
theorem lawop_chg_no (s : St) (X Y : Value) (A : Option Addr) (c : Nat) (B : Option Addr) (d : Nat) (r : Rq) (w : World) (hs : StAt w s X Y A c B d) (hX : IsSl X) (hY : IsSl Y) (hl9 : 9 ≤ s.acs.length) (hl64 : s.acs.length ≤ 64) (hp64 : s.pys.length ≤ 2000000) (hh : HasErr w) (hcu : Curs s.acs) (h0 : r.op = 7) (hc : 0 ≤ r.a ∧ r.a < (s.pys.length : Int)) (hP : payE (pyAt s.pys r.a) 7 r.amt = 0) (hrt : rightB s.acs = true) (hM : moveE s.acs (pyAt s.pys r.a).frm (pyAt s.pys r.a).dst r.amt = 0) (E : Int) (hE : postE s.acs (chgL s.acs (pyAt s.pys r.a).dst (backE (moveL s.acs (pyAt s.pys r.a).frm (pyAt s.pys r.a).dst r.amt))) = E) (hE0 : E ≠ 0) :
    Calls Tryd.prog 9 #[stV s X Y A c B d, r.val] w (OpRes w s X Y E 0) := by
  obtain ⟨zs, ps, now⟩ := s
  obtain ⟨k, o, a, b, m, l, u⟩ := r
  obtain ⟨SA, sn, sc, rfl⟩ := hX
  obtain ⟨KA, kn, kc, rfl⟩ := hY
  obtain ⟨ad, rfl, _⟩ := hs.accs (by omega)
  have HS := Lib.hid hs
  dsimp only at h0 hc hP hM hE hl9 hl64 hp64 ⊢
  obtain ⟨n, hn⟩ : ∃ n, zs.length = n := ⟨_, rfl⟩
  obtain ⟨q, hq⟩ : ∃ q, ps.length = q := ⟨_, rfl⟩
  have HN := Lib.hid hn
  have HQ := Lib.hid hq
  unfold OpRes stV Rq.val
  dsimp only
  subst h0
  obtain ⟨j, rfl⟩ : ∃ j : Nat, a = (j : Int) := ⟨a.toNat, by omega⟩
  obtain ⟨⟨pf, pd, pa, pc, pr, pg, pt, pst⟩, hpy⟩ : ∃ p, ps[j]? = some p := ⟨_, List.getElem?_eq_getElem (by omega)⟩
  obtain ⟨bd, rfl, _⟩ := HS.out.pays.at_ hpy
  simp only [pyAt_at hpy] at hP hM hE ⊢
  (try simp only [Int.toNat_natCast])
  obtain ⟨⟨qf, qd, qa, qc, qr, qg, qt, qs⟩, hpq⟩ : ∃ p', payP ⟨pf, pd, pa, pc, pr, pg, pt, pst⟩ 7 m = p' := ⟨_, rfl⟩
  (try simp only [hpq])
  have HPQ := Lib.hid hpq
  clear hpq
  have HPY := Lib.hid hpy
  clear hpy
  have hcs := Lib.hid hcu
  clear hcu
  obtain ⟨t, y, rr, ht, hbk, hy⟩ := back_first hrt hM
  have htn : t < n := by have := moveE_in hM; omega
  subst ht
  obtain ⟨⟨tc, tb, th⟩, hta⟩ : ∃ ac, zs[t]? = some ac := ⟨_, List.getElem?_eq_getElem (by omega)⟩
  have hat := right_at hrt hta
  have hah := right_held hrt hta
  obtain ⟨cl, hcl⟩ : ∃ cl, chgL zs (t : Int) (backE (moveL zs pf (t : Int) m)) = cl := ⟨_, rfl⟩
  simp only [hcl] at hE ⊢
  have HCL := Lib.hid (show cl = if tb - th < -y then ⟨(t : Int), -(tb - th)⟩ :: (rr ++ [⟨3 * tc + 2, y + (tb - th)⟩]) else ⟨(t : Int), y⟩ :: rr from by
    rw [← hcl, hbk]
    unfold chgL
    dsimp only
    rw [show freeOf zs (t : Int) = tb - th by unfold freeOf; rw [acOf_at hta], acOf_at hta])
  have HBF := Lib.hid hbk
  have HTA := Lib.hid hta
  have HYB := Lib.hid hy
  have HAT := Lib.hid hat
  have HAH := Lib.hid hah
  clear hbk hta hy hat hah hcl
  (try simp only [hn, hq] at hc hP hM hE hl9 hl64 hp64)
  simp only [hn, hq]
  clear hs hn hq
  go_enter Tryd.func9, Tryd.ntmps9
  go_upto_region 40 with (at_builtin; first
    | (refine wpList_append_accs _ rfl (.const (.slice none 0 0)) (.tmp 24) rfl (w.heap.size + 5) (.slice none 0 0) [] zs rfl OwnA.nil ad n c rfl HN.out (HS.out.accs.below (w5_below w _ _)) (by simp) (by omega) (by simp) ?_
       intro v1 w1 ho1 hg1
       have F1 := Lib.hid ((w5_five w (stC (some ad) n c (some bd) q d (.slice SA sn sc) (.slice KA kn kc) now) (rqC k 7 (j : Int) b m l u)).grown hg1 (fun g h => by cases h))
       rw [List.nil_append] at ho1
       obtain ⟨A1, d1, hv1, _, _, _, _⟩ := ho1.form
       rw [HN.out] at hv1
       subst hv1
       have O1 := Lib.hid ho1
       have c1 := F1.out.bt.cell 0 rfl
       have f1 := F1.out.bt.loose 0
       have F2 := Lib.hid (F1.out.setT 0 (.slice A1 n d1))
       have O2 := Lib.hid (O1.out.setOther (p := ⟨w.heap.size + 1 + 1 + 1 + 1, 0, none⟩) (u := .slice A1 n d1) (fun g hg => by have := O1.out.rowLt g hg; dsimp only; omega))
       have c2 := F2.out.bs.cell 1 rfl
       have hz2 : w.heap.size + 5 ≤ w1.heap.size := F1.out.size
       clear ho1 hg1 O1 F1)
    | (refine wpList_append_new pays 32 Tryd.underlying32 info_pay rfl _ rfl (.const (.slice none 0 0)) (.tmp 28) rfl (w.heap.size + 5) ps rfl (some bd) q d rfl HQ.out (HS.out.pays.below F2.out.below) (by omega) (by omega) (by simp; omega) ?_
       intro v2 w2 ho2 hg2 hf2
       obtain ⟨A2, d2, hv2, _, _, _, _⟩ := ho2.form
       rw [HQ.out] at hv2
       subst hv2
       have F3 := Lib.hid (F2.out.grown hg2 (fun g h => by cases h))
       have O3 := Lib.hid (O2.out.same (w' := w2) (fun g hg => hg2.block g (World.ownsRow.lt O2.out g hg).2 (by nofun)))
       have P3 := Lib.hid ho2
       have c3 := F3.out.bt.cell 1 rfl
       have f3 := F3.out.bt.loose 1
       have F4 := F3.out.setT 1 (.slice A2 q d2)
       have HPRE := Lib.hid (show Pre w (w2.setCell ⟨w.heap.size + 1 + 1 + 1 + 1, 1, none⟩ (.slice A2 q d2)) ⟨zs, ps, now⟩ (.slice SA sn sc) (.slice KA kn kc) (some ad) c (some bd) d (stC (some ad) n c (some bd) q d (.slice SA sn sc) (.slice KA kn kc) now) (rqC k 7 (j : Int) b m l u) (.slice A1 n d1) (.slice A2 q d2) now from
         ⟨F4, O3.out.setOther (fun g hg => by have := O3.out.rowLt g hg; dsimp only; omega), P3.out.setOther (fun g hg => by have := P3.out.rowLt g hg; dsimp only; omega), HS.out.below F4.below,
          fun g h1 h2 => by have h3 := (World.ownsRow.lt O2.out g h1).2; have h4 := hf2 g h2; omega⟩)
       have cr := HPRE.out.five.br.cell 1 rfl
       clear ho2 hg2 hf2 F3 F4 O3 P3 F2 O2 c2))
  clear c1 f1 c3 f3 cr
  generalize w2.setCell ⟨w.heap.size + 1 + 1 + 1 + 1, 1, none⟩ (.slice A2 q d2) = W at HPRE ⊢
  have HF := Lib.hid HPRE.out.five
  obtain ⟨x0, x1, x2, x3, x4⟩ := (show _ ∧ _ ∧ _ ∧ _ ∧ _ from ⟨HF.out.bs.cell 0 rfl, HF.out.bs.cell 1 rfl, HF.out.bs.cell 2 rfl, HF.out.bs.cell 3 rfl, HF.out.bs.cell 4 rfl⟩)
  obtain ⟨r0, r1, r2, r3, r4, r5, r6⟩ := (show _ ∧ _ ∧ _ ∧ _ ∧ _ ∧ _ ∧ _ from ⟨HF.out.br.cell 0 rfl, HF.out.br.cell 1 rfl, HF.out.br.cell 2 rfl, HF.out.br.cell 3 rfl, HF.out.br.cell 4 rfl, HF.out.br.cell 5 rfl, HF.out.br.cell 6 rfl⟩)
  obtain ⟨_, e1, hat⟩ := HPRE.out.st.pays.at_ HPY.out
  obtain rfl := Option.some.inj e1
  obtain ⟨p0, p1, p2, p3, p4, p5, p6, p7⟩ := pay_cells hat
  dsimp only at p0 p1 p2 p3 p4 p5 p6 p7
  have qa : decide ((j : Int) < 0) = false := decide_eq_false (by omega)
  have hjq : j < q := by omega
  have hzr : w.heap.size + 1 < W.heap.size := HF.out.br.lt
  have hzs : w.heap.size < W.heap.size := HF.out.bs.lt
  have HDO := Lib.hid (fun Wx => do_any ⟨pf, (t : Int), pa, pc, pr, pg, pt, pst⟩ 7 m Wx)
  unfold PayRes payR at HDO
  rw [hP, if_pos rfl, HPQ.out, errV, if_pos rfl] at HDO
  unfold Py.val at HDO
  dsimp only at HDO
  go_upto_region 51 with (first | (go_at_call 25; refine (HDO.out _).mono ?_; rintro _ w6 ⟨rfl, hb6⟩; have HB6 := Lib.hid (((Below.refl W.heap.size W).alloc (Nat.le_refl _) (.cells #[.int .i64 pf, .int .i64 (t : Int), .int .i64 pa, .int .i64 pc, .int .i64 pr, .int .i64 pg, .int .i64 pt, .int .i64 pst] 47)).trans (hb6.mono (by simp))); have HF6 := Lib.hid (HF.out.later HB6.out); have HPB := Lib.hid ((Blk.new W 47 #[.int .i64 pf, .int .i64 (t : Int), .int .i64 pa, .int .i64 pc, .int .i64 pr, .int .i64 pg, .int .i64 pt, .int .i64 pst]).later hb6); clear hb6))
  clear x0 x1 x2 x3 x4 r0 r1 r2 r3 r4 r5 r6 p0 p1 p2 p3 p4 p5 p6 p7 qa
  have HV7 := Lib.hid (show Sev w (w6.alloc (.cells #[.int .i64 qf, .int .i64 qd, .int .i64 qa, .int .i64 qc, .int .i64 qr, .int .i64 qg, .int .i64 qt, .int .i64 qs] 47)) (stC (some ad) n c (some bd) q d (.slice SA sn sc) (.slice KA kn kc) now) (rqC k 7 (j : Int) b m l u) #[.slice A1 n d1, .slice A2 q d2, .slice SA sn sc, .slice KA kn kc, .int .i64 now] W.heap.size #[.int .i64 pf, .int .i64 (t : Int), .int .i64 pa, .int .i64 pc, .int .i64 pr, .int .i64 pg, .int .i64 pt, .int .i64 pst] w6.heap.size #[.int .i64 qf, .int .i64 qd, .int .i64 qa, .int .i64 qc, .int .i64 qr, .int .i64 qg, .int .i64 qt, .int .i64 qs] (.slice A2 q d2) ps W.heap.size from ⟨HF6.out.alloc _, HPB.out.more _, Blk.new w6 _ _, (HPRE.out.op.below HB6.out).alloc _, Nat.le_refl _, HB6.out.size, fun g hg => (World.ownsRow.lt HPRE.out.op g hg).2, HF.out.size, by have := HB6.out.size; simp; omega⟩)
  have HB7 := Lib.hid (HB6.out.alloc HB6.out.size (.cells #[.int .i64 qf, .int .i64 qd, .int .i64 qa, .int .i64 qc, .int .i64 qr, .int .i64 qg, .int .i64 qt, .int .i64 qs] 47))
  clear HF6 HPB HB6
  generalize w6.alloc (.cells #[.int .i64 qf, .int .i64 qd, .int .i64 qa, .int .i64 qc, .int .i64 qr, .int .i64 qg, .int .i64 qt, .int .i64 qs] 47) = w7 at HV7 HB7 ⊢
  generalize w6.heap.size = gq at HV7 ⊢
  obtain ⟨x0, x1, x2, x3, x4⟩ := (show _ ∧ _ ∧ _ ∧ _ ∧ _ from ⟨HV7.out.five.bs.cell 0 rfl, HV7.out.five.bs.cell 1 rfl, HV7.out.five.bs.cell 2 rfl, HV7.out.five.bs.cell 3 rfl, HV7.out.five.bs.cell 4 rfl⟩)
  obtain ⟨r0, r1, r2, r3, r4, r5, r6⟩ := (show _ ∧ _ ∧ _ ∧ _ ∧ _ ∧ _ ∧ _ from ⟨HV7.out.five.br.cell 0 rfl, HV7.out.five.br.cell 1 rfl, HV7.out.five.br.cell 2 rfl, HV7.out.five.br.cell 3 rfl, HV7.out.five.br.cell 4 rfl, HV7.out.five.br.cell 5 rfl, HV7.out.five.br.cell 6 rfl⟩)
  obtain ⟨p0, p1, p2, p3, p4, p5, p6, p7⟩ := (show _ ∧ _ ∧ _ ∧ _ ∧ _ ∧ _ ∧ _ ∧ _ from ⟨HV7.out.bp.cell 0 rfl, HV7.out.bp.cell 1 rfl, HV7.out.bp.cell 2 rfl, HV7.out.bp.cell 3 rfl, HV7.out.bp.cell 4 rfl, HV7.out.bp.cell 5 rfl, HV7.out.bp.cell 6 rfl, HV7.out.bp.cell 7 rfl⟩)
  have HMV := Lib.hid (fun Wx (hb : Below W.heap.size W Wx) => move_any (some ad) n c zs pf (t : Int) m Wx HN.out (HPRE.out.st.accs.below hb) hcs.out (by omega))
  unfold MoveRes at HMV
  rw [hM, errV, if_pos rfl] at HMV
  obtain ⟨e6, he6⟩ : ∃ e6, (moveL zs pf (t : Int) m).length = e6 := ⟨_, rfl⟩
  have HE6 := Lib.hid he6
  have hle6 : e6 ≤ 4 := by rw [← he6]; exact moveL_len _ _ _ _
  have HBK := Lib.hid (fun Wx (hb : Below W.heap.size W Wx) B6 c6 (hr : RdE Wx B6 (moveL zs pf (t : Int) m)) => (back_any B6 e6 c6 (moveL zs pf (t : Int) m) Wx he6 hr (by omega)).mono fun e w' h => (show ∃ gb, e = .returned (.slice (some ⟨gb, 0, none⟩) e6 e6) ∧ Wx.heap.size ≤ gb ∧ OwnE w' gb (.slice (some ⟨gb, 0, none⟩) e6 e6) ((⟨(t : Int), y⟩ :: rr)) ∧ Below Wx.heap.size Wx w' from by
    have h2 := h.2.1
    rw [HBF.out] at h2
    exact ⟨Wx.heap.size, h.1, Nat.le_refl _, h2, h.2.2⟩))
  have HPO := Lib.hid (fun Wx (hb : Below W.heap.size W Wx) B6 m6 c6 (he : (cl).length = m6) (hm6 : m6 ≤ 1000) (hr : RdE Wx B6 (cl)) => post_any (some ad) B6 n m6 c c6 zs (cl) Wx HN.out (HPRE.out.st.accs.below hb) he hr (by omega) (by omega) (fun h => by cases h))
  unfold LedRes at HPO
  rw [hE, errV, if_neg hE0] at HPO
  unfold eno at HPO
  have HTL := Lib.hid (fun Wx (hb : Below w.heap.size w Wx) => told_any E Wx (hh.below hb))
  rw [errV, if_neg hE0] at HTL
  unfold eno at HTL
  have HLE := Lib.hid (show (⟨(t : Int), y⟩ :: rr : List En).length = e6 by have h := backE_len (moveL zs pf (t : Int) m); rw [HBF.out] at h; exact h.trans he6)
  have he60 : 0 < e6 := by rw [← HLE.out]; simp
  clear he6
  obtain ⟨fr, hf0⟩ : ∃ fr, tb - th = fr := ⟨_, rfl⟩
  rw [hf0] at HCL
  obtain ⟨htc, htb, _⟩ := HAT.out
  have hth := HAH.out
  have hyb := HYB.out
  unfold isMay at htb hyb
  (try dsimp only at htc htb hth)
  have hfr : IntKind.i64.wrap (tb - th) = fr := by rw [IntKind.wrap_i64]; omega
  have hw1 : wrap64 (-y) = -y := w64 (by omega) (by omega)
  have hw2 : IntKind.i64.wrap (3 * tc) = 3 * tc := by rw [IntKind.wrap_i64]; omega
  have hw3 : IntKind.i64.wrap (3 * tc + 2) = 3 * tc + 2 := by rw [IntKind.wrap_i64]; omega
  have hw4 : IntKind.i64.wrap (y + fr) = y + fr := by rw [IntKind.wrap_i64]; omega
  have hw5 : wrap64 (-fr) = -fr := w64 (by omega) (by omega)
  clear hf0 htc htb hth hyb
  go_upto_region 59 with (first | (go_at_call 22; refine (HMV.out _ HB7.out).mono ?_; rintro _ w8 ⟨v8, rfl, ho8, hb8⟩; obtain ⟨A6, c6, hv6, hr6, _, _, _⟩ := ho8.form; rw [HE6.out] at hv6; subst hv6; have HR6 := Lib.hid hr6; have HV8 := Lib.hid (HV7.out.later hb8); have HB8 := Lib.hid (HB7.out.trans (hb8.mono HB7.out.size)); have xw := HV8.out.five.bs.cell 0 rfl; have r1w := HV8.out.five.br.cell 1 rfl; have r4w := HV8.out.five.br.cell 4 rfl; clear ho8 hb8 hr6) | (go_at_call 28; refine (HBK.out _ HB8.out A6 c6 HR6.out).mono ?_; rintro _ w12 ⟨gb, rfl, hgb, ho12, hb12⟩; have HE12 := Lib.hid ho12; have HV12 := Lib.hid (HV8.out.later hb12); have HB12 := Lib.hid (HB8.out.trans (hb12.mono HB8.out.size)); have hgp : W.heap.size < gb := Nat.lt_of_lt_of_le HV8.out.bp.lt hgb; have hgq : gq < gb := Nat.lt_of_lt_of_le HV8.out.bq.lt hgb; have hgW : W.heap.size ≤ gb := Nat.le_trans HB8.out.size hgb; clear ho12 hb12 hgb))
  clear x0 x1 x2 x3 x4 r0 r1 r2 r3 r4 r5 r6 p0 p1 p2 p3 p4 p5 p6 p7
  clear xw r1w r4w HV7 HB7 HV8 HB8 HR6
  refine wp_region_held_drew (S := fun w' => Below w12.heap.size w12 w') (by kernel_rfl) (Below.refl _ _).drew (fun hHeld => ?_)
  refine take_at 0 279 (v := ?_) rfl rfl (by kernel_rfl) (by kernel_rfl) (by kernel_rfl) (fun _ _ _ h => h) (Or.inl ⟨by rfl, ?_⟩) (by assumption) ?_
  rotate_left
  · intro w' hSw
    go_simp
    (try with_reducible rfl)
  (try simp only [Act.put, List.setIfInBounds_toArray, List.set_cons_zero, List.set_cons_succ])
  refine take_at 1 280 (v := ?_) rfl rfl (by kernel_rfl) (by kernel_rfl) (by kernel_rfl) (fun _ _ _ h => h) (Or.inl ⟨by rfl, ?_⟩) (by assumption) ?_
  rotate_left
  · intro w' hSw
    have hSw' := hSw
    (try dsimp only at hSw')
    have x0 := (HV12.out.later hSw').five.bs.cell 0 rfl
    go_simp
    (try with_reducible rfl)
  (try simp only [Act.put, List.setIfInBounds_toArray, List.set_cons_zero, List.set_cons_succ])
  refine take_at 2 281 (v := ?_) rfl rfl (by kernel_rfl) (by kernel_rfl) (by kernel_rfl) (fun _ _ _ h => h) (Or.inl ⟨by rfl, ?_⟩) (by assumption) ?_
  rotate_left
  · intro w' hSw
    go_simp
    (try with_reducible rfl)
  (try simp only [Act.put, List.setIfInBounds_toArray, List.set_cons_zero, List.set_cons_succ])
  refine take_at 3 282 (v := ?_) rfl rfl (by kernel_rfl) (by kernel_rfl) (by kernel_rfl) (fun _ _ _ h => h) (Or.inl ⟨by rfl, ?_⟩) (by assumption) ?_
  rotate_left
  · intro w' hSw
    have hSw' := hSw
    (try dsimp only at hSw')
    have p1 := (HV12.out.later hSw').bp.cell 1 rfl
    go_simp
    (try with_reducible rfl)
  (try simp only [Act.put, List.setIfInBounds_toArray, List.set_cons_zero, List.set_cons_succ])
  refine take_at 4 283 (v := ?_) rfl rfl (by kernel_rfl) (by kernel_rfl) (by kernel_rfl) (fun _ _ _ h => h) (Or.inl ⟨by rfl, ?_⟩) (by assumption) ?_
  rotate_left
  · intro w' hSw
    go_simp
    (try with_reducible rfl)
  (try simp only [Act.put, List.setIfInBounds_toArray, List.set_cons_zero, List.set_cons_succ])
  refine take_at 5 284 (v := ?_) rfl rfl (by kernel_rfl) (by kernel_rfl) (by kernel_rfl) (fun _ _ _ h => h) (Or.inl ⟨by rfl, ?_⟩) (by assumption) ?_
  rotate_left
  · intro w' hSw
    go_simp
    (try with_reducible rfl)
  (try simp only [Act.put, List.setIfInBounds_toArray, List.set_cons_zero, List.set_cons_succ])
  refine take_at 6 285 (v := ?_) rfl rfl (by kernel_rfl) (by kernel_rfl) (by kernel_rfl) (fun _ _ _ h => h) (Or.inl ⟨by rfl, ?_⟩) (by assumption) ?_
  rotate_left
  · intro w' hSw
    have hSw' := hSw
    (try dsimp only at hSw')
    obtain ⟨z0, z1, z2⟩ := acc_three (HPRE.out.st.accs.below (HB12.out.trans (hSw'.mono HB12.out.size))) HTA.out
    go_simp
    (try with_reducible rfl)
  (try simp only [Act.put, List.setIfInBounds_toArray, List.set_cons_zero, List.set_cons_succ])
  refine take_at 7 286 (v := ?_) rfl rfl (by kernel_rfl) (by kernel_rfl) (by kernel_rfl) (fun _ _ _ h => h) (Or.inl ⟨by rfl, ?_⟩) (by assumption) ?_
  rotate_left
  · intro w' hSw
    go_simp
    (try with_reducible rfl)
  (try simp only [Act.put, List.setIfInBounds_toArray, List.set_cons_zero, List.set_cons_succ])
  refine take_at 8 287 (v := ?_) rfl rfl (by kernel_rfl) (by kernel_rfl) (by kernel_rfl) (fun _ _ _ h => h) (Or.inl ⟨by rfl, ?_⟩) (by assumption) ?_
  rotate_left
  · intro w' hSw
    have hSw' := hSw
    (try dsimp only at hSw')
    have x0 := (HV12.out.later hSw').five.bs.cell 0 rfl
    go_simp
    (try with_reducible rfl)
  (try simp only [Act.put, List.setIfInBounds_toArray, List.set_cons_zero, List.set_cons_succ])
  refine take_at 9 288 (v := ?_) rfl rfl (by kernel_rfl) (by kernel_rfl) (by kernel_rfl) (fun _ _ _ h => h) (Or.inl ⟨by rfl, ?_⟩) (by assumption) ?_
  rotate_left
  · intro w' hSw
    go_simp
    (try with_reducible rfl)
  (try simp only [Act.put, List.setIfInBounds_toArray, List.set_cons_zero, List.set_cons_succ])
  refine take_at 10 289 (v := ?_) rfl rfl (by kernel_rfl) (by kernel_rfl) (by kernel_rfl) (fun _ _ _ h => h) (Or.inl ⟨by rfl, ?_⟩) (by assumption) ?_
  rotate_left
  · intro w' hSw
    have hSw' := hSw
    (try dsimp only at hSw')
    have p1 := (HV12.out.later hSw').bp.cell 1 rfl
    go_simp
    (try with_reducible rfl)
  (try simp only [Act.put, List.setIfInBounds_toArray, List.set_cons_zero, List.set_cons_succ])
  refine take_at 11 290 (v := ?_) rfl rfl (by kernel_rfl) (by kernel_rfl) (by kernel_rfl) (fun _ _ _ h => h) (Or.inl ⟨by rfl, ?_⟩) (by assumption) ?_
  rotate_left
  · intro w' hSw
    go_simp
    (try with_reducible rfl)
  (try simp only [Act.put, List.setIfInBounds_toArray, List.set_cons_zero, List.set_cons_succ])
  refine take_at 12 291 (v := ?_) rfl rfl (by kernel_rfl) (by kernel_rfl) (by kernel_rfl) (fun _ _ _ h => h) (Or.inl ⟨by rfl, ?_⟩) (by assumption) ?_
  rotate_left
  · intro w' hSw
    go_simp
    (try with_reducible rfl)
  (try simp only [Act.put, List.setIfInBounds_toArray, List.set_cons_zero, List.set_cons_succ])
  refine take_at 13 292 (v := ?_) rfl rfl (by kernel_rfl) (by kernel_rfl) (by kernel_rfl) (fun _ _ _ h => h) (Or.inl ⟨by rfl, ?_⟩) (by assumption) ?_
  rotate_left
  · intro w' hSw
    have hSw' := hSw
    (try dsimp only at hSw')
    obtain ⟨z0, z1, z2⟩ := acc_three (HPRE.out.st.accs.below (HB12.out.trans (hSw'.mono HB12.out.size))) HTA.out
    go_simp
    (try with_reducible rfl)
  (try simp only [Act.put, List.setIfInBounds_toArray, List.set_cons_zero, List.set_cons_succ])
  refine take_at 14 293 (v := ?_) rfl rfl (by kernel_rfl) (by kernel_rfl) (by kernel_rfl) (fun _ _ _ h => h) (Or.inl ⟨by rfl, ?_⟩) (by assumption) ?_
  rotate_left
  · intro w' hSw
    go_simp
    (try with_reducible rfl)
  (try simp only [Act.put, List.setIfInBounds_toArray, List.set_cons_zero, List.set_cons_succ])
  refine take_at 15 21 (v := ?_) rfl rfl (by kernel_rfl) (by kernel_rfl) (by kernel_rfl) (fun _ _ _ h => h) (Or.inl ⟨by rfl, ?_⟩) (by assumption) ?_
  rotate_left
  · intro w' hSw
    go_simp
    (try with_reducible rfl)
  (try simp only [Act.put, List.setIfInBounds_toArray, List.set_cons_zero, List.set_cons_succ])
  refine wpAnyH_done (by kernel_rfl) ?_ _
  have HV13 := Lib.hid HV12.out.drew
  have HE13 := Lib.hid HE12.out.drew
  have HB13 := Lib.hid HB12.out.drew
  clear hHeld HV12 HE12 HB12
  generalize w12.drew = w13 at HV13 HE13 HB13 ⊢
  have x0 := HV13.out.five.bs.cell 0 rfl
  have r1 := HV13.out.five.br.cell 1 rfl
  have r2 := HV13.out.five.br.cell 2 rfl
  obtain ⟨y0, y1⟩ := HE13.out.at_ (j := 0) rfl
  rw [Nat.zero_mul] at y0
  rw [Nat.zero_mul, Nat.zero_add] at y1
  (try dsimp only at y0 y1)
  have hgw : gb < w13.heap.size := (World.ownsRow.lt HE13.out gb rfl).2
  by_cases hx : fr < -y
  · have qx := decide_eq_true hx
    have HCL2 := Lib.hid (HCL.out.trans (if_pos hx))
    obtain ⟨e7, he7⟩ : ∃ e7, ((⟨(t : Int), y⟩ :: rr) ++ [(⟨3 * tc + 2, y + fr⟩ : En)]).length = e7 := ⟨_, rfl⟩
    have he71 : 0 < e7 ∧ e7 ≤ 1000 := by rw [← he7, List.length_append, HLE.out]; simp; omega
    have HE7 := Lib.hid he7
    clear he7 hx
    go_upto_region 61 with fail
    have HRA := Lib.hid (HPRE.out.st.accs.below HB13.out)
    refine wp_region_held_drew (S := fun w' => Blk w' w.heap.size 36 (stC (some ad) n c (some bd) q d (.slice SA sn sc) (.slice KA kn kc) now) ∧ Blk w' W.heap.size 47 #[.int .i64 pf, .int .i64 (t : Int), .int .i64 pa, .int .i64 pc, .int .i64 pr, .int .i64 pg, .int .i64 pt, .int .i64 pst] ∧ RdA w' (some ad) zs ∧ w'.cell? ⟨gb, 1, none⟩ = some (.int .i64 y)) (by kernel_rfl) ⟨HV13.out.five.bs.drew, HV13.out.bp.drew, HRA.out.drew, y1⟩ (fun hHeld => ?_)
    refine take_at 0 306 (v := ?_) rfl rfl (by kernel_rfl) (by kernel_rfl) (by kernel_rfl) (fun _ _ _ h => h) (Or.inl ⟨by rfl, ?_⟩) (by assumption) ?_
    rotate_left
    · intro w' hSw
      go_simp
      (try with_reducible rfl)
    (try simp only [Act.put]); (try simp only [List.setIfInBounds_toArray]); (try simp only [List.set_cons_succ]); (try simp only [List.set_cons_zero])
    refine take_at 1 307 (v := ?_) rfl rfl (by kernel_rfl) (by kernel_rfl) (by kernel_rfl) (fun _ _ _ h => h) (Or.inl ⟨by rfl, ?_⟩) (by assumption) ?_
    rotate_left
    · intro w' hSw
      go_simp
      (try with_reducible rfl)
    (try simp only [Act.put]); (try simp only [List.setIfInBounds_toArray]); (try simp only [List.set_cons_succ]); (try simp only [List.set_cons_zero])
    refine take_at 2 308 (v := ?_) rfl rfl (by kernel_rfl) (by kernel_rfl) (by kernel_rfl) (fun _ _ _ h => h) (Or.inl ⟨by rfl, ?_⟩) (by assumption) ?_
    rotate_left
    · intro w' hSw
      have hSw' := hSw
      (try dsimp only at hSw')
      have x0 := hSw'.1.cell 0 rfl
      go_simp
      (try with_reducible rfl)
    (try simp only [Act.put]); (try simp only [List.setIfInBounds_toArray]); (try simp only [List.set_cons_succ]); (try simp only [List.set_cons_zero])
    refine take_at 3 309 (v := ?_) rfl rfl (by kernel_rfl) (by kernel_rfl) (by kernel_rfl) (fun _ _ _ h => h) (Or.inl ⟨by rfl, ?_⟩) (by assumption) ?_
    rotate_left
    · intro w' hSw
      go_simp
      (try with_reducible rfl)
    (try simp only [Act.put]); (try simp only [List.setIfInBounds_toArray]); (try simp only [List.set_cons_succ]); (try simp only [List.set_cons_zero])
    refine take_at 4 310 (v := ?_) rfl rfl (by kernel_rfl) (by kernel_rfl) (by kernel_rfl) (fun _ _ _ h => h) (Or.inl ⟨by rfl, ?_⟩) (by assumption) ?_
    rotate_left
    · intro w' hSw
      have hSw' := hSw
      (try dsimp only at hSw')
      have p1 := hSw'.2.1.cell 1 rfl
      go_simp
      (try with_reducible rfl)
    (try simp only [Act.put]); (try simp only [List.setIfInBounds_toArray]); (try simp only [List.set_cons_succ]); (try simp only [List.set_cons_zero])
    refine take_at 5 311 (v := ?_) rfl rfl (by kernel_rfl) (by kernel_rfl) (by kernel_rfl) (fun _ _ _ h => h) (Or.inl ⟨by rfl, ?_⟩) (by assumption) ?_
    rotate_left
    · intro w' hSw
      go_simp
      (try with_reducible rfl)
    (try simp only [Act.put]); (try simp only [List.setIfInBounds_toArray]); (try simp only [List.set_cons_succ]); (try simp only [List.set_cons_zero])
    refine take_at 6 312 (v := ?_) rfl rfl (by kernel_rfl) (by kernel_rfl) (by kernel_rfl) (fun _ _ _ h => h) (Or.inl ⟨by rfl, ?_⟩) (by assumption) ?_
    rotate_left
    · intro w' hSw
      go_simp
      (try with_reducible rfl)
    (try simp only [Act.put]); (try simp only [List.setIfInBounds_toArray]); (try simp only [List.set_cons_succ]); (try simp only [List.set_cons_zero])
    refine take_at 7 313 (v := ?_) rfl rfl (by kernel_rfl) (by kernel_rfl) (by kernel_rfl) (fun _ _ _ h => h) (Or.inl ⟨by rfl, ?_⟩) (by assumption) ?_
    rotate_left
    · intro w' hSw
      have hSw' := hSw
      (try dsimp only at hSw')
      obtain ⟨z0, z1, z2⟩ := acc_three hSw'.2.2.1 HTA.out
      (try dsimp only at z0 z1 z2)
      go_simp
      (try with_reducible rfl)
    (try simp only [Act.put]); (try simp only [List.setIfInBounds_toArray]); (try simp only [List.set_cons_succ]); (try simp only [List.set_cons_zero])
    refine take_at 8 314 (v := ?_) rfl rfl (by kernel_rfl) (by kernel_rfl) (by kernel_rfl) (fun _ _ _ h => h) (Or.inl ⟨by rfl, ?_⟩) (by assumption) ?_
    rotate_left
    · intro w' hSw
      go_simp
      (try with_reducible rfl)
    (try simp only [Act.put]); (try simp only [List.setIfInBounds_toArray]); (try simp only [List.set_cons_succ]); (try simp only [List.set_cons_zero])
    refine take_at 9 315 (v := ?_) rfl rfl (by kernel_rfl) (by kernel_rfl) (by kernel_rfl) (fun _ _ _ h => h) (Or.inl ⟨by rfl, ?_⟩) (by assumption) ?_
    rotate_left
    · intro w' hSw
      go_simp
      (try with_reducible rfl)
    (try simp only [Act.put]); (try simp only [List.setIfInBounds_toArray]); (try simp only [List.set_cons_succ]); (try simp only [List.set_cons_zero])
    refine take_at 10 316 (v := ?_) rfl rfl (by kernel_rfl) (by kernel_rfl) (by kernel_rfl) (fun _ _ _ h => h) (Or.inl ⟨by rfl, ?_⟩) (by assumption) ?_
    rotate_left
    · intro w' hSw
      go_simp
      (try with_reducible rfl)
    (try simp only [Act.put]); (try simp only [List.setIfInBounds_toArray]); (try simp only [List.set_cons_succ]); (try simp only [List.set_cons_zero])
    refine take_at 11 317 (v := ?_) rfl rfl (by kernel_rfl) (by kernel_rfl) (by kernel_rfl) (fun _ _ _ h => h) (Or.inl ⟨by rfl, ?_⟩) (by assumption) ?_
    rotate_left
    · intro w' hSw
      go_simp
      (try with_reducible rfl)
    (try simp only [Act.put]); (try simp only [List.setIfInBounds_toArray]); (try simp only [List.set_cons_succ]); (try simp only [List.set_cons_zero])
    refine take_at 12 318 (v := ?_) rfl rfl (by kernel_rfl) (by kernel_rfl) (by kernel_rfl) (fun _ _ _ h => h) (Or.inl ⟨by rfl, ?_⟩) (by assumption) ?_
    rotate_left
    · intro w' hSw
      go_simp
      (try with_reducible rfl)
    (try simp only [Act.put]); (try simp only [List.setIfInBounds_toArray]); (try simp only [List.set_cons_succ]); (try simp only [List.set_cons_zero])
    refine take_at 13 319 (v := ?_) rfl rfl (by kernel_rfl) (by kernel_rfl) (by kernel_rfl) (fun _ _ _ h => h) (Or.inl ⟨by rfl, ?_⟩) (by assumption) ?_
    rotate_left
    · intro w' hSw
      have hSw' := hSw
      (try dsimp only at hSw')
      have y1' := hSw'.2.2.2
      go_simp
      (try with_reducible rfl)
    (try simp only [Act.put]); (try simp only [List.setIfInBounds_toArray]); (try simp only [List.set_cons_succ]); (try simp only [List.set_cons_zero])
    refine take_at 14 320 (v := ?_) rfl rfl (by kernel_rfl) (by kernel_rfl) (by kernel_rfl) (fun _ _ _ h => h) (Or.inl ⟨by rfl, ?_⟩) (by assumption) ?_
    rotate_left
    · intro w' hSw
      go_simp
      (try with_reducible rfl)
    (try simp only [Act.put]); (try simp only [List.setIfInBounds_toArray]); (try simp only [List.set_cons_succ]); (try simp only [List.set_cons_zero])
    refine take_at 15 321 (v := ?_) rfl rfl (by kernel_rfl) (by kernel_rfl) (by kernel_rfl) (fun _ _ _ h => h) (Or.inl ⟨by rfl, ?_⟩) (by assumption) ?_
    rotate_left
    · intro w' hSw
      go_simp
      (try with_reducible rfl)
    (try simp only [Act.put]); (try simp only [List.setIfInBounds_toArray]); (try simp only [List.set_cons_succ]); (try simp only [List.set_cons_zero])
    refine take_at 16 322 (v := ?_) rfl rfl (by kernel_rfl) (by kernel_rfl) (by kernel_rfl) (fun _ _ _ h => h) (Or.inl ⟨by rfl, ?_⟩) (by assumption) ?_
    rotate_left
    · intro w' hSw
      go_simp
      (try with_reducible rfl)
    (try simp only [Act.put]); (try simp only [List.setIfInBounds_toArray]); (try simp only [List.set_cons_succ]); (try simp only [List.set_cons_zero])
    clear x0 r1 r2 y0 y1
    have HE14 := Lib.hid (HE13.out.drew.alloc (.cells #[.int .i64 (3 * tc + 2), .int .i64 (y + fr)] 82))
    have HV14 := Lib.hid (HV13.out.drew.alloc (.cells #[.int .i64 (3 * tc + 2), .int .i64 (y + fr)] 82))
    have HB14 := Lib.hid (HB13.out.drew.alloc HB13.out.size (.cells #[.int .i64 (3 * tc + 2), .int .i64 (y + fr)] 82))
    have HRB := Lib.hid (HRA.out.drew.alloc (.cells #[.int .i64 (3 * tc + 2), .int .i64 (y + fr)] 82))
    have y1 := (HE14.out.at_ (j := 0) rfl).2
    rw [Nat.zero_mul, Nat.zero_add] at y1
    (try dsimp only at y1)
    have HEN := Lib.hid (show EnAt (w13.drew.alloc (.cells #[.int .i64 (3 * tc + 2), .int .i64 (y + fr)] 82)) ⟨w13.heap.size, 0, none⟩ 0 ⟨3 * tc + 2, y + fr⟩ from ⟨show (w13.drew.alloc (.cells #[.int .i64 (3 * tc + 2), .int .i64 (y + fr)] 82)).cell? ⟨w13.heap.size, 0, none⟩ = _ from (Blk.new w13.drew 82 #[.int .i64 (3 * tc + 2), .int .i64 (y + fr)]).cell 0 rfl, show (w13.drew.alloc (.cells #[.int .i64 (3 * tc + 2), .int .i64 (y + fr)] 82)).cell? ⟨w13.heap.size, 1, none⟩ = _ from (Blk.new w13.drew 82 #[.int .i64 (3 * tc + 2), .int .i64 (y + fr)]).cell 1 rfl⟩)
    have hzb : gb ≤ (w13.drew.alloc (.cells #[.int .i64 (3 * tc + 2), .int .i64 (y + fr)] 82)).heap.size := by simp; omega
    refine wpAnyH_ready (rs := [17]) (by kernel_rfl) (by simp) ?_
    refine AllReadyH.cons (i := 17) rfl (fun K hK => ?_) AllReadyH.nil
    go_simp
    refine hK.out _ _ ⟨HV14.out.five.bs, HV14.out.bp, HRB.out, y1⟩ (fun hHeld => ?_)
    clear hK K
    (try simp only [Act.put]); (try simp only [List.setIfInBounds_toArray]); (try simp only [List.set_cons_succ]); (try simp only [List.set_cons_zero])
    refine wpAnyH_ready (rs := [18]) (by kernel_rfl) (by simp) ?_
    refine AllReadyH.cons (i := 18) rfl (fun K hK => ?_) AllReadyH.nil
    refine step_append_entk rfl (.tmp 306) (.tmp 323) rfl gb (.slice (some ⟨gb, 0, none⟩) e6 e6) (⟨(t : Int), y⟩ :: rr) (by simp [Act.eval]) HE14.out ⟨w13.heap.size, 0, none⟩ 1 ⟨3 * tc + 2, y + fr⟩ (by simp [Act.eval]) HEN.out (by rw [HLE.out]; omega) hzb ?_
    intro v15 w15 ho15 hg15 hk15
    obtain ⟨ga, ca, hv15, hga, hga2, _, _⟩ := ho15.open_ (by rw [HE7.out]; omega)
    rw [HE7.out] at hv15
    subst hv15
    have HE15 := Lib.hid ho15
    have HV15 := Lib.hid (HV14.out.grown hg15 (fun g e => by injection e with e; subst e; exact ⟨hgW, Nat.ne_of_lt hgp, Nat.ne_of_lt hgq⟩))
    have HB15 := Lib.hid (HB14.out.grown hg15 HB14.out.size (fun g e => by injection e with e; subst e; exact hgW))
    have y2 := (OwnE.at_ (j := 0) hk15 rfl).2
    rw [Nat.zero_mul, Nat.zero_add] at y2
    (try dsimp only at y2)
    refine hK.out _ _ ⟨HV15.out.five.bs, HV15.out.bp, HPRE.out.st.accs.below HB15.out, y2⟩ (fun hHeld => ?_)
    clear hK K
    (try simp only [Act.put]); (try simp only [List.setIfInBounds_toArray]); (try simp only [List.set_cons_succ]); (try simp only [List.set_cons_zero])
    clear ho15 hg15 hk15 y1 y2 HE14 HV14 HB14 HRB HRA HEN hzb HV13 HE13 HB13
    refine take_at 19 19 (v := ?_) rfl rfl (by kernel_rfl) (by kernel_rfl) (by kernel_rfl) (fun _ _ _ h => h) (Or.inl ⟨by rfl, ?_⟩) (by assumption) ?_
    rotate_left
    · intro w' hSw
      go_simp
      (try with_reducible rfl)
    (try simp only [Act.put]); (try simp only [List.setIfInBounds_toArray]); (try simp only [List.set_cons_succ]); (try simp only [List.set_cons_zero])
    refine wpAnyH_done (by kernel_rfl) ?_ _
    clear hHeld
    have y1 := (HE15.out.at_ (j := 0) rfl).2
    rw [Nat.zero_mul, Nat.zero_add] at y1
    (try dsimp only at y1)
    have f1 := HE15.out.unfrozen HE7.out.symm 1
    go_upto_region 63 with fail
    have HE16 := Lib.hid ((HE15.out.set HE7.out.symm (j := 0) rfl (-fr)).2)
    rw [Nat.zero_mul, Nat.zero_add] at HE16
    have HV16 := Lib.hid (HV15.out.setFar (Nat.le_trans hgW hga) (by omega) (by omega) 1 (.int .i64 (-fr)))
    have HB16 := Lib.hid (HB15.out.setCell (p := ⟨ga, 1, none⟩) (Nat.le_trans hgW hga) (.int .i64 (-fr)))
    clear y1 f1 HE15 HV15 HB15
    generalize w15.setCell ⟨ga, 1, none⟩ (.int .i64 (-fr)) = w16 at HE16 HV16 HB16 ⊢
    have x0 := HV16.out.five.bs.cell 0 rfl
    have HRD := Lib.hid (show RdE w16 (some ⟨ga, 0, none⟩) cl by rw [HCL2.out]; exact HE16.out.rd)
    have HRL := Lib.hid (show cl.length = e7 by rw [HCL2.out]; exact HE7.out)
    go_upto_region 64 with (go_at_call 24; refine (HPO.out _ HB16.out (some ⟨ga, 0, none⟩) e7 ca HRL.out he71.2 HRD.out).mono ?_; rintro _ w9 ⟨v9, rfl, ho9, hb9⟩; have HV9 := Lib.hid (HV16.out.later hb9); clear ho9 hb9)
    clear x0 HV16 HE16 HB16
    have HF9 := Lib.hid HV9.out.five
    clear HV9
    go_upto_region 65 with fail
    refine wp_region_held_drew (S := fun w' => Blk w' (w.heap.size + 1 + 1 + 1 + 1) 36 #[.slice A1 n d1, .slice A2 q d2, .slice SA sn sc, .slice KA kn kc, .int .i64 now] ∧ Blk w' w.heap.size 36 (stC (some ad) n c (some bd) q d (.slice SA sn sc) (.slice KA kn kc) now)) (by kernel_rfl) ⟨HF9.out.bt.drew, HF9.out.bs.drew⟩ (fun hHeld => ?_)
    refine take_at 0 339 (v := ?_) rfl rfl (by kernel_rfl) (by kernel_rfl) (by kernel_rfl) (fun _ _ _ h => h) (Or.inl ⟨by rfl, ?_⟩) (by assumption) ?_
    rotate_left
    · intro w' hSw
      have hSw' := hSw
      (try dsimp only at hSw')
      have c0 := hSw'.2.cell 0 rfl
      have c1 := hSw'.2.cell 1 rfl
      have c2 := hSw'.2.cell 2 rfl
      have c3 := hSw'.2.cell 3 rfl
      have c4 := hSw'.2.cell 4 rfl
      go_simp
      (try with_reducible rfl)
    (try simp only [Act.put, List.setIfInBounds_toArray, List.set_cons_zero, List.set_cons_succ])
    refine take_at 1 340 (v := ?_) rfl rfl (by kernel_rfl) (by kernel_rfl) (by kernel_rfl) (fun _ _ _ h => h) (Or.inl ⟨by rfl, ?_⟩) (by assumption) ?_
    rotate_left
    · intro w' hSw
      go_simp
      (try with_reducible rfl)
    (try simp only [Act.put, List.setIfInBounds_toArray, List.set_cons_zero, List.set_cons_succ])
    refine wpAnyH_ready (rs := [2]) (by kernel_rfl) (by simp) ?_
    refine AllReadyH.cons (i := 2) rfl (fun K hK => ?_) AllReadyH.nil
    go_simp
    go_at_call 23
    refine (HTL.out _ HF9.out.below.drew).mono ?_
    rintro _ w9 ⟨rfl, hb9⟩
    refine hK.out _ _ ⟨hHeld.1.later hb9, hHeld.2.later hb9⟩ (fun hHeld => ?_)
    clear hK K
    (try simp only [Act.put, List.setIfInBounds_toArray, List.set_cons_zero, List.set_cons_succ])
    have HQ0 := Lib.hid (HF9.out.drew.later hb9)
    have HQ1 := HQ0
    clear hb9
    obtain ⟨y0, y1, y2, y3, y4⟩ := (show _ ∧ _ ∧ _ ∧ _ ∧ _ from ⟨HQ0.out.b2.cell 0 rfl, HQ0.out.b2.cell 1 rfl, HQ0.out.b2.cell 2 rfl, HQ0.out.b2.cell 3 rfl, HQ0.out.b2.cell 4 rfl⟩)
    obtain ⟨f0, f1, f2, f3, f4⟩ := (show _ ∧ _ ∧ _ ∧ _ ∧ _ from ⟨HQ0.out.b2.loose 0, HQ0.out.b2.loose 1, HQ0.out.b2.loose 2, HQ0.out.b2.loose 3, HQ0.out.b2.loose 4⟩)
    refine wpAnyH_ready (rs := [3]) (by kernel_rfl) (by simp) ?_
    refine AllReadyH.cons (i := 3) rfl (fun K hK => ?_) AllReadyH.nil
    go_simp
    refine hK.out _ (((((w9.setCell ⟨w.heap.size + 1 + 1, 0, none⟩ (.slice (some ad) n c)).setCell ⟨w.heap.size + 1 + 1, 1, none⟩ (.slice (some bd) q d)).setCell ⟨w.heap.size + 1 + 1, 2, none⟩ (.slice SA sn sc)).setCell ⟨w.heap.size + 1 + 1, 3, none⟩ (.slice KA kn kc)).setCell ⟨w.heap.size + 1 + 1, 4, none⟩ (.int .i64 now)) ⟨st_other (g := w.heap.size + 1 + 1) hHeld.1 (by omega) (.slice (some ad) n c) (.slice (some bd) q d) (.slice SA sn sc) (.slice KA kn kc) (.int .i64 now), st_other (g := w.heap.size + 1 + 1) hHeld.2 (by omega) (.slice (some ad) n c) (.slice (some bd) q d) (.slice SA sn sc) (.slice KA kn kc) (.int .i64 now)⟩ (fun hHeld => ?_)
    clear hK K
    (try simp only [Act.put, List.setIfInBounds_toArray, List.set_cons_zero, List.set_cons_succ])
    have HQ2 := Lib.hid (st_put HQ1.out.b2 rfl (.slice (some ad) n c) (.slice (some bd) q d) (.slice SA sn sc) (.slice KA kn kc) (.int .i64 now))
    have HQ3 := Lib.hid (st_other HQ1.out.b3 (show w.heap.size + 1 + 1 ≠ w.heap.size + 1 + 1 + 1 by omega) (.slice (some ad) n c) (.slice (some bd) q d) (.slice SA sn sc) (.slice KA kn kc) (.int .i64 now))
    have HQB := Lib.hid (st_below HQ1.out.below (show w.heap.size ≤ w.heap.size + 1 + 1 by omega) (.slice (some ad) n c) (.slice (some bd) q d) (.slice SA sn sc) (.slice KA kn kc) (.int .i64 now))
    clear y0 y1 y2 y3 y4 f0 f1 f2 f3 f4 HQ1 HQ0
    generalize (((((w9.setCell ⟨w.heap.size + 1 + 1, 0, none⟩ (.slice (some ad) n c)).setCell ⟨w.heap.size + 1 + 1, 1, none⟩ (.slice (some bd) q d)).setCell ⟨w.heap.size + 1 + 1, 2, none⟩ (.slice SA sn sc)).setCell ⟨w.heap.size + 1 + 1, 3, none⟩ (.slice KA kn kc)).setCell ⟨w.heap.size + 1 + 1, 4, none⟩ (.int .i64 now)) = w10 at HQ2 HQ3 HQB hHeld ⊢
    obtain ⟨z0, z1⟩ := (show _ ∧ _ from ⟨HQ3.out.cell 0 rfl, HQ3.out.cell 1 rfl⟩)
    obtain ⟨e0, e1⟩ := (show _ ∧ _ from ⟨HQ3.out.loose 0, HQ3.out.loose 1⟩)
    refine wpAnyH_ready (rs := [4]) (by kernel_rfl) (by simp) ?_
    refine AllReadyH.cons (i := 4) rfl (fun K hK => ?_) AllReadyH.nil
    go_simp
    refine hK.out _ ((w10.setCell ⟨w.heap.size + 1 + 1 + 1, 0, none⟩ (.int .i64 E)).setCell ⟨w.heap.size + 1 + 1 + 1, 1, none⟩ (.int .i64 0)) ⟨rp_other (g := w.heap.size + 1 + 1 + 1) hHeld.1 (by omega) (.int .i64 E) (.int .i64 0), rp_other (g := w.heap.size + 1 + 1 + 1) hHeld.2 (by omega) (.int .i64 E) (.int .i64 0)⟩ (fun hHeld => ?_)
    clear hK K
    (try simp only [Act.put, List.setIfInBounds_toArray, List.set_cons_zero, List.set_cons_succ])
    have HT2 := Lib.hid (rp_other HQ2.out (show w.heap.size + 1 + 1 + 1 ≠ w.heap.size + 1 + 1 by omega) (.int .i64 E) (.int .i64 0))
    have HT3 := Lib.hid (rp_put HQ3.out rfl (.int .i64 E) (.int .i64 0))
    have HTB := Lib.hid (rp_below HQB.out (show w.heap.size ≤ w.heap.size + 1 + 1 + 1 by omega) (.int .i64 E) (.int .i64 0))
    clear z0 z1 e0 e1 HQ2 HQ3 HQB hHeld
    generalize ((w10.setCell ⟨w.heap.size + 1 + 1 + 1, 0, none⟩ (.int .i64 E)).setCell ⟨w.heap.size + 1 + 1 + 1, 1, none⟩ (.int .i64 0)) = w11 at HT2 HT3 HTB ⊢
    refine wpAnyH_done (by kernel_rfl) ?_ _
    go_wp2
    refine bodyPost_ret (results_two (p := 4) (q := 5) (ty := 36) (tz := 40) rfl _ _ (w.heap.size + 1 + 1) (w.heap.size + 1 + 1 + 1) _ _ _ _ (0, 0) _ _ rfl HT2.out Tryd.underlying36 rfl (by kernel_rfl) rfl HT3.out Tryd.underlying40 rfl (by kernel_rfl)) rfl ?_
    exact ⟨some ad, c, some bd, d, rfl, HS.out.below HTB.out, HTB.out⟩
  · have qx := decide_eq_false hx
    have HCL2 := Lib.hid (HCL.out.trans (if_neg hx))
    clear hx
    have HRD := Lib.hid (show RdE w13 (some ⟨gb, 0, none⟩) cl by rw [HCL2.out]; exact HE13.out.rd)
    have HRL := Lib.hid (show cl.length = e6 by rw [HCL2.out]; exact HLE.out)
    go_upto_region 64 with (go_at_call 24; refine (HPO.out _ HB13.out (some ⟨gb, 0, none⟩) e6 e6 HRL.out (by omega) HRD.out).mono ?_; rintro _ w9 ⟨v9, rfl, ho9, hb9⟩; have HV9 := Lib.hid (HV13.out.later hb9); clear ho9 hb9)
    clear x0 r1 r2 y0 y1 HV13 HE13 HB13
    have HF9 := Lib.hid HV9.out.five
    clear HV9
    go_upto_region 65 with fail
    refine wp_region_held_drew (S := fun w' => Blk w' (w.heap.size + 1 + 1 + 1 + 1) 36 #[.slice A1 n d1, .slice A2 q d2, .slice SA sn sc, .slice KA kn kc, .int .i64 now] ∧ Blk w' w.heap.size 36 (stC (some ad) n c (some bd) q d (.slice SA sn sc) (.slice KA kn kc) now)) (by kernel_rfl) ⟨HF9.out.bt.drew, HF9.out.bs.drew⟩ (fun hHeld => ?_)
    refine take_at 0 339 (v := ?_) rfl rfl (by kernel_rfl) (by kernel_rfl) (by kernel_rfl) (fun _ _ _ h => h) (Or.inl ⟨by rfl, ?_⟩) (by assumption) ?_
    rotate_left
    · intro w' hSw
      have hSw' := hSw
      (try dsimp only at hSw')
      have c0 := hSw'.2.cell 0 rfl
      have c1 := hSw'.2.cell 1 rfl
      have c2 := hSw'.2.cell 2 rfl
      have c3 := hSw'.2.cell 3 rfl
      have c4 := hSw'.2.cell 4 rfl
      go_simp
      (try with_reducible rfl)
    (try simp only [Act.put, List.setIfInBounds_toArray, List.set_cons_zero, List.set_cons_succ])
    refine take_at 1 340 (v := ?_) rfl rfl (by kernel_rfl) (by kernel_rfl) (by kernel_rfl) (fun _ _ _ h => h) (Or.inl ⟨by rfl, ?_⟩) (by assumption) ?_
    rotate_left
    · intro w' hSw
      go_simp
      (try with_reducible rfl)
    (try simp only [Act.put, List.setIfInBounds_toArray, List.set_cons_zero, List.set_cons_succ])
    refine wpAnyH_ready (rs := [2]) (by kernel_rfl) (by simp) ?_
    refine AllReadyH.cons (i := 2) rfl (fun K hK => ?_) AllReadyH.nil
    go_simp
    go_at_call 23
    refine (HTL.out _ HF9.out.below.drew).mono ?_
    rintro _ w9 ⟨rfl, hb9⟩
    refine hK.out _ _ ⟨hHeld.1.later hb9, hHeld.2.later hb9⟩ (fun hHeld => ?_)
    clear hK K
    (try simp only [Act.put, List.setIfInBounds_toArray, List.set_cons_zero, List.set_cons_succ])
    have HQ0 := Lib.hid (HF9.out.drew.later hb9)
    have HQ1 := HQ0
    clear hb9
    obtain ⟨y0, y1, y2, y3, y4⟩ := (show _ ∧ _ ∧ _ ∧ _ ∧ _ from ⟨HQ0.out.b2.cell 0 rfl, HQ0.out.b2.cell 1 rfl, HQ0.out.b2.cell 2 rfl, HQ0.out.b2.cell 3 rfl, HQ0.out.b2.cell 4 rfl⟩)
    obtain ⟨f0, f1, f2, f3, f4⟩ := (show _ ∧ _ ∧ _ ∧ _ ∧ _ from ⟨HQ0.out.b2.loose 0, HQ0.out.b2.loose 1, HQ0.out.b2.loose 2, HQ0.out.b2.loose 3, HQ0.out.b2.loose 4⟩)
    refine wpAnyH_ready (rs := [3]) (by kernel_rfl) (by simp) ?_
    refine AllReadyH.cons (i := 3) rfl (fun K hK => ?_) AllReadyH.nil
    go_simp
    refine hK.out _ (((((w9.setCell ⟨w.heap.size + 1 + 1, 0, none⟩ (.slice (some ad) n c)).setCell ⟨w.heap.size + 1 + 1, 1, none⟩ (.slice (some bd) q d)).setCell ⟨w.heap.size + 1 + 1, 2, none⟩ (.slice SA sn sc)).setCell ⟨w.heap.size + 1 + 1, 3, none⟩ (.slice KA kn kc)).setCell ⟨w.heap.size + 1 + 1, 4, none⟩ (.int .i64 now)) ⟨st_other (g := w.heap.size + 1 + 1) hHeld.1 (by omega) (.slice (some ad) n c) (.slice (some bd) q d) (.slice SA sn sc) (.slice KA kn kc) (.int .i64 now), st_other (g := w.heap.size + 1 + 1) hHeld.2 (by omega) (.slice (some ad) n c) (.slice (some bd) q d) (.slice SA sn sc) (.slice KA kn kc) (.int .i64 now)⟩ (fun hHeld => ?_)
    clear hK K
    (try simp only [Act.put, List.setIfInBounds_toArray, List.set_cons_zero, List.set_cons_succ])
    have HQ2 := Lib.hid (st_put HQ1.out.b2 rfl (.slice (some ad) n c) (.slice (some bd) q d) (.slice SA sn sc) (.slice KA kn kc) (.int .i64 now))
    have HQ3 := Lib.hid (st_other HQ1.out.b3 (show w.heap.size + 1 + 1 ≠ w.heap.size + 1 + 1 + 1 by omega) (.slice (some ad) n c) (.slice (some bd) q d) (.slice SA sn sc) (.slice KA kn kc) (.int .i64 now))
    have HQB := Lib.hid (st_below HQ1.out.below (show w.heap.size ≤ w.heap.size + 1 + 1 by omega) (.slice (some ad) n c) (.slice (some bd) q d) (.slice SA sn sc) (.slice KA kn kc) (.int .i64 now))
    clear y0 y1 y2 y3 y4 f0 f1 f2 f3 f4 HQ1 HQ0
    generalize (((((w9.setCell ⟨w.heap.size + 1 + 1, 0, none⟩ (.slice (some ad) n c)).setCell ⟨w.heap.size + 1 + 1, 1, none⟩ (.slice (some bd) q d)).setCell ⟨w.heap.size + 1 + 1, 2, none⟩ (.slice SA sn sc)).setCell ⟨w.heap.size + 1 + 1, 3, none⟩ (.slice KA kn kc)).setCell ⟨w.heap.size + 1 + 1, 4, none⟩ (.int .i64 now)) = w10 at HQ2 HQ3 HQB hHeld ⊢
    obtain ⟨z0, z1⟩ := (show _ ∧ _ from ⟨HQ3.out.cell 0 rfl, HQ3.out.cell 1 rfl⟩)
    obtain ⟨e0, e1⟩ := (show _ ∧ _ from ⟨HQ3.out.loose 0, HQ3.out.loose 1⟩)
    refine wpAnyH_ready (rs := [4]) (by kernel_rfl) (by simp) ?_
    refine AllReadyH.cons (i := 4) rfl (fun K hK => ?_) AllReadyH.nil
    go_simp
    refine hK.out _ ((w10.setCell ⟨w.heap.size + 1 + 1 + 1, 0, none⟩ (.int .i64 E)).setCell ⟨w.heap.size + 1 + 1 + 1, 1, none⟩ (.int .i64 0)) ⟨rp_other (g := w.heap.size + 1 + 1 + 1) hHeld.1 (by omega) (.int .i64 E) (.int .i64 0), rp_other (g := w.heap.size + 1 + 1 + 1) hHeld.2 (by omega) (.int .i64 E) (.int .i64 0)⟩ (fun hHeld => ?_)
    clear hK K
    (try simp only [Act.put, List.setIfInBounds_toArray, List.set_cons_zero, List.set_cons_succ])
    have HT2 := Lib.hid (rp_other HQ2.out (show w.heap.size + 1 + 1 + 1 ≠ w.heap.size + 1 + 1 by omega) (.int .i64 E) (.int .i64 0))
    have HT3 := Lib.hid (rp_put HQ3.out rfl (.int .i64 E) (.int .i64 0))
    have HTB := Lib.hid (rp_below HQB.out (show w.heap.size ≤ w.heap.size + 1 + 1 + 1 by omega) (.int .i64 E) (.int .i64 0))
    clear z0 z1 e0 e1 HQ2 HQ3 HQB hHeld
    generalize ((w10.setCell ⟨w.heap.size + 1 + 1 + 1, 0, none⟩ (.int .i64 E)).setCell ⟨w.heap.size + 1 + 1 + 1, 1, none⟩ (.int .i64 0)) = w11 at HT2 HT3 HTB ⊢
    refine wpAnyH_done (by kernel_rfl) ?_ _
    go_wp2
    refine bodyPost_ret (results_two (p := 4) (q := 5) (ty := 36) (tz := 40) rfl _ _ (w.heap.size + 1 + 1) (w.heap.size + 1 + 1 + 1) _ _ _ _ (0, 0) _ _ rfl HT2.out Tryd.underlying36 rfl (by kernel_rfl) rfl HT3.out Tryd.underlying40 rfl (by kernel_rfl)) rfl ?_
    exact ⟨some ad, c, some bd, d, rfl, HS.out.below HTB.out, HTB.out⟩

end Go.Proofs.YtjnmppdohglcaaaDoor

