/-
  The law's do by its contract: an op that a payment refuses.
-/
import Derived.Test.YtjnmppdohglcaaaDoorGrE
import Derived.Test.YtjnmppdohglcaaaDoorOpsFive
import Derived.Test.YtjnmppdohglcaaaDoorGrB
import Derived.Test.YtjnmppdohglcaaaDoorGrC
import Derived.Test.YtjnmppdohglcaaaDoorGrH
import Derived.Test.YtjnmppdohglcaaaDoorGrA
import Derived.BigQuiet
import Derived.BigRegion
import Derived.Deep.QuietTactic
import Derived.Deep.CutRange
import Derived.Deep.RegionHeld3
import Derived.IntWalk
import Derived.WalkSpells
import Derived.Test.YtjnmppdohglcaaaDoorOpsSmall
import Derived.Test.YtjnmppdohglcaaaDoorGrD
namespace Go.Proofs.YtjnmppdohglcaaaDoor
open Go Go.RowKit
set_option linter.unusedVariables false

set_option maxRecDepth 100000 in
set_option maxHeartbeats 4000000 in
theorem lawop_pay_do4 (s : St) (X Y : Value) (A : Option Addr) (c : Nat) (B : Option Addr) (d : Nat) (r : Rq) (w : World) (hs : StAt w s X Y A c B d) (hX : IsSl X) (hY : IsSl Y) (hl9 : 9 ≤ s.acs.length) (hl64 : s.acs.length ≤ 64) (hp64 : s.pys.length ≤ 2000000) (hh : HasErr w) (h0 : r.op = 4) (hc : 0 ≤ r.a ∧ r.a < (s.pys.length : Int)) (E : Int) (hE : payE (pyAt s.pys r.a) 4 r.amt = E) (hE0 : E ≠ 0) :
    Calls Tryd.prog 9 #[stV s X Y A c B d, r.val] w (OpRes w s X Y E 0) := by
  obtain ⟨zs, ps, now⟩ := s
  obtain ⟨k, o, a, b, m, l, u⟩ := r
  obtain ⟨SA, sn, sc, rfl⟩ := hX
  obtain ⟨KA, kn, kc, rfl⟩ := hY
  obtain ⟨ad, rfl, _⟩ := hs.accs (by omega)
  have HS := Lib.hid hs
  dsimp only at h0 hc hE hl9 hl64 hp64 ⊢
  obtain ⟨n, hn⟩ : ∃ n, zs.length = n := ⟨_, rfl⟩
  obtain ⟨q, hq⟩ : ∃ q, ps.length = q := ⟨_, rfl⟩
  have HN := Lib.hid hn
  have HQ := Lib.hid hq
  unfold OpRes stV Rq.val
  dsimp only
  subst h0
  obtain ⟨j, rfl⟩ : ∃ j : Nat, a = (j : Int) := ⟨a.toNat, by omega⟩
  obtain ⟨⟨pf, pd, pa, pc, pr, pg, pt, pst⟩, hpy⟩ : ∃ p, ps[j]? = some p := ⟨_, List.getElem?_eq_getElem (by omega)⟩
  obtain ⟨bd, rfl, _⟩ := HS.out.pays.at_ hpy
  simp only [pyAt_at hpy] at hE ⊢
  have HPY := Lib.hid hpy
  clear hpy
  (try simp only [hn, hq] at hc hE hl9 hl64 hp64)
  simp only [hn, hq]
  clear hs hn hq
  go_enter Tryd.func9, Tryd.ntmps9
  go_upto_region 40 with (at_builtin; first
    | (refine wpList_append_accs _ rfl (.const (.slice none 0 0)) (.tmp 24) rfl (w.heap.size + 5) (.slice none 0 0) [] zs rfl OwnA.nil ad n c rfl HN.out (HS.out.accs.below (w5_below w _ _)) (by simp) (by omega) (by simp) ?_
       intro v1 w1 ho1 hg1
       have F1 := Lib.hid ((w5_five w (stC (some ad) n c (some bd) q d (.slice SA sn sc) (.slice KA kn kc) now) (rqC k 4 (j : Int) b m l u)).grown hg1 (fun g h => by cases h))
       rw [List.nil_append] at ho1
       obtain ⟨A1, d1, hv1, _, _, _, _⟩ := ho1.form
       rw [HN.out] at hv1
       subst hv1
       have O1 := Lib.hid ho1
       have c1 := F1.out.bt.cell 0 rfl
       have f1 := F1.out.bt.loose 0
       have F2 := Lib.hid (F1.out.setT 0 (.slice A1 n d1))
       have O2 := Lib.hid (O1.out.setOther (p := ⟨w.heap.size + 1 + 1 + 1 + 1, 0, none⟩) (u := .slice A1 n d1) (fun g hg => by have := O1.out.rowLt g hg; dsimp only; omega))
       have c2 := F2.out.bs.cell 1 rfl
       have hz2 : w.heap.size + 5 ≤ w1.heap.size := F1.out.size
       clear ho1 hg1 O1 F1)
    | (refine wpList_append_new pays 32 Tryd.underlying32 info_pay rfl _ rfl (.const (.slice none 0 0)) (.tmp 28) rfl (w.heap.size + 5) ps rfl (some bd) q d rfl HQ.out (HS.out.pays.below F2.out.below) (by omega) (by omega) (by simp; omega) ?_
       intro v2 w2 ho2 hg2 hf2
       obtain ⟨A2, d2, hv2, _, _, _, _⟩ := ho2.form
       rw [HQ.out] at hv2
       subst hv2
       have F3 := Lib.hid (F2.out.grown hg2 (fun g h => by cases h))
       have O3 := Lib.hid (O2.out.same (w' := w2) (fun g hg => hg2.block g (World.ownsRow.lt O2.out g hg).2 (by nofun)))
       have P3 := Lib.hid ho2
       have c3 := F3.out.bt.cell 1 rfl
       have f3 := F3.out.bt.loose 1
       have F4 := F3.out.setT 1 (.slice A2 q d2)
       have HPRE := Lib.hid (show Pre w (w2.setCell ⟨w.heap.size + 1 + 1 + 1 + 1, 1, none⟩ (.slice A2 q d2)) ⟨zs, ps, now⟩ (.slice SA sn sc) (.slice KA kn kc) (some ad) c (some bd) d (stC (some ad) n c (some bd) q d (.slice SA sn sc) (.slice KA kn kc) now) (rqC k 4 (j : Int) b m l u) (.slice A1 n d1) (.slice A2 q d2) now from
         ⟨F4, O3.out.setOther (fun g hg => by have := O3.out.rowLt g hg; dsimp only; omega), P3.out.setOther (fun g hg => by have := P3.out.rowLt g hg; dsimp only; omega), HS.out.below F4.below,
          fun g h1 h2 => by have h3 := (World.ownsRow.lt O2.out g h1).2; have h4 := hf2 g h2; omega⟩)
       have cr := HPRE.out.five.br.cell 1 rfl
       clear ho2 hg2 hf2 F3 F4 O3 P3 F2 O2 c2))
  clear c1 f1 c3 f3 cr
  generalize w2.setCell ⟨w.heap.size + 1 + 1 + 1 + 1, 1, none⟩ (.slice A2 q d2) = W at HPRE ⊢
  have HF := Lib.hid HPRE.out.five
  obtain ⟨x0, x1, x2, x3, x4⟩ := (show _ ∧ _ ∧ _ ∧ _ ∧ _ from ⟨HF.out.bs.cell 0 rfl, HF.out.bs.cell 1 rfl, HF.out.bs.cell 2 rfl, HF.out.bs.cell 3 rfl, HF.out.bs.cell 4 rfl⟩)
  obtain ⟨r0, r1, r2, r3, r4, r5, r6⟩ := (show _ ∧ _ ∧ _ ∧ _ ∧ _ ∧ _ ∧ _ from ⟨HF.out.br.cell 0 rfl, HF.out.br.cell 1 rfl, HF.out.br.cell 2 rfl, HF.out.br.cell 3 rfl, HF.out.br.cell 4 rfl, HF.out.br.cell 5 rfl, HF.out.br.cell 6 rfl⟩)
  obtain ⟨_, e1, hat⟩ := HPRE.out.st.pays.at_ HPY.out
  obtain rfl := Option.some.inj e1
  obtain ⟨p0, p1, p2, p3, p4, p5, p6, p7⟩ := pay_cells hat
  dsimp only at p0 p1 p2 p3 p4 p5 p6 p7
  have qa : decide ((j : Int) < 0) = false := decide_eq_false (by omega)
  have hjq : j < q := by omega
  have hzr : w.heap.size + 1 < W.heap.size := HF.out.br.lt
  have hzs : w.heap.size < W.heap.size := HF.out.bs.lt
  have HDO := Lib.hid (fun Wx => do_any ⟨pf, pd, pa, pc, pr, pg, pt, pst⟩ 4 m Wx)
  unfold PayRes Py.val at HDO
  unfold payR at HDO
  rw [hE, if_neg hE0, errV, if_neg hE0] at HDO
  unfold eno Py.zero at HDO
  dsimp only at HDO
  have HTL := Lib.hid (fun Wx (hb : Below w.heap.size w Wx) => told_any E Wx (hh.below hb))
  rw [errV, if_neg hE0] at HTL
  unfold eno at HTL
  go_upto_region 49 with (first | (go_at_call 25; refine (HDO.out _).mono ?_; rintro _ w6 ⟨rfl, hb6⟩; have HB6 := Lib.hid (((Below.refl W.heap.size W).alloc (Nat.le_refl _) (.cells #[.int .i64 pf, .int .i64 pd, .int .i64 pa, .int .i64 pc, .int .i64 pr, .int .i64 pg, .int .i64 pt, .int .i64 pst] 47)).trans (hb6.mono (by simp))); have HF6 := Lib.hid (HF.out.later HB6.out); have HPB := Lib.hid ((Blk.new W 47 #[.int .i64 pf, .int .i64 pd, .int .i64 pa, .int .i64 pc, .int .i64 pr, .int .i64 pg, .int .i64 pt, .int .i64 pst]).later hb6); clear hb6))
  clear x0 x1 x2 x3 x4 r0 r1 r2 r3 r4 r5 r6 p0 p1 p2 p3 p4 p5 p6 p7 qa
  have HF7 := Lib.hid (HF6.out.alloc (.cells #[.int .i64 0, .int .i64 0, .int .i64 0, .int .i64 0, .int .i64 0, .int .i64 0, .int .i64 0, .int .i64 0] 47))
  clear HF6
  generalize w6.alloc (.cells #[.int .i64 0, .int .i64 0, .int .i64 0, .int .i64 0, .int .i64 0, .int .i64 0, .int .i64 0, .int .i64 0] 47) = w7 at HF7 ⊢
  refine wp_region_held_drew (S := fun w' => Blk w' (w.heap.size + 1 + 1 + 1 + 1) 36 #[.slice A1 n d1, .slice A2 q d2, .slice SA sn sc, .slice KA kn kc, .int .i64 now] ∧ Blk w' w.heap.size 36 (stC (some ad) n c (some bd) q d (.slice SA sn sc) (.slice KA kn kc) now)) (by kernel_rfl) ⟨HF7.out.bt.drew, HF7.out.bs.drew⟩ (fun hHeld => ?_)
  refine take_at 0 232 (v := ?_) rfl rfl (by kernel_rfl) (by kernel_rfl) (by kernel_rfl) (fun _ _ _ h => h) (Or.inl ⟨by rfl, ?_⟩) (by assumption) ?_
  rotate_left
  · intro w' hSw
    have hSw' := hSw
    (try dsimp only at hSw')
    have c0 := hSw'.2.cell 0 rfl
    have c1 := hSw'.2.cell 1 rfl
    have c2 := hSw'.2.cell 2 rfl
    have c3 := hSw'.2.cell 3 rfl
    have c4 := hSw'.2.cell 4 rfl
    go_simp
    (try with_reducible rfl)
  (try simp only [Act.put, List.setIfInBounds_toArray, List.set_cons_zero, List.set_cons_succ])
  refine take_at 1 233 (v := ?_) rfl rfl (by kernel_rfl) (by kernel_rfl) (by kernel_rfl) (fun _ _ _ h => h) (Or.inl ⟨by rfl, ?_⟩) (by assumption) ?_
  rotate_left
  · intro w' hSw
    go_simp
    (try with_reducible rfl)
  (try simp only [Act.put, List.setIfInBounds_toArray, List.set_cons_zero, List.set_cons_succ])
  refine wpAnyH_ready (rs := [2]) (by kernel_rfl) (by simp) ?_
  refine AllReadyH.cons (i := 2) rfl (fun K hK => ?_) AllReadyH.nil
  go_simp
  go_at_call 23
  refine (HTL.out _ HF7.out.below.drew).mono ?_
  rintro _ w9 ⟨rfl, hb9⟩
  refine hK.out _ _ ⟨hHeld.1.later hb9, hHeld.2.later hb9⟩ (fun hHeld => ?_)
  clear hK K
  (try simp only [Act.put, List.setIfInBounds_toArray, List.set_cons_zero, List.set_cons_succ])
  have HQ0 := Lib.hid (HF7.out.drew.later hb9)
  have HQ1 := HQ0
  clear hb9
  obtain ⟨y0, y1, y2, y3, y4⟩ := (show _ ∧ _ ∧ _ ∧ _ ∧ _ from ⟨HQ0.out.b2.cell 0 rfl, HQ0.out.b2.cell 1 rfl, HQ0.out.b2.cell 2 rfl, HQ0.out.b2.cell 3 rfl, HQ0.out.b2.cell 4 rfl⟩)
  obtain ⟨f0, f1, f2, f3, f4⟩ := (show _ ∧ _ ∧ _ ∧ _ ∧ _ from ⟨HQ0.out.b2.loose 0, HQ0.out.b2.loose 1, HQ0.out.b2.loose 2, HQ0.out.b2.loose 3, HQ0.out.b2.loose 4⟩)
  refine wpAnyH_ready (rs := [3]) (by kernel_rfl) (by simp) ?_
  refine AllReadyH.cons (i := 3) rfl (fun K hK => ?_) AllReadyH.nil
  go_simp
  refine hK.out _ (((((w9.setCell ⟨w.heap.size + 1 + 1, 0, none⟩ (.slice (some ad) n c)).setCell ⟨w.heap.size + 1 + 1, 1, none⟩ (.slice (some bd) q d)).setCell ⟨w.heap.size + 1 + 1, 2, none⟩ (.slice SA sn sc)).setCell ⟨w.heap.size + 1 + 1, 3, none⟩ (.slice KA kn kc)).setCell ⟨w.heap.size + 1 + 1, 4, none⟩ (.int .i64 now)) ⟨st_other (g := w.heap.size + 1 + 1) hHeld.1 (by omega) (.slice (some ad) n c) (.slice (some bd) q d) (.slice SA sn sc) (.slice KA kn kc) (.int .i64 now), st_other (g := w.heap.size + 1 + 1) hHeld.2 (by omega) (.slice (some ad) n c) (.slice (some bd) q d) (.slice SA sn sc) (.slice KA kn kc) (.int .i64 now)⟩ (fun hHeld => ?_)
  clear hK K
  (try simp only [Act.put, List.setIfInBounds_toArray, List.set_cons_zero, List.set_cons_succ])
  have HQ2 := Lib.hid (st_put HQ1.out.b2 rfl (.slice (some ad) n c) (.slice (some bd) q d) (.slice SA sn sc) (.slice KA kn kc) (.int .i64 now))
  have HQ3 := Lib.hid (st_other HQ1.out.b3 (show w.heap.size + 1 + 1 ≠ w.heap.size + 1 + 1 + 1 by omega) (.slice (some ad) n c) (.slice (some bd) q d) (.slice SA sn sc) (.slice KA kn kc) (.int .i64 now))
  have HQB := Lib.hid (st_below HQ1.out.below (show w.heap.size ≤ w.heap.size + 1 + 1 by omega) (.slice (some ad) n c) (.slice (some bd) q d) (.slice SA sn sc) (.slice KA kn kc) (.int .i64 now))
  clear y0 y1 y2 y3 y4 f0 f1 f2 f3 f4 HQ1 HQ0
  generalize (((((w9.setCell ⟨w.heap.size + 1 + 1, 0, none⟩ (.slice (some ad) n c)).setCell ⟨w.heap.size + 1 + 1, 1, none⟩ (.slice (some bd) q d)).setCell ⟨w.heap.size + 1 + 1, 2, none⟩ (.slice SA sn sc)).setCell ⟨w.heap.size + 1 + 1, 3, none⟩ (.slice KA kn kc)).setCell ⟨w.heap.size + 1 + 1, 4, none⟩ (.int .i64 now)) = w10 at HQ2 HQ3 HQB hHeld ⊢
  obtain ⟨z0, z1⟩ := (show _ ∧ _ from ⟨HQ3.out.cell 0 rfl, HQ3.out.cell 1 rfl⟩)
  obtain ⟨e0, e1⟩ := (show _ ∧ _ from ⟨HQ3.out.loose 0, HQ3.out.loose 1⟩)
  refine wpAnyH_ready (rs := [4]) (by kernel_rfl) (by simp) ?_
  refine AllReadyH.cons (i := 4) rfl (fun K hK => ?_) AllReadyH.nil
  go_simp
  refine hK.out _ ((w10.setCell ⟨w.heap.size + 1 + 1 + 1, 0, none⟩ (.int .i64 E)).setCell ⟨w.heap.size + 1 + 1 + 1, 1, none⟩ (.int .i64 0)) ⟨rp_other (g := w.heap.size + 1 + 1 + 1) hHeld.1 (by omega) (.int .i64 E) (.int .i64 0), rp_other (g := w.heap.size + 1 + 1 + 1) hHeld.2 (by omega) (.int .i64 E) (.int .i64 0)⟩ (fun hHeld => ?_)
  clear hK K
  (try simp only [Act.put, List.setIfInBounds_toArray, List.set_cons_zero, List.set_cons_succ])
  have HT2 := Lib.hid (rp_other HQ2.out (show w.heap.size + 1 + 1 + 1 ≠ w.heap.size + 1 + 1 by omega) (.int .i64 E) (.int .i64 0))
  have HT3 := Lib.hid (rp_put HQ3.out rfl (.int .i64 E) (.int .i64 0))
  have HTB := Lib.hid (rp_below HQB.out (show w.heap.size ≤ w.heap.size + 1 + 1 + 1 by omega) (.int .i64 E) (.int .i64 0))
  clear z0 z1 e0 e1 HQ2 HQ3 HQB hHeld
  generalize ((w10.setCell ⟨w.heap.size + 1 + 1 + 1, 0, none⟩ (.int .i64 E)).setCell ⟨w.heap.size + 1 + 1 + 1, 1, none⟩ (.int .i64 0)) = w11 at HT2 HT3 HTB ⊢
  refine wpAnyH_done (by kernel_rfl) ?_ _
  go_wp2
  refine bodyPost_ret (results_two (p := 4) (q := 5) (ty := 36) (tz := 40) rfl _ _ (w.heap.size + 1 + 1) (w.heap.size + 1 + 1 + 1) _ _ _ _ (0, 0) _ _ rfl HT2.out Tryd.underlying36 rfl (by kernel_rfl) rfl HT3.out Tryd.underlying40 rfl (by kernel_rfl)) rfl ?_
  exact ⟨some ad, c, some bd, d, rfl, HS.out.below HTB.out, HTB.out⟩


set_option maxRecDepth 100000 in
set_option maxHeartbeats 4000000 in
theorem lawop_pay_do5 (s : St) (X Y : Value) (A : Option Addr) (c : Nat) (B : Option Addr) (d : Nat) (r : Rq) (w : World) (hs : StAt w s X Y A c B d) (hX : IsSl X) (hY : IsSl Y) (hl9 : 9 ≤ s.acs.length) (hl64 : s.acs.length ≤ 64) (hp64 : s.pys.length ≤ 2000000) (hh : HasErr w) (h0 : r.op = 5) (hc : 0 ≤ r.a ∧ r.a < (s.pys.length : Int)) (E : Int) (hE : payE (pyAt s.pys r.a) 5 r.amt = E) (hE0 : E ≠ 0) :
    Calls Tryd.prog 9 #[stV s X Y A c B d, r.val] w (OpRes w s X Y E 0) := by
  obtain ⟨zs, ps, now⟩ := s
  obtain ⟨k, o, a, b, m, l, u⟩ := r
  obtain ⟨SA, sn, sc, rfl⟩ := hX
  obtain ⟨KA, kn, kc, rfl⟩ := hY
  obtain ⟨ad, rfl, _⟩ := hs.accs (by omega)
  have HS := Lib.hid hs
  dsimp only at h0 hc hE hl9 hl64 hp64 ⊢
  obtain ⟨n, hn⟩ : ∃ n, zs.length = n := ⟨_, rfl⟩
  obtain ⟨q, hq⟩ : ∃ q, ps.length = q := ⟨_, rfl⟩
  have HN := Lib.hid hn
  have HQ := Lib.hid hq
  unfold OpRes stV Rq.val
  dsimp only
  subst h0
  obtain ⟨j, rfl⟩ : ∃ j : Nat, a = (j : Int) := ⟨a.toNat, by omega⟩
  obtain ⟨⟨pf, pd, pa, pc, pr, pg, pt, pst⟩, hpy⟩ : ∃ p, ps[j]? = some p := ⟨_, List.getElem?_eq_getElem (by omega)⟩
  obtain ⟨bd, rfl, _⟩ := HS.out.pays.at_ hpy
  simp only [pyAt_at hpy] at hE ⊢
  have HPY := Lib.hid hpy
  clear hpy
  (try simp only [hn, hq] at hc hE hl9 hl64 hp64)
  simp only [hn, hq]
  clear hs hn hq
  go_enter Tryd.func9, Tryd.ntmps9
  go_upto_region 40 with (at_builtin; first
    | (refine wpList_append_accs _ rfl (.const (.slice none 0 0)) (.tmp 24) rfl (w.heap.size + 5) (.slice none 0 0) [] zs rfl OwnA.nil ad n c rfl HN.out (HS.out.accs.below (w5_below w _ _)) (by simp) (by omega) (by simp) ?_
       intro v1 w1 ho1 hg1
       have F1 := Lib.hid ((w5_five w (stC (some ad) n c (some bd) q d (.slice SA sn sc) (.slice KA kn kc) now) (rqC k 5 (j : Int) b m l u)).grown hg1 (fun g h => by cases h))
       rw [List.nil_append] at ho1
       obtain ⟨A1, d1, hv1, _, _, _, _⟩ := ho1.form
       rw [HN.out] at hv1
       subst hv1
       have O1 := Lib.hid ho1
       have c1 := F1.out.bt.cell 0 rfl
       have f1 := F1.out.bt.loose 0
       have F2 := Lib.hid (F1.out.setT 0 (.slice A1 n d1))
       have O2 := Lib.hid (O1.out.setOther (p := ⟨w.heap.size + 1 + 1 + 1 + 1, 0, none⟩) (u := .slice A1 n d1) (fun g hg => by have := O1.out.rowLt g hg; dsimp only; omega))
       have c2 := F2.out.bs.cell 1 rfl
       have hz2 : w.heap.size + 5 ≤ w1.heap.size := F1.out.size
       clear ho1 hg1 O1 F1)
    | (refine wpList_append_new pays 32 Tryd.underlying32 info_pay rfl _ rfl (.const (.slice none 0 0)) (.tmp 28) rfl (w.heap.size + 5) ps rfl (some bd) q d rfl HQ.out (HS.out.pays.below F2.out.below) (by omega) (by omega) (by simp; omega) ?_
       intro v2 w2 ho2 hg2 hf2
       obtain ⟨A2, d2, hv2, _, _, _, _⟩ := ho2.form
       rw [HQ.out] at hv2
       subst hv2
       have F3 := Lib.hid (F2.out.grown hg2 (fun g h => by cases h))
       have O3 := Lib.hid (O2.out.same (w' := w2) (fun g hg => hg2.block g (World.ownsRow.lt O2.out g hg).2 (by nofun)))
       have P3 := Lib.hid ho2
       have c3 := F3.out.bt.cell 1 rfl
       have f3 := F3.out.bt.loose 1
       have F4 := F3.out.setT 1 (.slice A2 q d2)
       have HPRE := Lib.hid (show Pre w (w2.setCell ⟨w.heap.size + 1 + 1 + 1 + 1, 1, none⟩ (.slice A2 q d2)) ⟨zs, ps, now⟩ (.slice SA sn sc) (.slice KA kn kc) (some ad) c (some bd) d (stC (some ad) n c (some bd) q d (.slice SA sn sc) (.slice KA kn kc) now) (rqC k 5 (j : Int) b m l u) (.slice A1 n d1) (.slice A2 q d2) now from
         ⟨F4, O3.out.setOther (fun g hg => by have := O3.out.rowLt g hg; dsimp only; omega), P3.out.setOther (fun g hg => by have := P3.out.rowLt g hg; dsimp only; omega), HS.out.below F4.below,
          fun g h1 h2 => by have h3 := (World.ownsRow.lt O2.out g h1).2; have h4 := hf2 g h2; omega⟩)
       have cr := HPRE.out.five.br.cell 1 rfl
       clear ho2 hg2 hf2 F3 F4 O3 P3 F2 O2 c2))
  clear c1 f1 c3 f3 cr
  generalize w2.setCell ⟨w.heap.size + 1 + 1 + 1 + 1, 1, none⟩ (.slice A2 q d2) = W at HPRE ⊢
  have HF := Lib.hid HPRE.out.five
  obtain ⟨x0, x1, x2, x3, x4⟩ := (show _ ∧ _ ∧ _ ∧ _ ∧ _ from ⟨HF.out.bs.cell 0 rfl, HF.out.bs.cell 1 rfl, HF.out.bs.cell 2 rfl, HF.out.bs.cell 3 rfl, HF.out.bs.cell 4 rfl⟩)
  obtain ⟨r0, r1, r2, r3, r4, r5, r6⟩ := (show _ ∧ _ ∧ _ ∧ _ ∧ _ ∧ _ ∧ _ from ⟨HF.out.br.cell 0 rfl, HF.out.br.cell 1 rfl, HF.out.br.cell 2 rfl, HF.out.br.cell 3 rfl, HF.out.br.cell 4 rfl, HF.out.br.cell 5 rfl, HF.out.br.cell 6 rfl⟩)
  obtain ⟨_, e1, hat⟩ := HPRE.out.st.pays.at_ HPY.out
  obtain rfl := Option.some.inj e1
  obtain ⟨p0, p1, p2, p3, p4, p5, p6, p7⟩ := pay_cells hat
  dsimp only at p0 p1 p2 p3 p4 p5 p6 p7
  have qa : decide ((j : Int) < 0) = false := decide_eq_false (by omega)
  have hjq : j < q := by omega
  have hzr : w.heap.size + 1 < W.heap.size := HF.out.br.lt
  have hzs : w.heap.size < W.heap.size := HF.out.bs.lt
  have HDO := Lib.hid (fun Wx => do_any ⟨pf, pd, pa, pc, pr, pg, pt, pst⟩ 5 m Wx)
  unfold PayRes Py.val at HDO
  unfold payR at HDO
  rw [hE, if_neg hE0, errV, if_neg hE0] at HDO
  unfold eno Py.zero at HDO
  dsimp only at HDO
  have HTL := Lib.hid (fun Wx (hb : Below w.heap.size w Wx) => told_any E Wx (hh.below hb))
  rw [errV, if_neg hE0] at HTL
  unfold eno at HTL
  go_upto_region 49 with (first | (go_at_call 25; refine (HDO.out _).mono ?_; rintro _ w6 ⟨rfl, hb6⟩; have HB6 := Lib.hid (((Below.refl W.heap.size W).alloc (Nat.le_refl _) (.cells #[.int .i64 pf, .int .i64 pd, .int .i64 pa, .int .i64 pc, .int .i64 pr, .int .i64 pg, .int .i64 pt, .int .i64 pst] 47)).trans (hb6.mono (by simp))); have HF6 := Lib.hid (HF.out.later HB6.out); have HPB := Lib.hid ((Blk.new W 47 #[.int .i64 pf, .int .i64 pd, .int .i64 pa, .int .i64 pc, .int .i64 pr, .int .i64 pg, .int .i64 pt, .int .i64 pst]).later hb6); clear hb6))
  clear x0 x1 x2 x3 x4 r0 r1 r2 r3 r4 r5 r6 p0 p1 p2 p3 p4 p5 p6 p7 qa
  have HF7 := Lib.hid (HF6.out.alloc (.cells #[.int .i64 0, .int .i64 0, .int .i64 0, .int .i64 0, .int .i64 0, .int .i64 0, .int .i64 0, .int .i64 0] 47))
  clear HF6
  generalize w6.alloc (.cells #[.int .i64 0, .int .i64 0, .int .i64 0, .int .i64 0, .int .i64 0, .int .i64 0, .int .i64 0, .int .i64 0] 47) = w7 at HF7 ⊢
  refine wp_region_held_drew (S := fun w' => Blk w' (w.heap.size + 1 + 1 + 1 + 1) 36 #[.slice A1 n d1, .slice A2 q d2, .slice SA sn sc, .slice KA kn kc, .int .i64 now] ∧ Blk w' w.heap.size 36 (stC (some ad) n c (some bd) q d (.slice SA sn sc) (.slice KA kn kc) now)) (by kernel_rfl) ⟨HF7.out.bt.drew, HF7.out.bs.drew⟩ (fun hHeld => ?_)
  refine take_at 0 232 (v := ?_) rfl rfl (by kernel_rfl) (by kernel_rfl) (by kernel_rfl) (fun _ _ _ h => h) (Or.inl ⟨by rfl, ?_⟩) (by assumption) ?_
  rotate_left
  · intro w' hSw
    have hSw' := hSw
    (try dsimp only at hSw')
    have c0 := hSw'.2.cell 0 rfl
    have c1 := hSw'.2.cell 1 rfl
    have c2 := hSw'.2.cell 2 rfl
    have c3 := hSw'.2.cell 3 rfl
    have c4 := hSw'.2.cell 4 rfl
    go_simp
    (try with_reducible rfl)
  (try simp only [Act.put, List.setIfInBounds_toArray, List.set_cons_zero, List.set_cons_succ])
  refine take_at 1 233 (v := ?_) rfl rfl (by kernel_rfl) (by kernel_rfl) (by kernel_rfl) (fun _ _ _ h => h) (Or.inl ⟨by rfl, ?_⟩) (by assumption) ?_
  rotate_left
  · intro w' hSw
    go_simp
    (try with_reducible rfl)
  (try simp only [Act.put, List.setIfInBounds_toArray, List.set_cons_zero, List.set_cons_succ])
  refine wpAnyH_ready (rs := [2]) (by kernel_rfl) (by simp) ?_
  refine AllReadyH.cons (i := 2) rfl (fun K hK => ?_) AllReadyH.nil
  go_simp
  go_at_call 23
  refine (HTL.out _ HF7.out.below.drew).mono ?_
  rintro _ w9 ⟨rfl, hb9⟩
  refine hK.out _ _ ⟨hHeld.1.later hb9, hHeld.2.later hb9⟩ (fun hHeld => ?_)
  clear hK K
  (try simp only [Act.put, List.setIfInBounds_toArray, List.set_cons_zero, List.set_cons_succ])
  have HQ0 := Lib.hid (HF7.out.drew.later hb9)
  have HQ1 := HQ0
  clear hb9
  obtain ⟨y0, y1, y2, y3, y4⟩ := (show _ ∧ _ ∧ _ ∧ _ ∧ _ from ⟨HQ0.out.b2.cell 0 rfl, HQ0.out.b2.cell 1 rfl, HQ0.out.b2.cell 2 rfl, HQ0.out.b2.cell 3 rfl, HQ0.out.b2.cell 4 rfl⟩)
  obtain ⟨f0, f1, f2, f3, f4⟩ := (show _ ∧ _ ∧ _ ∧ _ ∧ _ from ⟨HQ0.out.b2.loose 0, HQ0.out.b2.loose 1, HQ0.out.b2.loose 2, HQ0.out.b2.loose 3, HQ0.out.b2.loose 4⟩)
  refine wpAnyH_ready (rs := [3]) (by kernel_rfl) (by simp) ?_
  refine AllReadyH.cons (i := 3) rfl (fun K hK => ?_) AllReadyH.nil
  go_simp
  refine hK.out _ (((((w9.setCell ⟨w.heap.size + 1 + 1, 0, none⟩ (.slice (some ad) n c)).setCell ⟨w.heap.size + 1 + 1, 1, none⟩ (.slice (some bd) q d)).setCell ⟨w.heap.size + 1 + 1, 2, none⟩ (.slice SA sn sc)).setCell ⟨w.heap.size + 1 + 1, 3, none⟩ (.slice KA kn kc)).setCell ⟨w.heap.size + 1 + 1, 4, none⟩ (.int .i64 now)) ⟨st_other (g := w.heap.size + 1 + 1) hHeld.1 (by omega) (.slice (some ad) n c) (.slice (some bd) q d) (.slice SA sn sc) (.slice KA kn kc) (.int .i64 now), st_other (g := w.heap.size + 1 + 1) hHeld.2 (by omega) (.slice (some ad) n c) (.slice (some bd) q d) (.slice SA sn sc) (.slice KA kn kc) (.int .i64 now)⟩ (fun hHeld => ?_)
  clear hK K
  (try simp only [Act.put, List.setIfInBounds_toArray, List.set_cons_zero, List.set_cons_succ])
  have HQ2 := Lib.hid (st_put HQ1.out.b2 rfl (.slice (some ad) n c) (.slice (some bd) q d) (.slice SA sn sc) (.slice KA kn kc) (.int .i64 now))
  have HQ3 := Lib.hid (st_other HQ1.out.b3 (show w.heap.size + 1 + 1 ≠ w.heap.size + 1 + 1 + 1 by omega) (.slice (some ad) n c) (.slice (some bd) q d) (.slice SA sn sc) (.slice KA kn kc) (.int .i64 now))
  have HQB := Lib.hid (st_below HQ1.out.below (show w.heap.size ≤ w.heap.size + 1 + 1 by omega) (.slice (some ad) n c) (.slice (some bd) q d) (.slice SA sn sc) (.slice KA kn kc) (.int .i64 now))
  clear y0 y1 y2 y3 y4 f0 f1 f2 f3 f4 HQ1 HQ0
  generalize (((((w9.setCell ⟨w.heap.size + 1 + 1, 0, none⟩ (.slice (some ad) n c)).setCell ⟨w.heap.size + 1 + 1, 1, none⟩ (.slice (some bd) q d)).setCell ⟨w.heap.size + 1 + 1, 2, none⟩ (.slice SA sn sc)).setCell ⟨w.heap.size + 1 + 1, 3, none⟩ (.slice KA kn kc)).setCell ⟨w.heap.size + 1 + 1, 4, none⟩ (.int .i64 now)) = w10 at HQ2 HQ3 HQB hHeld ⊢
  obtain ⟨z0, z1⟩ := (show _ ∧ _ from ⟨HQ3.out.cell 0 rfl, HQ3.out.cell 1 rfl⟩)
  obtain ⟨e0, e1⟩ := (show _ ∧ _ from ⟨HQ3.out.loose 0, HQ3.out.loose 1⟩)
  refine wpAnyH_ready (rs := [4]) (by kernel_rfl) (by simp) ?_
  refine AllReadyH.cons (i := 4) rfl (fun K hK => ?_) AllReadyH.nil
  go_simp
  refine hK.out _ ((w10.setCell ⟨w.heap.size + 1 + 1 + 1, 0, none⟩ (.int .i64 E)).setCell ⟨w.heap.size + 1 + 1 + 1, 1, none⟩ (.int .i64 0)) ⟨rp_other (g := w.heap.size + 1 + 1 + 1) hHeld.1 (by omega) (.int .i64 E) (.int .i64 0), rp_other (g := w.heap.size + 1 + 1 + 1) hHeld.2 (by omega) (.int .i64 E) (.int .i64 0)⟩ (fun hHeld => ?_)
  clear hK K
  (try simp only [Act.put, List.setIfInBounds_toArray, List.set_cons_zero, List.set_cons_succ])
  have HT2 := Lib.hid (rp_other HQ2.out (show w.heap.size + 1 + 1 + 1 ≠ w.heap.size + 1 + 1 by omega) (.int .i64 E) (.int .i64 0))
  have HT3 := Lib.hid (rp_put HQ3.out rfl (.int .i64 E) (.int .i64 0))
  have HTB := Lib.hid (rp_below HQB.out (show w.heap.size ≤ w.heap.size + 1 + 1 + 1 by omega) (.int .i64 E) (.int .i64 0))
  clear z0 z1 e0 e1 HQ2 HQ3 HQB hHeld
  generalize ((w10.setCell ⟨w.heap.size + 1 + 1 + 1, 0, none⟩ (.int .i64 E)).setCell ⟨w.heap.size + 1 + 1 + 1, 1, none⟩ (.int .i64 0)) = w11 at HT2 HT3 HTB ⊢
  refine wpAnyH_done (by kernel_rfl) ?_ _
  go_wp2
  refine bodyPost_ret (results_two (p := 4) (q := 5) (ty := 36) (tz := 40) rfl _ _ (w.heap.size + 1 + 1) (w.heap.size + 1 + 1 + 1) _ _ _ _ (0, 0) _ _ rfl HT2.out Tryd.underlying36 rfl (by kernel_rfl) rfl HT3.out Tryd.underlying40 rfl (by kernel_rfl)) rfl ?_
  exact ⟨some ad, c, some bd, d, rfl, HS.out.below HTB.out, HTB.out⟩


set_option maxRecDepth 100000 in
set_option maxHeartbeats 4000000 in
theorem lawop_pay_do6 (s : St) (X Y : Value) (A : Option Addr) (c : Nat) (B : Option Addr) (d : Nat) (r : Rq) (w : World) (hs : StAt w s X Y A c B d) (hX : IsSl X) (hY : IsSl Y) (hl9 : 9 ≤ s.acs.length) (hl64 : s.acs.length ≤ 64) (hp64 : s.pys.length ≤ 2000000) (hh : HasErr w) (h0 : r.op = 6) (hc : 0 ≤ r.a ∧ r.a < (s.pys.length : Int)) (E : Int) (hE : payE (pyAt s.pys r.a) 6 r.amt = E) (hE0 : E ≠ 0) :
    Calls Tryd.prog 9 #[stV s X Y A c B d, r.val] w (OpRes w s X Y E 0) := by
  obtain ⟨zs, ps, now⟩ := s
  obtain ⟨k, o, a, b, m, l, u⟩ := r
  obtain ⟨SA, sn, sc, rfl⟩ := hX
  obtain ⟨KA, kn, kc, rfl⟩ := hY
  obtain ⟨ad, rfl, _⟩ := hs.accs (by omega)
  have HS := Lib.hid hs
  dsimp only at h0 hc hE hl9 hl64 hp64 ⊢
  obtain ⟨n, hn⟩ : ∃ n, zs.length = n := ⟨_, rfl⟩
  obtain ⟨q, hq⟩ : ∃ q, ps.length = q := ⟨_, rfl⟩
  have HN := Lib.hid hn
  have HQ := Lib.hid hq
  unfold OpRes stV Rq.val
  dsimp only
  subst h0
  obtain ⟨j, rfl⟩ : ∃ j : Nat, a = (j : Int) := ⟨a.toNat, by omega⟩
  obtain ⟨⟨pf, pd, pa, pc, pr, pg, pt, pst⟩, hpy⟩ : ∃ p, ps[j]? = some p := ⟨_, List.getElem?_eq_getElem (by omega)⟩
  obtain ⟨bd, rfl, _⟩ := HS.out.pays.at_ hpy
  simp only [pyAt_at hpy] at hE ⊢
  have HPY := Lib.hid hpy
  clear hpy
  (try simp only [hn, hq] at hc hE hl9 hl64 hp64)
  simp only [hn, hq]
  clear hs hn hq
  go_enter Tryd.func9, Tryd.ntmps9
  go_upto_region 40 with (at_builtin; first
    | (refine wpList_append_accs _ rfl (.const (.slice none 0 0)) (.tmp 24) rfl (w.heap.size + 5) (.slice none 0 0) [] zs rfl OwnA.nil ad n c rfl HN.out (HS.out.accs.below (w5_below w _ _)) (by simp) (by omega) (by simp) ?_
       intro v1 w1 ho1 hg1
       have F1 := Lib.hid ((w5_five w (stC (some ad) n c (some bd) q d (.slice SA sn sc) (.slice KA kn kc) now) (rqC k 6 (j : Int) b m l u)).grown hg1 (fun g h => by cases h))
       rw [List.nil_append] at ho1
       obtain ⟨A1, d1, hv1, _, _, _, _⟩ := ho1.form
       rw [HN.out] at hv1
       subst hv1
       have O1 := Lib.hid ho1
       have c1 := F1.out.bt.cell 0 rfl
       have f1 := F1.out.bt.loose 0
       have F2 := Lib.hid (F1.out.setT 0 (.slice A1 n d1))
       have O2 := Lib.hid (O1.out.setOther (p := ⟨w.heap.size + 1 + 1 + 1 + 1, 0, none⟩) (u := .slice A1 n d1) (fun g hg => by have := O1.out.rowLt g hg; dsimp only; omega))
       have c2 := F2.out.bs.cell 1 rfl
       have hz2 : w.heap.size + 5 ≤ w1.heap.size := F1.out.size
       clear ho1 hg1 O1 F1)
    | (refine wpList_append_new pays 32 Tryd.underlying32 info_pay rfl _ rfl (.const (.slice none 0 0)) (.tmp 28) rfl (w.heap.size + 5) ps rfl (some bd) q d rfl HQ.out (HS.out.pays.below F2.out.below) (by omega) (by omega) (by simp; omega) ?_
       intro v2 w2 ho2 hg2 hf2
       obtain ⟨A2, d2, hv2, _, _, _, _⟩ := ho2.form
       rw [HQ.out] at hv2
       subst hv2
       have F3 := Lib.hid (F2.out.grown hg2 (fun g h => by cases h))
       have O3 := Lib.hid (O2.out.same (w' := w2) (fun g hg => hg2.block g (World.ownsRow.lt O2.out g hg).2 (by nofun)))
       have P3 := Lib.hid ho2
       have c3 := F3.out.bt.cell 1 rfl
       have f3 := F3.out.bt.loose 1
       have F4 := F3.out.setT 1 (.slice A2 q d2)
       have HPRE := Lib.hid (show Pre w (w2.setCell ⟨w.heap.size + 1 + 1 + 1 + 1, 1, none⟩ (.slice A2 q d2)) ⟨zs, ps, now⟩ (.slice SA sn sc) (.slice KA kn kc) (some ad) c (some bd) d (stC (some ad) n c (some bd) q d (.slice SA sn sc) (.slice KA kn kc) now) (rqC k 6 (j : Int) b m l u) (.slice A1 n d1) (.slice A2 q d2) now from
         ⟨F4, O3.out.setOther (fun g hg => by have := O3.out.rowLt g hg; dsimp only; omega), P3.out.setOther (fun g hg => by have := P3.out.rowLt g hg; dsimp only; omega), HS.out.below F4.below,
          fun g h1 h2 => by have h3 := (World.ownsRow.lt O2.out g h1).2; have h4 := hf2 g h2; omega⟩)
       have cr := HPRE.out.five.br.cell 1 rfl
       clear ho2 hg2 hf2 F3 F4 O3 P3 F2 O2 c2))
  clear c1 f1 c3 f3 cr
  generalize w2.setCell ⟨w.heap.size + 1 + 1 + 1 + 1, 1, none⟩ (.slice A2 q d2) = W at HPRE ⊢
  have HF := Lib.hid HPRE.out.five
  obtain ⟨x0, x1, x2, x3, x4⟩ := (show _ ∧ _ ∧ _ ∧ _ ∧ _ from ⟨HF.out.bs.cell 0 rfl, HF.out.bs.cell 1 rfl, HF.out.bs.cell 2 rfl, HF.out.bs.cell 3 rfl, HF.out.bs.cell 4 rfl⟩)
  obtain ⟨r0, r1, r2, r3, r4, r5, r6⟩ := (show _ ∧ _ ∧ _ ∧ _ ∧ _ ∧ _ ∧ _ from ⟨HF.out.br.cell 0 rfl, HF.out.br.cell 1 rfl, HF.out.br.cell 2 rfl, HF.out.br.cell 3 rfl, HF.out.br.cell 4 rfl, HF.out.br.cell 5 rfl, HF.out.br.cell 6 rfl⟩)
  obtain ⟨_, e1, hat⟩ := HPRE.out.st.pays.at_ HPY.out
  obtain rfl := Option.some.inj e1
  obtain ⟨p0, p1, p2, p3, p4, p5, p6, p7⟩ := pay_cells hat
  dsimp only at p0 p1 p2 p3 p4 p5 p6 p7
  have qa : decide ((j : Int) < 0) = false := decide_eq_false (by omega)
  have hjq : j < q := by omega
  have hzr : w.heap.size + 1 < W.heap.size := HF.out.br.lt
  have hzs : w.heap.size < W.heap.size := HF.out.bs.lt
  have HDO := Lib.hid (fun Wx => do_any ⟨pf, pd, pa, pc, pr, pg, pt, pst⟩ 6 m Wx)
  unfold PayRes Py.val at HDO
  unfold payR at HDO
  rw [hE, if_neg hE0, errV, if_neg hE0] at HDO
  unfold eno Py.zero at HDO
  dsimp only at HDO
  have HTL := Lib.hid (fun Wx (hb : Below w.heap.size w Wx) => told_any E Wx (hh.below hb))
  rw [errV, if_neg hE0] at HTL
  unfold eno at HTL
  go_upto_region 49 with (first | (go_at_call 25; refine (HDO.out _).mono ?_; rintro _ w6 ⟨rfl, hb6⟩; have HB6 := Lib.hid (((Below.refl W.heap.size W).alloc (Nat.le_refl _) (.cells #[.int .i64 pf, .int .i64 pd, .int .i64 pa, .int .i64 pc, .int .i64 pr, .int .i64 pg, .int .i64 pt, .int .i64 pst] 47)).trans (hb6.mono (by simp))); have HF6 := Lib.hid (HF.out.later HB6.out); have HPB := Lib.hid ((Blk.new W 47 #[.int .i64 pf, .int .i64 pd, .int .i64 pa, .int .i64 pc, .int .i64 pr, .int .i64 pg, .int .i64 pt, .int .i64 pst]).later hb6); clear hb6))
  clear x0 x1 x2 x3 x4 r0 r1 r2 r3 r4 r5 r6 p0 p1 p2 p3 p4 p5 p6 p7 qa
  have HF7 := Lib.hid (HF6.out.alloc (.cells #[.int .i64 0, .int .i64 0, .int .i64 0, .int .i64 0, .int .i64 0, .int .i64 0, .int .i64 0, .int .i64 0] 47))
  clear HF6
  generalize w6.alloc (.cells #[.int .i64 0, .int .i64 0, .int .i64 0, .int .i64 0, .int .i64 0, .int .i64 0, .int .i64 0, .int .i64 0] 47) = w7 at HF7 ⊢
  refine wp_region_held_drew (S := fun w' => Blk w' (w.heap.size + 1 + 1 + 1 + 1) 36 #[.slice A1 n d1, .slice A2 q d2, .slice SA sn sc, .slice KA kn kc, .int .i64 now] ∧ Blk w' w.heap.size 36 (stC (some ad) n c (some bd) q d (.slice SA sn sc) (.slice KA kn kc) now)) (by kernel_rfl) ⟨HF7.out.bt.drew, HF7.out.bs.drew⟩ (fun hHeld => ?_)
  refine take_at 0 232 (v := ?_) rfl rfl (by kernel_rfl) (by kernel_rfl) (by kernel_rfl) (fun _ _ _ h => h) (Or.inl ⟨by rfl, ?_⟩) (by assumption) ?_
  rotate_left
  · intro w' hSw
    have hSw' := hSw
    (try dsimp only at hSw')
    have c0 := hSw'.2.cell 0 rfl
    have c1 := hSw'.2.cell 1 rfl
    have c2 := hSw'.2.cell 2 rfl
    have c3 := hSw'.2.cell 3 rfl
    have c4 := hSw'.2.cell 4 rfl
    go_simp
    (try with_reducible rfl)
  (try simp only [Act.put, List.setIfInBounds_toArray, List.set_cons_zero, List.set_cons_succ])
  refine take_at 1 233 (v := ?_) rfl rfl (by kernel_rfl) (by kernel_rfl) (by kernel_rfl) (fun _ _ _ h => h) (Or.inl ⟨by rfl, ?_⟩) (by assumption) ?_
  rotate_left
  · intro w' hSw
    go_simp
    (try with_reducible rfl)
  (try simp only [Act.put, List.setIfInBounds_toArray, List.set_cons_zero, List.set_cons_succ])
  refine wpAnyH_ready (rs := [2]) (by kernel_rfl) (by simp) ?_
  refine AllReadyH.cons (i := 2) rfl (fun K hK => ?_) AllReadyH.nil
  go_simp
  go_at_call 23
  refine (HTL.out _ HF7.out.below.drew).mono ?_
  rintro _ w9 ⟨rfl, hb9⟩
  refine hK.out _ _ ⟨hHeld.1.later hb9, hHeld.2.later hb9⟩ (fun hHeld => ?_)
  clear hK K
  (try simp only [Act.put, List.setIfInBounds_toArray, List.set_cons_zero, List.set_cons_succ])
  have HQ0 := Lib.hid (HF7.out.drew.later hb9)
  have HQ1 := HQ0
  clear hb9
  obtain ⟨y0, y1, y2, y3, y4⟩ := (show _ ∧ _ ∧ _ ∧ _ ∧ _ from ⟨HQ0.out.b2.cell 0 rfl, HQ0.out.b2.cell 1 rfl, HQ0.out.b2.cell 2 rfl, HQ0.out.b2.cell 3 rfl, HQ0.out.b2.cell 4 rfl⟩)
  obtain ⟨f0, f1, f2, f3, f4⟩ := (show _ ∧ _ ∧ _ ∧ _ ∧ _ from ⟨HQ0.out.b2.loose 0, HQ0.out.b2.loose 1, HQ0.out.b2.loose 2, HQ0.out.b2.loose 3, HQ0.out.b2.loose 4⟩)
  refine wpAnyH_ready (rs := [3]) (by kernel_rfl) (by simp) ?_
  refine AllReadyH.cons (i := 3) rfl (fun K hK => ?_) AllReadyH.nil
  go_simp
  refine hK.out _ (((((w9.setCell ⟨w.heap.size + 1 + 1, 0, none⟩ (.slice (some ad) n c)).setCell ⟨w.heap.size + 1 + 1, 1, none⟩ (.slice (some bd) q d)).setCell ⟨w.heap.size + 1 + 1, 2, none⟩ (.slice SA sn sc)).setCell ⟨w.heap.size + 1 + 1, 3, none⟩ (.slice KA kn kc)).setCell ⟨w.heap.size + 1 + 1, 4, none⟩ (.int .i64 now)) ⟨st_other (g := w.heap.size + 1 + 1) hHeld.1 (by omega) (.slice (some ad) n c) (.slice (some bd) q d) (.slice SA sn sc) (.slice KA kn kc) (.int .i64 now), st_other (g := w.heap.size + 1 + 1) hHeld.2 (by omega) (.slice (some ad) n c) (.slice (some bd) q d) (.slice SA sn sc) (.slice KA kn kc) (.int .i64 now)⟩ (fun hHeld => ?_)
  clear hK K
  (try simp only [Act.put, List.setIfInBounds_toArray, List.set_cons_zero, List.set_cons_succ])
  have HQ2 := Lib.hid (st_put HQ1.out.b2 rfl (.slice (some ad) n c) (.slice (some bd) q d) (.slice SA sn sc) (.slice KA kn kc) (.int .i64 now))
  have HQ3 := Lib.hid (st_other HQ1.out.b3 (show w.heap.size + 1 + 1 ≠ w.heap.size + 1 + 1 + 1 by omega) (.slice (some ad) n c) (.slice (some bd) q d) (.slice SA sn sc) (.slice KA kn kc) (.int .i64 now))
  have HQB := Lib.hid (st_below HQ1.out.below (show w.heap.size ≤ w.heap.size + 1 + 1 by omega) (.slice (some ad) n c) (.slice (some bd) q d) (.slice SA sn sc) (.slice KA kn kc) (.int .i64 now))
  clear y0 y1 y2 y3 y4 f0 f1 f2 f3 f4 HQ1 HQ0
  generalize (((((w9.setCell ⟨w.heap.size + 1 + 1, 0, none⟩ (.slice (some ad) n c)).setCell ⟨w.heap.size + 1 + 1, 1, none⟩ (.slice (some bd) q d)).setCell ⟨w.heap.size + 1 + 1, 2, none⟩ (.slice SA sn sc)).setCell ⟨w.heap.size + 1 + 1, 3, none⟩ (.slice KA kn kc)).setCell ⟨w.heap.size + 1 + 1, 4, none⟩ (.int .i64 now)) = w10 at HQ2 HQ3 HQB hHeld ⊢
  obtain ⟨z0, z1⟩ := (show _ ∧ _ from ⟨HQ3.out.cell 0 rfl, HQ3.out.cell 1 rfl⟩)
  obtain ⟨e0, e1⟩ := (show _ ∧ _ from ⟨HQ3.out.loose 0, HQ3.out.loose 1⟩)
  refine wpAnyH_ready (rs := [4]) (by kernel_rfl) (by simp) ?_
  refine AllReadyH.cons (i := 4) rfl (fun K hK => ?_) AllReadyH.nil
  go_simp
  refine hK.out _ ((w10.setCell ⟨w.heap.size + 1 + 1 + 1, 0, none⟩ (.int .i64 E)).setCell ⟨w.heap.size + 1 + 1 + 1, 1, none⟩ (.int .i64 0)) ⟨rp_other (g := w.heap.size + 1 + 1 + 1) hHeld.1 (by omega) (.int .i64 E) (.int .i64 0), rp_other (g := w.heap.size + 1 + 1 + 1) hHeld.2 (by omega) (.int .i64 E) (.int .i64 0)⟩ (fun hHeld => ?_)
  clear hK K
  (try simp only [Act.put, List.setIfInBounds_toArray, List.set_cons_zero, List.set_cons_succ])
  have HT2 := Lib.hid (rp_other HQ2.out (show w.heap.size + 1 + 1 + 1 ≠ w.heap.size + 1 + 1 by omega) (.int .i64 E) (.int .i64 0))
  have HT3 := Lib.hid (rp_put HQ3.out rfl (.int .i64 E) (.int .i64 0))
  have HTB := Lib.hid (rp_below HQB.out (show w.heap.size ≤ w.heap.size + 1 + 1 + 1 by omega) (.int .i64 E) (.int .i64 0))
  clear z0 z1 e0 e1 HQ2 HQ3 HQB hHeld
  generalize ((w10.setCell ⟨w.heap.size + 1 + 1 + 1, 0, none⟩ (.int .i64 E)).setCell ⟨w.heap.size + 1 + 1 + 1, 1, none⟩ (.int .i64 0)) = w11 at HT2 HT3 HTB ⊢
  refine wpAnyH_done (by kernel_rfl) ?_ _
  go_wp2
  refine bodyPost_ret (results_two (p := 4) (q := 5) (ty := 36) (tz := 40) rfl _ _ (w.heap.size + 1 + 1) (w.heap.size + 1 + 1 + 1) _ _ _ _ (0, 0) _ _ rfl HT2.out Tryd.underlying36 rfl (by kernel_rfl) rfl HT3.out Tryd.underlying40 rfl (by kernel_rfl)) rfl ?_
  exact ⟨some ad, c, some bd, d, rfl, HS.out.below HTB.out, HTB.out⟩


set_option maxRecDepth 100000 in
set_option maxHeartbeats 4000000 in
theorem lawop_pay_do7 (s : St) (X Y : Value) (A : Option Addr) (c : Nat) (B : Option Addr) (d : Nat) (r : Rq) (w : World) (hs : StAt w s X Y A c B d) (hX : IsSl X) (hY : IsSl Y) (hl9 : 9 ≤ s.acs.length) (hl64 : s.acs.length ≤ 64) (hp64 : s.pys.length ≤ 2000000) (hh : HasErr w) (h0 : r.op = 7) (hc : 0 ≤ r.a ∧ r.a < (s.pys.length : Int)) (E : Int) (hE : payE (pyAt s.pys r.a) 7 r.amt = E) (hE0 : E ≠ 0) :
    Calls Tryd.prog 9 #[stV s X Y A c B d, r.val] w (OpRes w s X Y E 0) := by
  obtain ⟨zs, ps, now⟩ := s
  obtain ⟨k, o, a, b, m, l, u⟩ := r
  obtain ⟨SA, sn, sc, rfl⟩ := hX
  obtain ⟨KA, kn, kc, rfl⟩ := hY
  obtain ⟨ad, rfl, _⟩ := hs.accs (by omega)
  have HS := Lib.hid hs
  dsimp only at h0 hc hE hl9 hl64 hp64 ⊢
  obtain ⟨n, hn⟩ : ∃ n, zs.length = n := ⟨_, rfl⟩
  obtain ⟨q, hq⟩ : ∃ q, ps.length = q := ⟨_, rfl⟩
  have HN := Lib.hid hn
  have HQ := Lib.hid hq
  unfold OpRes stV Rq.val
  dsimp only
  subst h0
  obtain ⟨j, rfl⟩ : ∃ j : Nat, a = (j : Int) := ⟨a.toNat, by omega⟩
  obtain ⟨⟨pf, pd, pa, pc, pr, pg, pt, pst⟩, hpy⟩ : ∃ p, ps[j]? = some p := ⟨_, List.getElem?_eq_getElem (by omega)⟩
  obtain ⟨bd, rfl, _⟩ := HS.out.pays.at_ hpy
  simp only [pyAt_at hpy] at hE ⊢
  have HPY := Lib.hid hpy
  clear hpy
  (try simp only [hn, hq] at hc hE hl9 hl64 hp64)
  simp only [hn, hq]
  clear hs hn hq
  go_enter Tryd.func9, Tryd.ntmps9
  go_upto_region 40 with (at_builtin; first
    | (refine wpList_append_accs _ rfl (.const (.slice none 0 0)) (.tmp 24) rfl (w.heap.size + 5) (.slice none 0 0) [] zs rfl OwnA.nil ad n c rfl HN.out (HS.out.accs.below (w5_below w _ _)) (by simp) (by omega) (by simp) ?_
       intro v1 w1 ho1 hg1
       have F1 := Lib.hid ((w5_five w (stC (some ad) n c (some bd) q d (.slice SA sn sc) (.slice KA kn kc) now) (rqC k 7 (j : Int) b m l u)).grown hg1 (fun g h => by cases h))
       rw [List.nil_append] at ho1
       obtain ⟨A1, d1, hv1, _, _, _, _⟩ := ho1.form
       rw [HN.out] at hv1
       subst hv1
       have O1 := Lib.hid ho1
       have c1 := F1.out.bt.cell 0 rfl
       have f1 := F1.out.bt.loose 0
       have F2 := Lib.hid (F1.out.setT 0 (.slice A1 n d1))
       have O2 := Lib.hid (O1.out.setOther (p := ⟨w.heap.size + 1 + 1 + 1 + 1, 0, none⟩) (u := .slice A1 n d1) (fun g hg => by have := O1.out.rowLt g hg; dsimp only; omega))
       have c2 := F2.out.bs.cell 1 rfl
       have hz2 : w.heap.size + 5 ≤ w1.heap.size := F1.out.size
       clear ho1 hg1 O1 F1)
    | (refine wpList_append_new pays 32 Tryd.underlying32 info_pay rfl _ rfl (.const (.slice none 0 0)) (.tmp 28) rfl (w.heap.size + 5) ps rfl (some bd) q d rfl HQ.out (HS.out.pays.below F2.out.below) (by omega) (by omega) (by simp; omega) ?_
       intro v2 w2 ho2 hg2 hf2
       obtain ⟨A2, d2, hv2, _, _, _, _⟩ := ho2.form
       rw [HQ.out] at hv2
       subst hv2
       have F3 := Lib.hid (F2.out.grown hg2 (fun g h => by cases h))
       have O3 := Lib.hid (O2.out.same (w' := w2) (fun g hg => hg2.block g (World.ownsRow.lt O2.out g hg).2 (by nofun)))
       have P3 := Lib.hid ho2
       have c3 := F3.out.bt.cell 1 rfl
       have f3 := F3.out.bt.loose 1
       have F4 := F3.out.setT 1 (.slice A2 q d2)
       have HPRE := Lib.hid (show Pre w (w2.setCell ⟨w.heap.size + 1 + 1 + 1 + 1, 1, none⟩ (.slice A2 q d2)) ⟨zs, ps, now⟩ (.slice SA sn sc) (.slice KA kn kc) (some ad) c (some bd) d (stC (some ad) n c (some bd) q d (.slice SA sn sc) (.slice KA kn kc) now) (rqC k 7 (j : Int) b m l u) (.slice A1 n d1) (.slice A2 q d2) now from
         ⟨F4, O3.out.setOther (fun g hg => by have := O3.out.rowLt g hg; dsimp only; omega), P3.out.setOther (fun g hg => by have := P3.out.rowLt g hg; dsimp only; omega), HS.out.below F4.below,
          fun g h1 h2 => by have h3 := (World.ownsRow.lt O2.out g h1).2; have h4 := hf2 g h2; omega⟩)
       have cr := HPRE.out.five.br.cell 1 rfl
       clear ho2 hg2 hf2 F3 F4 O3 P3 F2 O2 c2))
  clear c1 f1 c3 f3 cr
  generalize w2.setCell ⟨w.heap.size + 1 + 1 + 1 + 1, 1, none⟩ (.slice A2 q d2) = W at HPRE ⊢
  have HF := Lib.hid HPRE.out.five
  obtain ⟨x0, x1, x2, x3, x4⟩ := (show _ ∧ _ ∧ _ ∧ _ ∧ _ from ⟨HF.out.bs.cell 0 rfl, HF.out.bs.cell 1 rfl, HF.out.bs.cell 2 rfl, HF.out.bs.cell 3 rfl, HF.out.bs.cell 4 rfl⟩)
  obtain ⟨r0, r1, r2, r3, r4, r5, r6⟩ := (show _ ∧ _ ∧ _ ∧ _ ∧ _ ∧ _ ∧ _ from ⟨HF.out.br.cell 0 rfl, HF.out.br.cell 1 rfl, HF.out.br.cell 2 rfl, HF.out.br.cell 3 rfl, HF.out.br.cell 4 rfl, HF.out.br.cell 5 rfl, HF.out.br.cell 6 rfl⟩)
  obtain ⟨_, e1, hat⟩ := HPRE.out.st.pays.at_ HPY.out
  obtain rfl := Option.some.inj e1
  obtain ⟨p0, p1, p2, p3, p4, p5, p6, p7⟩ := pay_cells hat
  dsimp only at p0 p1 p2 p3 p4 p5 p6 p7
  have qa : decide ((j : Int) < 0) = false := decide_eq_false (by omega)
  have hjq : j < q := by omega
  have hzr : w.heap.size + 1 < W.heap.size := HF.out.br.lt
  have hzs : w.heap.size < W.heap.size := HF.out.bs.lt
  have HDO := Lib.hid (fun Wx => do_any ⟨pf, pd, pa, pc, pr, pg, pt, pst⟩ 7 m Wx)
  unfold PayRes Py.val at HDO
  unfold payR at HDO
  rw [hE, if_neg hE0, errV, if_neg hE0] at HDO
  unfold eno Py.zero at HDO
  dsimp only at HDO
  have HTL := Lib.hid (fun Wx (hb : Below w.heap.size w Wx) => told_any E Wx (hh.below hb))
  rw [errV, if_neg hE0] at HTL
  unfold eno at HTL
  go_upto_region 49 with (first | (go_at_call 25; refine (HDO.out _).mono ?_; rintro _ w6 ⟨rfl, hb6⟩; have HB6 := Lib.hid (((Below.refl W.heap.size W).alloc (Nat.le_refl _) (.cells #[.int .i64 pf, .int .i64 pd, .int .i64 pa, .int .i64 pc, .int .i64 pr, .int .i64 pg, .int .i64 pt, .int .i64 pst] 47)).trans (hb6.mono (by simp))); have HF6 := Lib.hid (HF.out.later HB6.out); have HPB := Lib.hid ((Blk.new W 47 #[.int .i64 pf, .int .i64 pd, .int .i64 pa, .int .i64 pc, .int .i64 pr, .int .i64 pg, .int .i64 pt, .int .i64 pst]).later hb6); clear hb6))
  clear x0 x1 x2 x3 x4 r0 r1 r2 r3 r4 r5 r6 p0 p1 p2 p3 p4 p5 p6 p7 qa
  have HF7 := Lib.hid (HF6.out.alloc (.cells #[.int .i64 0, .int .i64 0, .int .i64 0, .int .i64 0, .int .i64 0, .int .i64 0, .int .i64 0, .int .i64 0] 47))
  clear HF6
  generalize w6.alloc (.cells #[.int .i64 0, .int .i64 0, .int .i64 0, .int .i64 0, .int .i64 0, .int .i64 0, .int .i64 0, .int .i64 0] 47) = w7 at HF7 ⊢
  refine wp_region_held_drew (S := fun w' => Blk w' (w.heap.size + 1 + 1 + 1 + 1) 36 #[.slice A1 n d1, .slice A2 q d2, .slice SA sn sc, .slice KA kn kc, .int .i64 now] ∧ Blk w' w.heap.size 36 (stC (some ad) n c (some bd) q d (.slice SA sn sc) (.slice KA kn kc) now)) (by kernel_rfl) ⟨HF7.out.bt.drew, HF7.out.bs.drew⟩ (fun hHeld => ?_)
  refine take_at 0 232 (v := ?_) rfl rfl (by kernel_rfl) (by kernel_rfl) (by kernel_rfl) (fun _ _ _ h => h) (Or.inl ⟨by rfl, ?_⟩) (by assumption) ?_
  rotate_left
  · intro w' hSw
    have hSw' := hSw
    (try dsimp only at hSw')
    have c0 := hSw'.2.cell 0 rfl
    have c1 := hSw'.2.cell 1 rfl
    have c2 := hSw'.2.cell 2 rfl
    have c3 := hSw'.2.cell 3 rfl
    have c4 := hSw'.2.cell 4 rfl
    go_simp
    (try with_reducible rfl)
  (try simp only [Act.put, List.setIfInBounds_toArray, List.set_cons_zero, List.set_cons_succ])
  refine take_at 1 233 (v := ?_) rfl rfl (by kernel_rfl) (by kernel_rfl) (by kernel_rfl) (fun _ _ _ h => h) (Or.inl ⟨by rfl, ?_⟩) (by assumption) ?_
  rotate_left
  · intro w' hSw
    go_simp
    (try with_reducible rfl)
  (try simp only [Act.put, List.setIfInBounds_toArray, List.set_cons_zero, List.set_cons_succ])
  refine wpAnyH_ready (rs := [2]) (by kernel_rfl) (by simp) ?_
  refine AllReadyH.cons (i := 2) rfl (fun K hK => ?_) AllReadyH.nil
  go_simp
  go_at_call 23
  refine (HTL.out _ HF7.out.below.drew).mono ?_
  rintro _ w9 ⟨rfl, hb9⟩
  refine hK.out _ _ ⟨hHeld.1.later hb9, hHeld.2.later hb9⟩ (fun hHeld => ?_)
  clear hK K
  (try simp only [Act.put, List.setIfInBounds_toArray, List.set_cons_zero, List.set_cons_succ])
  have HQ0 := Lib.hid (HF7.out.drew.later hb9)
  have HQ1 := HQ0
  clear hb9
  obtain ⟨y0, y1, y2, y3, y4⟩ := (show _ ∧ _ ∧ _ ∧ _ ∧ _ from ⟨HQ0.out.b2.cell 0 rfl, HQ0.out.b2.cell 1 rfl, HQ0.out.b2.cell 2 rfl, HQ0.out.b2.cell 3 rfl, HQ0.out.b2.cell 4 rfl⟩)
  obtain ⟨f0, f1, f2, f3, f4⟩ := (show _ ∧ _ ∧ _ ∧ _ ∧ _ from ⟨HQ0.out.b2.loose 0, HQ0.out.b2.loose 1, HQ0.out.b2.loose 2, HQ0.out.b2.loose 3, HQ0.out.b2.loose 4⟩)
  refine wpAnyH_ready (rs := [3]) (by kernel_rfl) (by simp) ?_
  refine AllReadyH.cons (i := 3) rfl (fun K hK => ?_) AllReadyH.nil
  go_simp
  refine hK.out _ (((((w9.setCell ⟨w.heap.size + 1 + 1, 0, none⟩ (.slice (some ad) n c)).setCell ⟨w.heap.size + 1 + 1, 1, none⟩ (.slice (some bd) q d)).setCell ⟨w.heap.size + 1 + 1, 2, none⟩ (.slice SA sn sc)).setCell ⟨w.heap.size + 1 + 1, 3, none⟩ (.slice KA kn kc)).setCell ⟨w.heap.size + 1 + 1, 4, none⟩ (.int .i64 now)) ⟨st_other (g := w.heap.size + 1 + 1) hHeld.1 (by omega) (.slice (some ad) n c) (.slice (some bd) q d) (.slice SA sn sc) (.slice KA kn kc) (.int .i64 now), st_other (g := w.heap.size + 1 + 1) hHeld.2 (by omega) (.slice (some ad) n c) (.slice (some bd) q d) (.slice SA sn sc) (.slice KA kn kc) (.int .i64 now)⟩ (fun hHeld => ?_)
  clear hK K
  (try simp only [Act.put, List.setIfInBounds_toArray, List.set_cons_zero, List.set_cons_succ])
  have HQ2 := Lib.hid (st_put HQ1.out.b2 rfl (.slice (some ad) n c) (.slice (some bd) q d) (.slice SA sn sc) (.slice KA kn kc) (.int .i64 now))
  have HQ3 := Lib.hid (st_other HQ1.out.b3 (show w.heap.size + 1 + 1 ≠ w.heap.size + 1 + 1 + 1 by omega) (.slice (some ad) n c) (.slice (some bd) q d) (.slice SA sn sc) (.slice KA kn kc) (.int .i64 now))
  have HQB := Lib.hid (st_below HQ1.out.below (show w.heap.size ≤ w.heap.size + 1 + 1 by omega) (.slice (some ad) n c) (.slice (some bd) q d) (.slice SA sn sc) (.slice KA kn kc) (.int .i64 now))
  clear y0 y1 y2 y3 y4 f0 f1 f2 f3 f4 HQ1 HQ0
  generalize (((((w9.setCell ⟨w.heap.size + 1 + 1, 0, none⟩ (.slice (some ad) n c)).setCell ⟨w.heap.size + 1 + 1, 1, none⟩ (.slice (some bd) q d)).setCell ⟨w.heap.size + 1 + 1, 2, none⟩ (.slice SA sn sc)).setCell ⟨w.heap.size + 1 + 1, 3, none⟩ (.slice KA kn kc)).setCell ⟨w.heap.size + 1 + 1, 4, none⟩ (.int .i64 now)) = w10 at HQ2 HQ3 HQB hHeld ⊢
  obtain ⟨z0, z1⟩ := (show _ ∧ _ from ⟨HQ3.out.cell 0 rfl, HQ3.out.cell 1 rfl⟩)
  obtain ⟨e0, e1⟩ := (show _ ∧ _ from ⟨HQ3.out.loose 0, HQ3.out.loose 1⟩)
  refine wpAnyH_ready (rs := [4]) (by kernel_rfl) (by simp) ?_
  refine AllReadyH.cons (i := 4) rfl (fun K hK => ?_) AllReadyH.nil
  go_simp
  refine hK.out _ ((w10.setCell ⟨w.heap.size + 1 + 1 + 1, 0, none⟩ (.int .i64 E)).setCell ⟨w.heap.size + 1 + 1 + 1, 1, none⟩ (.int .i64 0)) ⟨rp_other (g := w.heap.size + 1 + 1 + 1) hHeld.1 (by omega) (.int .i64 E) (.int .i64 0), rp_other (g := w.heap.size + 1 + 1 + 1) hHeld.2 (by omega) (.int .i64 E) (.int .i64 0)⟩ (fun hHeld => ?_)
  clear hK K
  (try simp only [Act.put, List.setIfInBounds_toArray, List.set_cons_zero, List.set_cons_succ])
  have HT2 := Lib.hid (rp_other HQ2.out (show w.heap.size + 1 + 1 + 1 ≠ w.heap.size + 1 + 1 by omega) (.int .i64 E) (.int .i64 0))
  have HT3 := Lib.hid (rp_put HQ3.out rfl (.int .i64 E) (.int .i64 0))
  have HTB := Lib.hid (rp_below HQB.out (show w.heap.size ≤ w.heap.size + 1 + 1 + 1 by omega) (.int .i64 E) (.int .i64 0))
  clear z0 z1 e0 e1 HQ2 HQ3 HQB hHeld
  generalize ((w10.setCell ⟨w.heap.size + 1 + 1 + 1, 0, none⟩ (.int .i64 E)).setCell ⟨w.heap.size + 1 + 1 + 1, 1, none⟩ (.int .i64 0)) = w11 at HT2 HT3 HTB ⊢
  refine wpAnyH_done (by kernel_rfl) ?_ _
  go_wp2
  refine bodyPost_ret (results_two (p := 4) (q := 5) (ty := 36) (tz := 40) rfl _ _ (w.heap.size + 1 + 1) (w.heap.size + 1 + 1 + 1) _ _ _ _ (0, 0) _ _ rfl HT2.out Tryd.underlying36 rfl (by kernel_rfl) rfl HT3.out Tryd.underlying40 rfl (by kernel_rfl)) rfl ?_
  exact ⟨some ad, c, some bd, d, rfl, HS.out.below HTB.out, HTB.out⟩

end Go.Proofs.YtjnmppdohglcaaaDoor

