/-
  The law's do by its contract: a new account.
-/
import Derived.Test.YtjnmppdohglcaaaDoorGrE
import Derived.Test.YtjnmppdohglcaaaDoorOpsFive
import Derived.Test.YtjnmppdohglcaaaDoorGrB
import Derived.Test.YtjnmppdohglcaaaDoorGrC
import Derived.Test.YtjnmppdohglcaaaDoorGrH
import Derived.Test.YtjnmppdohglcaaaDoorGrA
import Derived.BigQuiet
import Derived.BigRegion
import Derived.Deep.QuietTactic
import Derived.Deep.CutRange
import Derived.Deep.RegionHeld3
import Derived.IntWalk
import Derived.WalkSpells
namespace Go.Proofs.YtjnmppdohglcaaaDoor
open Go Go.RowKit
set_option linter.unusedVariables false

set_option maxRecDepth 100000 in
set_option maxHeartbeats 4000000 in
theorem lawop_open (s : St) (X Y : Value) (A : Option Addr) (c : Nat) (B : Option Addr) (d : Nat) (r : Rq) (w : World) (hs : StAt w s X Y A c B d) (hX : IsSl X) (hY : IsSl Y) (hl9 : 9 ≤ s.acs.length) (hl64 : s.acs.length ≤ 64) (hp64 : s.pys.length ≤ 2000000) (h0 : r.op = 0) (hl : s.acs.length < 64) :
    Calls Tryd.prog 9 #[stV s X Y A c B d, r.val] w (OpRes w ⟨s.acs ++ [⟨r.a, 0, 0⟩], s.pys, s.now⟩ X Y 0 (s.acs.length : Int)) := by
  obtain ⟨zs, ps, now⟩ := s
  obtain ⟨k, o, a, b, m, l, u⟩ := r
  obtain ⟨SA, sn, sc, rfl⟩ := hX
  obtain ⟨KA, kn, kc, rfl⟩ := hY
  obtain ⟨ad, rfl, _⟩ := hs.accs (by omega)
  have HS := Lib.hid hs
  dsimp only at h0 hl hl9 hl64 hp64 ⊢
  obtain ⟨n, hn⟩ : ∃ n, zs.length = n := ⟨_, rfl⟩
  obtain ⟨q, hq⟩ : ∃ q, ps.length = q := ⟨_, rfl⟩
  have HN := Lib.hid hn
  have HQ := Lib.hid hq
  unfold OpRes stV Rq.val
  dsimp only
  subst h0
  (try simp only [hn, hq] at hl hl9 hl64 hp64)
  simp only [hn, hq]
  clear hs hn hq
  go_enter Tryd.func9, Tryd.ntmps9
  go_upto_region 7 with (at_builtin; first
    | (refine wpList_append_accs _ rfl (.const (.slice none 0 0)) (.tmp 24) rfl (w.heap.size + 5) (.slice none 0 0) [] zs rfl OwnA.nil ad n c rfl HN.out (HS.out.accs.below (w5_below w _ _)) (by simp) (by omega) (by simp) ?_
       intro v1 w1 ho1 hg1
       have F1 := Lib.hid ((w5_five w (stC (some ad) n c B q d (.slice SA sn sc) (.slice KA kn kc) now) (rqC k 0 a b m l u)).grown hg1 (fun g h => by cases h))
       rw [List.nil_append] at ho1
       obtain ⟨A1, d1, hv1, _, _, _, _⟩ := ho1.form
       rw [HN.out] at hv1
       subst hv1
       have O1 := Lib.hid ho1
       have c1 := F1.out.bt.cell 0 rfl
       have f1 := F1.out.bt.loose 0
       have F2 := Lib.hid (F1.out.setT 0 (.slice A1 n d1))
       have O2 := Lib.hid (O1.out.setOther (p := ⟨w.heap.size + 1 + 1 + 1 + 1, 0, none⟩) (u := .slice A1 n d1) (fun g hg => by have := O1.out.rowLt g hg; dsimp only; omega))
       have c2 := F2.out.bs.cell 1 rfl
       have hz2 : w.heap.size + 5 ≤ w1.heap.size := F1.out.size
       clear ho1 hg1 O1 F1)
    | (refine wpList_append_new pays 32 Tryd.underlying32 info_pay rfl _ rfl (.const (.slice none 0 0)) (.tmp 28) rfl (w.heap.size + 5) ps rfl B q d rfl HQ.out (HS.out.pays.below F2.out.below) (by omega) (by omega) (by simp; omega) ?_
       intro v2 w2 ho2 hg2 hf2
       obtain ⟨A2, d2, hv2, _, _, _, _⟩ := ho2.form
       rw [HQ.out] at hv2
       subst hv2
       have F3 := Lib.hid (F2.out.grown hg2 (fun g h => by cases h))
       have O3 := Lib.hid (O2.out.same (w' := w2) (fun g hg => hg2.block g (World.ownsRow.lt O2.out g hg).2 (by nofun)))
       have P3 := Lib.hid ho2
       have c3 := F3.out.bt.cell 1 rfl
       have f3 := F3.out.bt.loose 1
       have F4 := F3.out.setT 1 (.slice A2 q d2)
       have HPRE := Lib.hid (show Pre w (w2.setCell ⟨w.heap.size + 1 + 1 + 1 + 1, 1, none⟩ (.slice A2 q d2)) ⟨zs, ps, now⟩ (.slice SA sn sc) (.slice KA kn kc) (some ad) c B d (stC (some ad) n c B q d (.slice SA sn sc) (.slice KA kn kc) now) (rqC k 0 a b m l u) (.slice A1 n d1) (.slice A2 q d2) now from
         ⟨F4, O3.out.setOther (fun g hg => by have := O3.out.rowLt g hg; dsimp only; omega), P3.out.setOther (fun g hg => by have := P3.out.rowLt g hg; dsimp only; omega), HS.out.below F4.below,
          fun g h1 h2 => by have h3 := (World.ownsRow.lt O2.out g h1).2; have h4 := hf2 g h2; omega⟩)
       have cr := HPRE.out.five.br.cell 1 rfl
       clear ho2 hg2 hf2 F3 F4 O3 P3 F2 O2 c2))
  clear c1 f1 c3 f3 cr
  generalize w2.setCell ⟨w.heap.size + 1 + 1 + 1 + 1, 1, none⟩ (.slice A2 q d2) = W at HPRE ⊢
  have HF := Lib.hid HPRE.out.five
  have x0 := HF.out.bs.cell 0 rfl
  have g0 := HF.out.bt.cell 0 rfl
  have r2 := HF.out.br.cell 2 rfl
  have hz := HF.out.size
  go_upto_region 11 with (at_builtin; first
   | (refine wpList_append_acc _ rfl (.tmp 45) (.tmp 49) rfl (w.heap.size + 5) (.slice A1 n d1) zs rfl (HPRE.out.oa.alloc _) ⟨W.heap.size, 0, none⟩ 1 ⟨a, 0, 0⟩ rfl (acAt_new _ _ rfl _ _ _ _) (by rw [HN.out]; omega) (by simp; omega) ?_
      intro v3 w3 ho3 hg3
      obtain ⟨A3, d3, hv3, _, _, _, _⟩ := ho3.form
      rw [List.length_append, HN.out, List.length_singleton] at hv3
      subst hv3
      have HF3 := Lib.hid ((HF.out.alloc _).grown hg3 HPRE.out.oa.rowLt)
      have HO3 := Lib.hid ho3
      have HP3 := Lib.hid ((HPRE.out.op.alloc (.cells #[.int .i64 a, .int .i64 0, .int .i64 0] 50)).same (w' := w3) (fun g hg => hg3.block g (World.ownsRow.lt (HPRE.out.op.alloc (.cells #[.int .i64 a, .int .i64 0, .int .i64 0] 50)) g hg).2 (fun e => HPRE.out.far g e.symm hg)))
      have t0 := HF3.out.bt.cell 0 rfl
      have l0 := HF3.out.bt.loose 0
      clear ho3 hg3 x0 g0 r2))
  have HF4 := Lib.hid (show Five w (w3.setCell ⟨w.heap.size + 1 + 1 + 1 + 1, 0, none⟩ (.slice A3 (n + 1) d3)) _ _ #[.slice A3 (n + 1) d3, .slice A2 q d2, .slice SA sn sc, .slice KA kn kc, .int .i64 now] from HF3.out.setT 0 (.slice A3 (n + 1) d3))
  have HO4 := Lib.hid (HO3.out.setOther (p := ⟨w.heap.size + 1 + 1 + 1 + 1, 0, none⟩) (u := .slice A3 (n + 1) d3) (fun g hg => by have := HO3.out.rowLt g hg; dsimp only; omega))
  have HP4 := Lib.hid (HP3.out.setOther (p := ⟨w.heap.size + 1 + 1 + 1 + 1, 0, none⟩) (u := .slice A3 (n + 1) d3) (fun g hg => by have := HP3.out.rowLt g hg; dsimp only; omega))
  clear t0 l0 HF3 HO3 HP3 hz
  generalize w3.setCell ⟨w.heap.size + 1 + 1 + 1 + 1, 0, none⟩ (.slice A3 (n + 1) d3) = w4 at HF4 HO4 HP4 ⊢
  refine wp_region_held_drew (S := fun w' => Blk w' (w.heap.size + 1 + 1 + 1 + 1) 36 #[.slice A3 (n + 1) d3, .slice A2 q d2, .slice SA sn sc, .slice KA kn kc, .int .i64 now] ∧ Blk w' w.heap.size 36 (stC (some ad) n c B q d (.slice SA sn sc) (.slice KA kn kc) now)) (by kernel_rfl) ⟨HF4.out.bt.drew, HF4.out.bs.drew⟩ (fun hHeld => ?_)
  refine take_at 0 52 (v := ?_) rfl rfl (by kernel_rfl) (by kernel_rfl) (by kernel_rfl) (fun _ _ _ h => h) (Or.inl ⟨by rfl, ?_⟩) (by assumption) ?_
  rotate_left
  · intro w' hSw
    have hSw' := hSw
    (try dsimp only at hSw')
    have c0 := hSw'.1.cell 0 rfl
    have c1 := hSw'.1.cell 1 rfl
    have c2 := hSw'.1.cell 2 rfl
    have c3 := hSw'.1.cell 3 rfl
    have c4 := hSw'.1.cell 4 rfl
    go_simp
    (try with_reducible rfl)
  (try simp only [Act.put, List.setIfInBounds_toArray, List.set_cons_zero, List.set_cons_succ])
  refine take_at 1 53 (v := ?_) rfl rfl (by kernel_rfl) (by kernel_rfl) (by kernel_rfl) (fun _ _ _ h => h) (Or.inl ⟨by rfl, ?_⟩) (by assumption) ?_
  rotate_left
  · intro w' hSw
    go_simp
    (try with_reducible rfl)
  (try simp only [Act.put, List.setIfInBounds_toArray, List.set_cons_zero, List.set_cons_succ])
  refine take_at 2 54 (v := ?_) rfl rfl (by kernel_rfl) (by kernel_rfl) (by kernel_rfl) (fun _ _ _ h => h) (Or.inl ⟨by rfl, ?_⟩) (by assumption) ?_
  rotate_left
  · intro w' hSw
    have hSw' := hSw
    (try dsimp only at hSw')
    have c0 := hSw'.2.cell 0 rfl
    go_simp
    (try with_reducible rfl)
  (try simp only [Act.put, List.setIfInBounds_toArray, List.set_cons_zero, List.set_cons_succ])
  refine take_at 3 55 (v := ?_) rfl rfl (by kernel_rfl) (by kernel_rfl) (by kernel_rfl) (fun _ _ _ h => h) (Or.inl ⟨by rfl, ?_⟩) (by assumption) ?_
  rotate_left
  · intro w' hSw
    go_simp
    (try with_reducible rfl)
  (try simp only [Act.put, List.setIfInBounds_toArray, List.set_cons_zero, List.set_cons_succ])
  refine take_at 4 56 (v := ?_) rfl rfl (by kernel_rfl) (by kernel_rfl) (by kernel_rfl) (fun _ _ _ h => h) (Or.inl ⟨by rfl, ?_⟩) (by assumption) ?_
  rotate_left
  · intro w' hSw
    go_simp
    (try with_reducible rfl)
  (try simp only [Act.put, List.setIfInBounds_toArray, List.set_cons_zero, List.set_cons_succ])
  have HQ0 := Lib.hid HF4.out
  have HQ1 := Lib.hid (HF4.out.drew)
  have HOA1 := Lib.hid (HO4.out.drew)
  have HOS1 := Lib.hid (HP4.out.drew)
  obtain ⟨y0, y1, y2, y3, y4⟩ := (show _ ∧ _ ∧ _ ∧ _ ∧ _ from ⟨HQ0.out.b2.cell 0 rfl, HQ0.out.b2.cell 1 rfl, HQ0.out.b2.cell 2 rfl, HQ0.out.b2.cell 3 rfl, HQ0.out.b2.cell 4 rfl⟩)
  obtain ⟨f0, f1, f2, f3, f4⟩ := (show _ ∧ _ ∧ _ ∧ _ ∧ _ from ⟨HQ0.out.b2.loose 0, HQ0.out.b2.loose 1, HQ0.out.b2.loose 2, HQ0.out.b2.loose 3, HQ0.out.b2.loose 4⟩)
  refine wpAnyH_ready (rs := [5]) (by kernel_rfl) (by simp) ?_
  refine AllReadyH.cons (i := 5) rfl (fun K hK => ?_) AllReadyH.nil
  go_simp
  refine hK.out _ (((((w4.drew.setCell ⟨w.heap.size + 1 + 1, 0, none⟩ (.slice A3 (n + 1) d3)).setCell ⟨w.heap.size + 1 + 1, 1, none⟩ (.slice A2 q d2)).setCell ⟨w.heap.size + 1 + 1, 2, none⟩ (.slice SA sn sc)).setCell ⟨w.heap.size + 1 + 1, 3, none⟩ (.slice KA kn kc)).setCell ⟨w.heap.size + 1 + 1, 4, none⟩ (.int .i64 now)) ⟨st_other (g := w.heap.size + 1 + 1) hHeld.1 (by omega) (.slice A3 (n + 1) d3) (.slice A2 q d2) (.slice SA sn sc) (.slice KA kn kc) (.int .i64 now), st_other (g := w.heap.size + 1 + 1) hHeld.2 (by omega) (.slice A3 (n + 1) d3) (.slice A2 q d2) (.slice SA sn sc) (.slice KA kn kc) (.int .i64 now)⟩ (fun hHeld => ?_)
  clear hK K
  (try simp only [Act.put, List.setIfInBounds_toArray, List.set_cons_zero, List.set_cons_succ])
  have HQ2 := Lib.hid (st_put HQ1.out.b2 rfl (.slice A3 (n + 1) d3) (.slice A2 q d2) (.slice SA sn sc) (.slice KA kn kc) (.int .i64 now))
  have HQ3 := Lib.hid (st_other HQ1.out.b3 (show w.heap.size + 1 + 1 ≠ w.heap.size + 1 + 1 + 1 by omega) (.slice A3 (n + 1) d3) (.slice A2 q d2) (.slice SA sn sc) (.slice KA kn kc) (.int .i64 now))
  have HQB := Lib.hid (st_below HQ1.out.below (show w.heap.size ≤ w.heap.size + 1 + 1 by omega) (.slice A3 (n + 1) d3) (.slice A2 q d2) (.slice SA sn sc) (.slice KA kn kc) (.int .i64 now))
  have HOA2 := Lib.hid (st_ownA HOA1.out (show w.heap.size + 1 + 1 < w.heap.size + 5 by omega) (.slice A3 (n + 1) d3) (.slice A2 q d2) (.slice SA sn sc) (.slice KA kn kc) (.int .i64 now))
  have HOS2 := Lib.hid (st_ownS HOS1.out (show w.heap.size + 1 + 1 < w.heap.size + 5 by omega) (.slice A3 (n + 1) d3) (.slice A2 q d2) (.slice SA sn sc) (.slice KA kn kc) (.int .i64 now))
  clear y0 y1 y2 y3 y4 f0 f1 f2 f3 f4 HQ1 HQ0 HOA1 HOS1
  generalize (((((w4.drew.setCell ⟨w.heap.size + 1 + 1, 0, none⟩ (.slice A3 (n + 1) d3)).setCell ⟨w.heap.size + 1 + 1, 1, none⟩ (.slice A2 q d2)).setCell ⟨w.heap.size + 1 + 1, 2, none⟩ (.slice SA sn sc)).setCell ⟨w.heap.size + 1 + 1, 3, none⟩ (.slice KA kn kc)).setCell ⟨w.heap.size + 1 + 1, 4, none⟩ (.int .i64 now)) = w10 at HQ2 HQ3 HQB hHeld HOA2 HOS2 ⊢
  obtain ⟨z0, z1⟩ := (show _ ∧ _ from ⟨HQ3.out.cell 0 rfl, HQ3.out.cell 1 rfl⟩)
  obtain ⟨e0, e1⟩ := (show _ ∧ _ from ⟨HQ3.out.loose 0, HQ3.out.loose 1⟩)
  refine wpAnyH_ready (rs := [6]) (by kernel_rfl) (by simp) ?_
  refine AllReadyH.cons (i := 6) rfl (fun K hK => ?_) AllReadyH.nil
  go_simp
  refine hK.out _ ((w10.setCell ⟨w.heap.size + 1 + 1 + 1, 0, none⟩ (.int .i64 0)).setCell ⟨w.heap.size + 1 + 1 + 1, 1, none⟩ (.int .i64 (n : Int))) ⟨rp_other (g := w.heap.size + 1 + 1 + 1) hHeld.1 (by omega) (.int .i64 0) (.int .i64 (n : Int)), rp_other (g := w.heap.size + 1 + 1 + 1) hHeld.2 (by omega) (.int .i64 0) (.int .i64 (n : Int))⟩ (fun hHeld => ?_)
  clear hK K
  (try simp only [Act.put, List.setIfInBounds_toArray, List.set_cons_zero, List.set_cons_succ])
  have HT2 := Lib.hid (rp_other HQ2.out (show w.heap.size + 1 + 1 + 1 ≠ w.heap.size + 1 + 1 by omega) (.int .i64 0) (.int .i64 (n : Int)))
  have HT3 := Lib.hid (rp_put HQ3.out rfl (.int .i64 0) (.int .i64 (n : Int)))
  have HTB := Lib.hid (rp_below HQB.out (show w.heap.size ≤ w.heap.size + 1 + 1 + 1 by omega) (.int .i64 0) (.int .i64 (n : Int)))
  have HWA := Lib.hid (rp_ownA HOA2.out (show w.heap.size + 1 + 1 + 1 < w.heap.size + 5 by omega) (.int .i64 0) (.int .i64 (n : Int)))
  have HWS := Lib.hid (rp_ownS HOS2.out (show w.heap.size + 1 + 1 + 1 < w.heap.size + 5 by omega) (.int .i64 0) (.int .i64 (n : Int)))
  clear z0 z1 e0 e1 HQ2 HQ3 HQB hHeld HOA2 HOS2
  generalize ((w10.setCell ⟨w.heap.size + 1 + 1 + 1, 0, none⟩ (.int .i64 0)).setCell ⟨w.heap.size + 1 + 1 + 1, 1, none⟩ (.int .i64 (n : Int))) = w11 at HT2 HT3 HTB HWA HWS ⊢
  refine wpAnyH_done (by kernel_rfl) ?_ _
  go_wp2
  refine bodyPost_ret (results_two (p := 4) (q := 5) (ty := 36) (tz := 40) rfl _ _ (w.heap.size + 1 + 1) (w.heap.size + 1 + 1 + 1) _ _ _ _ (0, 0) _ _ rfl HT2.out Tryd.underlying36 rfl (by kernel_rfl) rfl HT3.out Tryd.underlying40 rfl (by kernel_rfl)) rfl ?_
  exact ⟨A3, d3, A2, d2, by rw [HN.out], st_own HWA.out HWS.out (by rw [List.length_append, HN.out]; rfl) HQ.out, HTB.out⟩

end Go.Proofs.YtjnmppdohglcaaaDoor

