/-
  The law's do by its contract: an op of no payment.
-/
import Derived.Test.YtjnmppdohglcaaaDoorGrE
import Derived.Test.YtjnmppdohglcaaaDoorOpsFive
import Derived.Test.YtjnmppdohglcaaaDoorGrB
import Derived.Test.YtjnmppdohglcaaaDoorGrC
import Derived.Test.YtjnmppdohglcaaaDoorGrH
import Derived.Test.YtjnmppdohglcaaaDoorGrA
import Derived.BigQuiet
import Derived.BigRegion
import Derived.Deep.QuietTactic
import Derived.Deep.CutRange
import Derived.Deep.RegionHeld3
import Derived.IntWalk
import Derived.WalkSpells
import Derived.Test.YtjnmppdohglcaaaDoorOpsSmall
namespace Go.Proofs.YtjnmppdohglcaaaDoor
open Go Go.RowKit
set_option linter.unusedVariables false

set_option maxRecDepth 100000 in
set_option maxHeartbeats 4000000 in
theorem lawop_pay_no4 (s : St) (X Y : Value) (A : Option Addr) (c : Nat) (B : Option Addr) (d : Nat) (r : Rq) (w : World) (hs : StAt w s X Y A c B d) (hX : IsSl X) (hY : IsSl Y) (hl9 : 9 ≤ s.acs.length) (hl64 : s.acs.length ≤ 64) (hp64 : s.pys.length ≤ 2000000) (h0 : r.op = 4) (hc : ¬ (0 ≤ r.a ∧ r.a < (s.pys.length : Int))) :
    Calls Tryd.prog 9 #[stV s X Y A c B d, r.val] w (OpRes w s X Y 2 0) := by
  obtain ⟨zs, ps, now⟩ := s
  obtain ⟨k, o, a, b, m, l, u⟩ := r
  obtain ⟨SA, sn, sc, rfl⟩ := hX
  obtain ⟨KA, kn, kc, rfl⟩ := hY
  obtain ⟨ad, rfl, _⟩ := hs.accs (by omega)
  have HS := Lib.hid hs
  dsimp only at h0 hc hl9 hl64 hp64 ⊢
  obtain ⟨n, hn⟩ : ∃ n, zs.length = n := ⟨_, rfl⟩
  obtain ⟨q, hq⟩ : ∃ q, ps.length = q := ⟨_, rfl⟩
  have HN := Lib.hid hn
  have HQ := Lib.hid hq
  unfold OpRes stV Rq.val
  dsimp only
  subst h0
  (try simp only [hn, hq] at hc hl9 hl64 hp64)
  simp only [hn, hq]
  clear hs hn hq
  go_enter Tryd.func9, Tryd.ntmps9
  go_upto_region 40 with (at_builtin; first
    | (refine wpList_append_accs _ rfl (.const (.slice none 0 0)) (.tmp 24) rfl (w.heap.size + 5) (.slice none 0 0) [] zs rfl OwnA.nil ad n c rfl HN.out (HS.out.accs.below (w5_below w _ _)) (by simp) (by omega) (by simp) ?_
       intro v1 w1 ho1 hg1
       have F1 := Lib.hid ((w5_five w (stC (some ad) n c B q d (.slice SA sn sc) (.slice KA kn kc) now) (rqC k 4 a b m l u)).grown hg1 (fun g h => by cases h))
       rw [List.nil_append] at ho1
       obtain ⟨A1, d1, hv1, _, _, _, _⟩ := ho1.form
       rw [HN.out] at hv1
       subst hv1
       have O1 := Lib.hid ho1
       have c1 := F1.out.bt.cell 0 rfl
       have f1 := F1.out.bt.loose 0
       have F2 := Lib.hid (F1.out.setT 0 (.slice A1 n d1))
       have O2 := Lib.hid (O1.out.setOther (p := ⟨w.heap.size + 1 + 1 + 1 + 1, 0, none⟩) (u := .slice A1 n d1) (fun g hg => by have := O1.out.rowLt g hg; dsimp only; omega))
       have c2 := F2.out.bs.cell 1 rfl
       have hz2 : w.heap.size + 5 ≤ w1.heap.size := F1.out.size
       clear ho1 hg1 O1 F1)
    | (refine wpList_append_new pays 32 Tryd.underlying32 info_pay rfl _ rfl (.const (.slice none 0 0)) (.tmp 28) rfl (w.heap.size + 5) ps rfl B q d rfl HQ.out (HS.out.pays.below F2.out.below) (by omega) (by omega) (by simp; omega) ?_
       intro v2 w2 ho2 hg2 hf2
       obtain ⟨A2, d2, hv2, _, _, _, _⟩ := ho2.form
       rw [HQ.out] at hv2
       subst hv2
       have F3 := Lib.hid (F2.out.grown hg2 (fun g h => by cases h))
       have O3 := Lib.hid (O2.out.same (w' := w2) (fun g hg => hg2.block g (World.ownsRow.lt O2.out g hg).2 (by nofun)))
       have P3 := Lib.hid ho2
       have c3 := F3.out.bt.cell 1 rfl
       have f3 := F3.out.bt.loose 1
       have F4 := F3.out.setT 1 (.slice A2 q d2)
       have HPRE := Lib.hid (show Pre w (w2.setCell ⟨w.heap.size + 1 + 1 + 1 + 1, 1, none⟩ (.slice A2 q d2)) ⟨zs, ps, now⟩ (.slice SA sn sc) (.slice KA kn kc) (some ad) c B d (stC (some ad) n c B q d (.slice SA sn sc) (.slice KA kn kc) now) (rqC k 4 a b m l u) (.slice A1 n d1) (.slice A2 q d2) now from
         ⟨F4, O3.out.setOther (fun g hg => by have := O3.out.rowLt g hg; dsimp only; omega), P3.out.setOther (fun g hg => by have := P3.out.rowLt g hg; dsimp only; omega), HS.out.below F4.below,
          fun g h1 h2 => by have h3 := (World.ownsRow.lt O2.out g h1).2; have h4 := hf2 g h2; omega⟩)
       have cr := HPRE.out.five.br.cell 1 rfl
       clear ho2 hg2 hf2 F3 F4 O3 P3 F2 O2 c2))
  clear c1 f1 c3 f3 cr
  generalize w2.setCell ⟨w.heap.size + 1 + 1 + 1 + 1, 1, none⟩ (.slice A2 q d2) = W at HPRE ⊢
  have HF := Lib.hid HPRE.out.five
  obtain ⟨x0, x1, x2, x3, x4⟩ := (show _ ∧ _ ∧ _ ∧ _ ∧ _ from ⟨HF.out.bs.cell 0 rfl, HF.out.bs.cell 1 rfl, HF.out.bs.cell 2 rfl, HF.out.bs.cell 3 rfl, HF.out.bs.cell 4 rfl⟩)
  obtain ⟨y0, y1, y2, y3, y4⟩ := (show _ ∧ _ ∧ _ ∧ _ ∧ _ from ⟨HF.out.b2.cell 0 rfl, HF.out.b2.cell 1 rfl, HF.out.b2.cell 2 rfl, HF.out.b2.cell 3 rfl, HF.out.b2.cell 4 rfl⟩)
  obtain ⟨f0, f1, f2, f3, f4⟩ := (show _ ∧ _ ∧ _ ∧ _ ∧ _ from ⟨HF.out.b2.loose 0, HF.out.b2.loose 1, HF.out.b2.loose 2, HF.out.b2.loose 3, HF.out.b2.loose 4⟩)
  obtain ⟨z0, z1⟩ := (show _ ∧ _ from ⟨HF.out.b3.cell 0 rfl, HF.out.b3.cell 1 rfl⟩)
  obtain ⟨e0, e1⟩ := (show _ ∧ _ from ⟨HF.out.b3.loose 0, HF.out.b3.loose 1⟩)
  have r2 := HF.out.br.cell 2 rfl
  by_cases hlt : a < 0
  · have qa := decide_eq_true hlt
    go_wp2
    have HT := told_at HF.out.b2 HF.out.b3 rfl rfl (by omega) (.slice (some ad) n c) (.slice B q d) (.slice SA sn sc) (.slice KA kn kc) (.int .i64 now) (.int .i64 2) (.int .i64 0)
    have HBT := told_below HF.out.below (show w.heap.size ≤ w.heap.size + 1 + 1 by omega) (show w.heap.size ≤ w.heap.size + 1 + 1 + 1 by omega) (.slice (some ad) n c) (.slice B q d) (.slice SA sn sc) (.slice KA kn kc) (.int .i64 now) (.int .i64 2) (.int .i64 0)
    refine bodyPost_ret (results_two (p := 4) (q := 5) (ty := 36) (tz := 40) rfl _ _ (w.heap.size + 1 + 1) (w.heap.size + 1 + 1 + 1) _ _ _ _ (0, 0) _ _ rfl HT.1 Tryd.underlying36 rfl (by kernel_rfl) rfl HT.2 Tryd.underlying40 rfl (by kernel_rfl)) rfl ?_
    exact ⟨some ad, c, B, d, rfl, HS.out.below HBT, HBT⟩
  · have qa := decide_eq_false hlt
    have qb : decide ((q : Int) ≤ a) = true := decide_eq_true (by omega)
    go_wp2
    have HT := told_at HF.out.b2 HF.out.b3 rfl rfl (by omega) (.slice (some ad) n c) (.slice B q d) (.slice SA sn sc) (.slice KA kn kc) (.int .i64 now) (.int .i64 2) (.int .i64 0)
    have HBT := told_below HF.out.below (show w.heap.size ≤ w.heap.size + 1 + 1 by omega) (show w.heap.size ≤ w.heap.size + 1 + 1 + 1 by omega) (.slice (some ad) n c) (.slice B q d) (.slice SA sn sc) (.slice KA kn kc) (.int .i64 now) (.int .i64 2) (.int .i64 0)
    refine bodyPost_ret (results_two (p := 4) (q := 5) (ty := 36) (tz := 40) rfl _ _ (w.heap.size + 1 + 1) (w.heap.size + 1 + 1 + 1) _ _ _ _ (0, 0) _ _ rfl HT.1 Tryd.underlying36 rfl (by kernel_rfl) rfl HT.2 Tryd.underlying40 rfl (by kernel_rfl)) rfl ?_
    exact ⟨some ad, c, B, d, rfl, HS.out.below HBT, HBT⟩


set_option maxRecDepth 100000 in
set_option maxHeartbeats 4000000 in
theorem lawop_pay_no5 (s : St) (X Y : Value) (A : Option Addr) (c : Nat) (B : Option Addr) (d : Nat) (r : Rq) (w : World) (hs : StAt w s X Y A c B d) (hX : IsSl X) (hY : IsSl Y) (hl9 : 9 ≤ s.acs.length) (hl64 : s.acs.length ≤ 64) (hp64 : s.pys.length ≤ 2000000) (h0 : r.op = 5) (hc : ¬ (0 ≤ r.a ∧ r.a < (s.pys.length : Int))) :
    Calls Tryd.prog 9 #[stV s X Y A c B d, r.val] w (OpRes w s X Y 2 0) := by
  obtain ⟨zs, ps, now⟩ := s
  obtain ⟨k, o, a, b, m, l, u⟩ := r
  obtain ⟨SA, sn, sc, rfl⟩ := hX
  obtain ⟨KA, kn, kc, rfl⟩ := hY
  obtain ⟨ad, rfl, _⟩ := hs.accs (by omega)
  have HS := Lib.hid hs
  dsimp only at h0 hc hl9 hl64 hp64 ⊢
  obtain ⟨n, hn⟩ : ∃ n, zs.length = n := ⟨_, rfl⟩
  obtain ⟨q, hq⟩ : ∃ q, ps.length = q := ⟨_, rfl⟩
  have HN := Lib.hid hn
  have HQ := Lib.hid hq
  unfold OpRes stV Rq.val
  dsimp only
  subst h0
  (try simp only [hn, hq] at hc hl9 hl64 hp64)
  simp only [hn, hq]
  clear hs hn hq
  go_enter Tryd.func9, Tryd.ntmps9
  go_upto_region 40 with (at_builtin; first
    | (refine wpList_append_accs _ rfl (.const (.slice none 0 0)) (.tmp 24) rfl (w.heap.size + 5) (.slice none 0 0) [] zs rfl OwnA.nil ad n c rfl HN.out (HS.out.accs.below (w5_below w _ _)) (by simp) (by omega) (by simp) ?_
       intro v1 w1 ho1 hg1
       have F1 := Lib.hid ((w5_five w (stC (some ad) n c B q d (.slice SA sn sc) (.slice KA kn kc) now) (rqC k 5 a b m l u)).grown hg1 (fun g h => by cases h))
       rw [List.nil_append] at ho1
       obtain ⟨A1, d1, hv1, _, _, _, _⟩ := ho1.form
       rw [HN.out] at hv1
       subst hv1
       have O1 := Lib.hid ho1
       have c1 := F1.out.bt.cell 0 rfl
       have f1 := F1.out.bt.loose 0
       have F2 := Lib.hid (F1.out.setT 0 (.slice A1 n d1))
       have O2 := Lib.hid (O1.out.setOther (p := ⟨w.heap.size + 1 + 1 + 1 + 1, 0, none⟩) (u := .slice A1 n d1) (fun g hg => by have := O1.out.rowLt g hg; dsimp only; omega))
       have c2 := F2.out.bs.cell 1 rfl
       have hz2 : w.heap.size + 5 ≤ w1.heap.size := F1.out.size
       clear ho1 hg1 O1 F1)
    | (refine wpList_append_new pays 32 Tryd.underlying32 info_pay rfl _ rfl (.const (.slice none 0 0)) (.tmp 28) rfl (w.heap.size + 5) ps rfl B q d rfl HQ.out (HS.out.pays.below F2.out.below) (by omega) (by omega) (by simp; omega) ?_
       intro v2 w2 ho2 hg2 hf2
       obtain ⟨A2, d2, hv2, _, _, _, _⟩ := ho2.form
       rw [HQ.out] at hv2
       subst hv2
       have F3 := Lib.hid (F2.out.grown hg2 (fun g h => by cases h))
       have O3 := Lib.hid (O2.out.same (w' := w2) (fun g hg => hg2.block g (World.ownsRow.lt O2.out g hg).2 (by nofun)))
       have P3 := Lib.hid ho2
       have c3 := F3.out.bt.cell 1 rfl
       have f3 := F3.out.bt.loose 1
       have F4 := F3.out.setT 1 (.slice A2 q d2)
       have HPRE := Lib.hid (show Pre w (w2.setCell ⟨w.heap.size + 1 + 1 + 1 + 1, 1, none⟩ (.slice A2 q d2)) ⟨zs, ps, now⟩ (.slice SA sn sc) (.slice KA kn kc) (some ad) c B d (stC (some ad) n c B q d (.slice SA sn sc) (.slice KA kn kc) now) (rqC k 5 a b m l u) (.slice A1 n d1) (.slice A2 q d2) now from
         ⟨F4, O3.out.setOther (fun g hg => by have := O3.out.rowLt g hg; dsimp only; omega), P3.out.setOther (fun g hg => by have := P3.out.rowLt g hg; dsimp only; omega), HS.out.below F4.below,
          fun g h1 h2 => by have h3 := (World.ownsRow.lt O2.out g h1).2; have h4 := hf2 g h2; omega⟩)
       have cr := HPRE.out.five.br.cell 1 rfl
       clear ho2 hg2 hf2 F3 F4 O3 P3 F2 O2 c2))
  clear c1 f1 c3 f3 cr
  generalize w2.setCell ⟨w.heap.size + 1 + 1 + 1 + 1, 1, none⟩ (.slice A2 q d2) = W at HPRE ⊢
  have HF := Lib.hid HPRE.out.five
  obtain ⟨x0, x1, x2, x3, x4⟩ := (show _ ∧ _ ∧ _ ∧ _ ∧ _ from ⟨HF.out.bs.cell 0 rfl, HF.out.bs.cell 1 rfl, HF.out.bs.cell 2 rfl, HF.out.bs.cell 3 rfl, HF.out.bs.cell 4 rfl⟩)
  obtain ⟨y0, y1, y2, y3, y4⟩ := (show _ ∧ _ ∧ _ ∧ _ ∧ _ from ⟨HF.out.b2.cell 0 rfl, HF.out.b2.cell 1 rfl, HF.out.b2.cell 2 rfl, HF.out.b2.cell 3 rfl, HF.out.b2.cell 4 rfl⟩)
  obtain ⟨f0, f1, f2, f3, f4⟩ := (show _ ∧ _ ∧ _ ∧ _ ∧ _ from ⟨HF.out.b2.loose 0, HF.out.b2.loose 1, HF.out.b2.loose 2, HF.out.b2.loose 3, HF.out.b2.loose 4⟩)
  obtain ⟨z0, z1⟩ := (show _ ∧ _ from ⟨HF.out.b3.cell 0 rfl, HF.out.b3.cell 1 rfl⟩)
  obtain ⟨e0, e1⟩ := (show _ ∧ _ from ⟨HF.out.b3.loose 0, HF.out.b3.loose 1⟩)
  have r2 := HF.out.br.cell 2 rfl
  by_cases hlt : a < 0
  · have qa := decide_eq_true hlt
    go_wp2
    have HT := told_at HF.out.b2 HF.out.b3 rfl rfl (by omega) (.slice (some ad) n c) (.slice B q d) (.slice SA sn sc) (.slice KA kn kc) (.int .i64 now) (.int .i64 2) (.int .i64 0)
    have HBT := told_below HF.out.below (show w.heap.size ≤ w.heap.size + 1 + 1 by omega) (show w.heap.size ≤ w.heap.size + 1 + 1 + 1 by omega) (.slice (some ad) n c) (.slice B q d) (.slice SA sn sc) (.slice KA kn kc) (.int .i64 now) (.int .i64 2) (.int .i64 0)
    refine bodyPost_ret (results_two (p := 4) (q := 5) (ty := 36) (tz := 40) rfl _ _ (w.heap.size + 1 + 1) (w.heap.size + 1 + 1 + 1) _ _ _ _ (0, 0) _ _ rfl HT.1 Tryd.underlying36 rfl (by kernel_rfl) rfl HT.2 Tryd.underlying40 rfl (by kernel_rfl)) rfl ?_
    exact ⟨some ad, c, B, d, rfl, HS.out.below HBT, HBT⟩
  · have qa := decide_eq_false hlt
    have qb : decide ((q : Int) ≤ a) = true := decide_eq_true (by omega)
    go_wp2
    have HT := told_at HF.out.b2 HF.out.b3 rfl rfl (by omega) (.slice (some ad) n c) (.slice B q d) (.slice SA sn sc) (.slice KA kn kc) (.int .i64 now) (.int .i64 2) (.int .i64 0)
    have HBT := told_below HF.out.below (show w.heap.size ≤ w.heap.size + 1 + 1 by omega) (show w.heap.size ≤ w.heap.size + 1 + 1 + 1 by omega) (.slice (some ad) n c) (.slice B q d) (.slice SA sn sc) (.slice KA kn kc) (.int .i64 now) (.int .i64 2) (.int .i64 0)
    refine bodyPost_ret (results_two (p := 4) (q := 5) (ty := 36) (tz := 40) rfl _ _ (w.heap.size + 1 + 1) (w.heap.size + 1 + 1 + 1) _ _ _ _ (0, 0) _ _ rfl HT.1 Tryd.underlying36 rfl (by kernel_rfl) rfl HT.2 Tryd.underlying40 rfl (by kernel_rfl)) rfl ?_
    exact ⟨some ad, c, B, d, rfl, HS.out.below HBT, HBT⟩


set_option maxRecDepth 100000 in
set_option maxHeartbeats 4000000 in
theorem lawop_pay_no6 (s : St) (X Y : Value) (A : Option Addr) (c : Nat) (B : Option Addr) (d : Nat) (r : Rq) (w : World) (hs : StAt w s X Y A c B d) (hX : IsSl X) (hY : IsSl Y) (hl9 : 9 ≤ s.acs.length) (hl64 : s.acs.length ≤ 64) (hp64 : s.pys.length ≤ 2000000) (h0 : r.op = 6) (hc : ¬ (0 ≤ r.a ∧ r.a < (s.pys.length : Int))) :
    Calls Tryd.prog 9 #[stV s X Y A c B d, r.val] w (OpRes w s X Y 2 0) := by
  obtain ⟨zs, ps, now⟩ := s
  obtain ⟨k, o, a, b, m, l, u⟩ := r
  obtain ⟨SA, sn, sc, rfl⟩ := hX
  obtain ⟨KA, kn, kc, rfl⟩ := hY
  obtain ⟨ad, rfl, _⟩ := hs.accs (by omega)
  have HS := Lib.hid hs
  dsimp only at h0 hc hl9 hl64 hp64 ⊢
  obtain ⟨n, hn⟩ : ∃ n, zs.length = n := ⟨_, rfl⟩
  obtain ⟨q, hq⟩ : ∃ q, ps.length = q := ⟨_, rfl⟩
  have HN := Lib.hid hn
  have HQ := Lib.hid hq
  unfold OpRes stV Rq.val
  dsimp only
  subst h0
  (try simp only [hn, hq] at hc hl9 hl64 hp64)
  simp only [hn, hq]
  clear hs hn hq
  go_enter Tryd.func9, Tryd.ntmps9
  go_upto_region 40 with (at_builtin; first
    | (refine wpList_append_accs _ rfl (.const (.slice none 0 0)) (.tmp 24) rfl (w.heap.size + 5) (.slice none 0 0) [] zs rfl OwnA.nil ad n c rfl HN.out (HS.out.accs.below (w5_below w _ _)) (by simp) (by omega) (by simp) ?_
       intro v1 w1 ho1 hg1
       have F1 := Lib.hid ((w5_five w (stC (some ad) n c B q d (.slice SA sn sc) (.slice KA kn kc) now) (rqC k 6 a b m l u)).grown hg1 (fun g h => by cases h))
       rw [List.nil_append] at ho1
       obtain ⟨A1, d1, hv1, _, _, _, _⟩ := ho1.form
       rw [HN.out] at hv1
       subst hv1
       have O1 := Lib.hid ho1
       have c1 := F1.out.bt.cell 0 rfl
       have f1 := F1.out.bt.loose 0
       have F2 := Lib.hid (F1.out.setT 0 (.slice A1 n d1))
       have O2 := Lib.hid (O1.out.setOther (p := ⟨w.heap.size + 1 + 1 + 1 + 1, 0, none⟩) (u := .slice A1 n d1) (fun g hg => by have := O1.out.rowLt g hg; dsimp only; omega))
       have c2 := F2.out.bs.cell 1 rfl
       have hz2 : w.heap.size + 5 ≤ w1.heap.size := F1.out.size
       clear ho1 hg1 O1 F1)
    | (refine wpList_append_new pays 32 Tryd.underlying32 info_pay rfl _ rfl (.const (.slice none 0 0)) (.tmp 28) rfl (w.heap.size + 5) ps rfl B q d rfl HQ.out (HS.out.pays.below F2.out.below) (by omega) (by omega) (by simp; omega) ?_
       intro v2 w2 ho2 hg2 hf2
       obtain ⟨A2, d2, hv2, _, _, _, _⟩ := ho2.form
       rw [HQ.out] at hv2
       subst hv2
       have F3 := Lib.hid (F2.out.grown hg2 (fun g h => by cases h))
       have O3 := Lib.hid (O2.out.same (w' := w2) (fun g hg => hg2.block g (World.ownsRow.lt O2.out g hg).2 (by nofun)))
       have P3 := Lib.hid ho2
       have c3 := F3.out.bt.cell 1 rfl
       have f3 := F3.out.bt.loose 1
       have F4 := F3.out.setT 1 (.slice A2 q d2)
       have HPRE := Lib.hid (show Pre w (w2.setCell ⟨w.heap.size + 1 + 1 + 1 + 1, 1, none⟩ (.slice A2 q d2)) ⟨zs, ps, now⟩ (.slice SA sn sc) (.slice KA kn kc) (some ad) c B d (stC (some ad) n c B q d (.slice SA sn sc) (.slice KA kn kc) now) (rqC k 6 a b m l u) (.slice A1 n d1) (.slice A2 q d2) now from
         ⟨F4, O3.out.setOther (fun g hg => by have := O3.out.rowLt g hg; dsimp only; omega), P3.out.setOther (fun g hg => by have := P3.out.rowLt g hg; dsimp only; omega), HS.out.below F4.below,
          fun g h1 h2 => by have h3 := (World.ownsRow.lt O2.out g h1).2; have h4 := hf2 g h2; omega⟩)
       have cr := HPRE.out.five.br.cell 1 rfl
       clear ho2 hg2 hf2 F3 F4 O3 P3 F2 O2 c2))
  clear c1 f1 c3 f3 cr
  generalize w2.setCell ⟨w.heap.size + 1 + 1 + 1 + 1, 1, none⟩ (.slice A2 q d2) = W at HPRE ⊢
  have HF := Lib.hid HPRE.out.five
  obtain ⟨x0, x1, x2, x3, x4⟩ := (show _ ∧ _ ∧ _ ∧ _ ∧ _ from ⟨HF.out.bs.cell 0 rfl, HF.out.bs.cell 1 rfl, HF.out.bs.cell 2 rfl, HF.out.bs.cell 3 rfl, HF.out.bs.cell 4 rfl⟩)
  obtain ⟨y0, y1, y2, y3, y4⟩ := (show _ ∧ _ ∧ _ ∧ _ ∧ _ from ⟨HF.out.b2.cell 0 rfl, HF.out.b2.cell 1 rfl, HF.out.b2.cell 2 rfl, HF.out.b2.cell 3 rfl, HF.out.b2.cell 4 rfl⟩)
  obtain ⟨f0, f1, f2, f3, f4⟩ := (show _ ∧ _ ∧ _ ∧ _ ∧ _ from ⟨HF.out.b2.loose 0, HF.out.b2.loose 1, HF.out.b2.loose 2, HF.out.b2.loose 3, HF.out.b2.loose 4⟩)
  obtain ⟨z0, z1⟩ := (show _ ∧ _ from ⟨HF.out.b3.cell 0 rfl, HF.out.b3.cell 1 rfl⟩)
  obtain ⟨e0, e1⟩ := (show _ ∧ _ from ⟨HF.out.b3.loose 0, HF.out.b3.loose 1⟩)
  have r2 := HF.out.br.cell 2 rfl
  by_cases hlt : a < 0
  · have qa := decide_eq_true hlt
    go_wp2
    have HT := told_at HF.out.b2 HF.out.b3 rfl rfl (by omega) (.slice (some ad) n c) (.slice B q d) (.slice SA sn sc) (.slice KA kn kc) (.int .i64 now) (.int .i64 2) (.int .i64 0)
    have HBT := told_below HF.out.below (show w.heap.size ≤ w.heap.size + 1 + 1 by omega) (show w.heap.size ≤ w.heap.size + 1 + 1 + 1 by omega) (.slice (some ad) n c) (.slice B q d) (.slice SA sn sc) (.slice KA kn kc) (.int .i64 now) (.int .i64 2) (.int .i64 0)
    refine bodyPost_ret (results_two (p := 4) (q := 5) (ty := 36) (tz := 40) rfl _ _ (w.heap.size + 1 + 1) (w.heap.size + 1 + 1 + 1) _ _ _ _ (0, 0) _ _ rfl HT.1 Tryd.underlying36 rfl (by kernel_rfl) rfl HT.2 Tryd.underlying40 rfl (by kernel_rfl)) rfl ?_
    exact ⟨some ad, c, B, d, rfl, HS.out.below HBT, HBT⟩
  · have qa := decide_eq_false hlt
    have qb : decide ((q : Int) ≤ a) = true := decide_eq_true (by omega)
    go_wp2
    have HT := told_at HF.out.b2 HF.out.b3 rfl rfl (by omega) (.slice (some ad) n c) (.slice B q d) (.slice SA sn sc) (.slice KA kn kc) (.int .i64 now) (.int .i64 2) (.int .i64 0)
    have HBT := told_below HF.out.below (show w.heap.size ≤ w.heap.size + 1 + 1 by omega) (show w.heap.size ≤ w.heap.size + 1 + 1 + 1 by omega) (.slice (some ad) n c) (.slice B q d) (.slice SA sn sc) (.slice KA kn kc) (.int .i64 now) (.int .i64 2) (.int .i64 0)
    refine bodyPost_ret (results_two (p := 4) (q := 5) (ty := 36) (tz := 40) rfl _ _ (w.heap.size + 1 + 1) (w.heap.size + 1 + 1 + 1) _ _ _ _ (0, 0) _ _ rfl HT.1 Tryd.underlying36 rfl (by kernel_rfl) rfl HT.2 Tryd.underlying40 rfl (by kernel_rfl)) rfl ?_
    exact ⟨some ad, c, B, d, rfl, HS.out.below HBT, HBT⟩


set_option maxRecDepth 100000 in
set_option maxHeartbeats 4000000 in
theorem lawop_pay_no7 (s : St) (X Y : Value) (A : Option Addr) (c : Nat) (B : Option Addr) (d : Nat) (r : Rq) (w : World) (hs : StAt w s X Y A c B d) (hX : IsSl X) (hY : IsSl Y) (hl9 : 9 ≤ s.acs.length) (hl64 : s.acs.length ≤ 64) (hp64 : s.pys.length ≤ 2000000) (h0 : r.op = 7) (hc : ¬ (0 ≤ r.a ∧ r.a < (s.pys.length : Int))) :
    Calls Tryd.prog 9 #[stV s X Y A c B d, r.val] w (OpRes w s X Y 2 0) := by
  obtain ⟨zs, ps, now⟩ := s
  obtain ⟨k, o, a, b, m, l, u⟩ := r
  obtain ⟨SA, sn, sc, rfl⟩ := hX
  obtain ⟨KA, kn, kc, rfl⟩ := hY
  obtain ⟨ad, rfl, _⟩ := hs.accs (by omega)
  have HS := Lib.hid hs
  dsimp only at h0 hc hl9 hl64 hp64 ⊢
  obtain ⟨n, hn⟩ : ∃ n, zs.length = n := ⟨_, rfl⟩
  obtain ⟨q, hq⟩ : ∃ q, ps.length = q := ⟨_, rfl⟩
  have HN := Lib.hid hn
  have HQ := Lib.hid hq
  unfold OpRes stV Rq.val
  dsimp only
  subst h0
  (try simp only [hn, hq] at hc hl9 hl64 hp64)
  simp only [hn, hq]
  clear hs hn hq
  go_enter Tryd.func9, Tryd.ntmps9
  go_upto_region 40 with (at_builtin; first
    | (refine wpList_append_accs _ rfl (.const (.slice none 0 0)) (.tmp 24) rfl (w.heap.size + 5) (.slice none 0 0) [] zs rfl OwnA.nil ad n c rfl HN.out (HS.out.accs.below (w5_below w _ _)) (by simp) (by omega) (by simp) ?_
       intro v1 w1 ho1 hg1
       have F1 := Lib.hid ((w5_five w (stC (some ad) n c B q d (.slice SA sn sc) (.slice KA kn kc) now) (rqC k 7 a b m l u)).grown hg1 (fun g h => by cases h))
       rw [List.nil_append] at ho1
       obtain ⟨A1, d1, hv1, _, _, _, _⟩ := ho1.form
       rw [HN.out] at hv1
       subst hv1
       have O1 := Lib.hid ho1
       have c1 := F1.out.bt.cell 0 rfl
       have f1 := F1.out.bt.loose 0
       have F2 := Lib.hid (F1.out.setT 0 (.slice A1 n d1))
       have O2 := Lib.hid (O1.out.setOther (p := ⟨w.heap.size + 1 + 1 + 1 + 1, 0, none⟩) (u := .slice A1 n d1) (fun g hg => by have := O1.out.rowLt g hg; dsimp only; omega))
       have c2 := F2.out.bs.cell 1 rfl
       have hz2 : w.heap.size + 5 ≤ w1.heap.size := F1.out.size
       clear ho1 hg1 O1 F1)
    | (refine wpList_append_new pays 32 Tryd.underlying32 info_pay rfl _ rfl (.const (.slice none 0 0)) (.tmp 28) rfl (w.heap.size + 5) ps rfl B q d rfl HQ.out (HS.out.pays.below F2.out.below) (by omega) (by omega) (by simp; omega) ?_
       intro v2 w2 ho2 hg2 hf2
       obtain ⟨A2, d2, hv2, _, _, _, _⟩ := ho2.form
       rw [HQ.out] at hv2
       subst hv2
       have F3 := Lib.hid (F2.out.grown hg2 (fun g h => by cases h))
       have O3 := Lib.hid (O2.out.same (w' := w2) (fun g hg => hg2.block g (World.ownsRow.lt O2.out g hg).2 (by nofun)))
       have P3 := Lib.hid ho2
       have c3 := F3.out.bt.cell 1 rfl
       have f3 := F3.out.bt.loose 1
       have F4 := F3.out.setT 1 (.slice A2 q d2)
       have HPRE := Lib.hid (show Pre w (w2.setCell ⟨w.heap.size + 1 + 1 + 1 + 1, 1, none⟩ (.slice A2 q d2)) ⟨zs, ps, now⟩ (.slice SA sn sc) (.slice KA kn kc) (some ad) c B d (stC (some ad) n c B q d (.slice SA sn sc) (.slice KA kn kc) now) (rqC k 7 a b m l u) (.slice A1 n d1) (.slice A2 q d2) now from
         ⟨F4, O3.out.setOther (fun g hg => by have := O3.out.rowLt g hg; dsimp only; omega), P3.out.setOther (fun g hg => by have := P3.out.rowLt g hg; dsimp only; omega), HS.out.below F4.below,
          fun g h1 h2 => by have h3 := (World.ownsRow.lt O2.out g h1).2; have h4 := hf2 g h2; omega⟩)
       have cr := HPRE.out.five.br.cell 1 rfl
       clear ho2 hg2 hf2 F3 F4 O3 P3 F2 O2 c2))
  clear c1 f1 c3 f3 cr
  generalize w2.setCell ⟨w.heap.size + 1 + 1 + 1 + 1, 1, none⟩ (.slice A2 q d2) = W at HPRE ⊢
  have HF := Lib.hid HPRE.out.five
  obtain ⟨x0, x1, x2, x3, x4⟩ := (show _ ∧ _ ∧ _ ∧ _ ∧ _ from ⟨HF.out.bs.cell 0 rfl, HF.out.bs.cell 1 rfl, HF.out.bs.cell 2 rfl, HF.out.bs.cell 3 rfl, HF.out.bs.cell 4 rfl⟩)
  obtain ⟨y0, y1, y2, y3, y4⟩ := (show _ ∧ _ ∧ _ ∧ _ ∧ _ from ⟨HF.out.b2.cell 0 rfl, HF.out.b2.cell 1 rfl, HF.out.b2.cell 2 rfl, HF.out.b2.cell 3 rfl, HF.out.b2.cell 4 rfl⟩)
  obtain ⟨f0, f1, f2, f3, f4⟩ := (show _ ∧ _ ∧ _ ∧ _ ∧ _ from ⟨HF.out.b2.loose 0, HF.out.b2.loose 1, HF.out.b2.loose 2, HF.out.b2.loose 3, HF.out.b2.loose 4⟩)
  obtain ⟨z0, z1⟩ := (show _ ∧ _ from ⟨HF.out.b3.cell 0 rfl, HF.out.b3.cell 1 rfl⟩)
  obtain ⟨e0, e1⟩ := (show _ ∧ _ from ⟨HF.out.b3.loose 0, HF.out.b3.loose 1⟩)
  have r2 := HF.out.br.cell 2 rfl
  by_cases hlt : a < 0
  · have qa := decide_eq_true hlt
    go_wp2
    have HT := told_at HF.out.b2 HF.out.b3 rfl rfl (by omega) (.slice (some ad) n c) (.slice B q d) (.slice SA sn sc) (.slice KA kn kc) (.int .i64 now) (.int .i64 2) (.int .i64 0)
    have HBT := told_below HF.out.below (show w.heap.size ≤ w.heap.size + 1 + 1 by omega) (show w.heap.size ≤ w.heap.size + 1 + 1 + 1 by omega) (.slice (some ad) n c) (.slice B q d) (.slice SA sn sc) (.slice KA kn kc) (.int .i64 now) (.int .i64 2) (.int .i64 0)
    refine bodyPost_ret (results_two (p := 4) (q := 5) (ty := 36) (tz := 40) rfl _ _ (w.heap.size + 1 + 1) (w.heap.size + 1 + 1 + 1) _ _ _ _ (0, 0) _ _ rfl HT.1 Tryd.underlying36 rfl (by kernel_rfl) rfl HT.2 Tryd.underlying40 rfl (by kernel_rfl)) rfl ?_
    exact ⟨some ad, c, B, d, rfl, HS.out.below HBT, HBT⟩
  · have qa := decide_eq_false hlt
    have qb : decide ((q : Int) ≤ a) = true := decide_eq_true (by omega)
    go_wp2
    have HT := told_at HF.out.b2 HF.out.b3 rfl rfl (by omega) (.slice (some ad) n c) (.slice B q d) (.slice SA sn sc) (.slice KA kn kc) (.int .i64 now) (.int .i64 2) (.int .i64 0)
    have HBT := told_below HF.out.below (show w.heap.size ≤ w.heap.size + 1 + 1 by omega) (show w.heap.size ≤ w.heap.size + 1 + 1 + 1 by omega) (.slice (some ad) n c) (.slice B q d) (.slice SA sn sc) (.slice KA kn kc) (.int .i64 now) (.int .i64 2) (.int .i64 0)
    refine bodyPost_ret (results_two (p := 4) (q := 5) (ty := 36) (tz := 40) rfl _ _ (w.heap.size + 1 + 1) (w.heap.size + 1 + 1 + 1) _ _ _ _ (0, 0) _ _ rfl HT.1 Tryd.underlying36 rfl (by kernel_rfl) rfl HT.2 Tryd.underlying40 rfl (by kernel_rfl)) rfl ?_
    exact ⟨some ad, c, B, d, rfl, HS.out.below HBT, HBT⟩

end Go.Proofs.YtjnmppdohglcaaaDoor

