/-
  The law's do by its contract: a transfer.
-/
import Derived.Test.YtjnmppdohglcaaaDoorGrE
import Derived.Test.YtjnmppdohglcaaaDoorOpsFive
import Derived.Test.YtjnmppdohglcaaaDoorGrB
import Derived.Test.YtjnmppdohglcaaaDoorGrC
import Derived.Test.YtjnmppdohglcaaaDoorGrH
import Derived.Test.YtjnmppdohglcaaaDoorGrA
import Derived.BigQuiet
import Derived.BigRegion
import Derived.Deep.QuietTactic
import Derived.Deep.CutRange
import Derived.Deep.RegionHeld3
import Derived.IntWalk
import Derived.WalkSpells
import Derived.Test.YtjnmppdohglcaaaDoorOpsSmall
namespace Go.Proofs.YtjnmppdohglcaaaDoor
open Go Go.RowKit
set_option linter.unusedVariables false

set_option maxRecDepth 100000 in
set_option maxHeartbeats 4000000 in
theorem lawop_tra_no1 (s : St) (X Y : Value) (A : Option Addr) (c : Nat) (B : Option Addr) (d : Nat) (r : Rq) (w : World) (hs : StAt w s X Y A c B d) (hX : IsSl X) (hY : IsSl Y) (hl9 : 9 ≤ s.acs.length) (hl64 : s.acs.length ≤ 64) (hp64 : s.pys.length ≤ 2000000) (h0 : r.op = 2) (hc : ¬ isC s.acs.length r.a) :
    Calls Tryd.prog 9 #[stV s X Y A c B d, r.val] w (OpRes w s X Y 2 0) := by
  obtain ⟨zs, ps, now⟩ := s
  obtain ⟨k, o, a, b, m, l, u⟩ := r
  obtain ⟨SA, sn, sc, rfl⟩ := hX
  obtain ⟨KA, kn, kc, rfl⟩ := hY
  obtain ⟨ad, rfl, _⟩ := hs.accs (by omega)
  have HS := Lib.hid hs
  dsimp only at h0 hc hl9 hl64 hp64 ⊢
  obtain ⟨n, hn⟩ : ∃ n, zs.length = n := ⟨_, rfl⟩
  obtain ⟨q, hq⟩ : ∃ q, ps.length = q := ⟨_, rfl⟩
  have HN := Lib.hid hn
  have HQ := Lib.hid hq
  unfold OpRes stV Rq.val
  dsimp only
  subst h0
  (try simp only [hn, hq] at hc hl9 hl64 hp64)
  simp only [hn, hq]
  clear hs hn hq
  go_enter Tryd.func9, Tryd.ntmps9
  go_upto_region 12 with (at_builtin; first
    | (refine wpList_append_accs _ rfl (.const (.slice none 0 0)) (.tmp 24) rfl (w.heap.size + 5) (.slice none 0 0) [] zs rfl OwnA.nil ad n c rfl HN.out (HS.out.accs.below (w5_below w _ _)) (by simp) (by omega) (by simp) ?_
       intro v1 w1 ho1 hg1
       have F1 := Lib.hid ((w5_five w (stC (some ad) n c B q d (.slice SA sn sc) (.slice KA kn kc) now) (rqC k 2 a b m l u)).grown hg1 (fun g h => by cases h))
       rw [List.nil_append] at ho1
       obtain ⟨A1, d1, hv1, _, _, _, _⟩ := ho1.form
       rw [HN.out] at hv1
       subst hv1
       have O1 := Lib.hid ho1
       have c1 := F1.out.bt.cell 0 rfl
       have f1 := F1.out.bt.loose 0
       have F2 := Lib.hid (F1.out.setT 0 (.slice A1 n d1))
       have O2 := Lib.hid (O1.out.setOther (p := ⟨w.heap.size + 1 + 1 + 1 + 1, 0, none⟩) (u := .slice A1 n d1) (fun g hg => by have := O1.out.rowLt g hg; dsimp only; omega))
       have c2 := F2.out.bs.cell 1 rfl
       have hz2 : w.heap.size + 5 ≤ w1.heap.size := F1.out.size
       clear ho1 hg1 O1 F1)
    | (refine wpList_append_new pays 32 Tryd.underlying32 info_pay rfl _ rfl (.const (.slice none 0 0)) (.tmp 28) rfl (w.heap.size + 5) ps rfl B q d rfl HQ.out (HS.out.pays.below F2.out.below) (by omega) (by omega) (by simp; omega) ?_
       intro v2 w2 ho2 hg2 hf2
       obtain ⟨A2, d2, hv2, _, _, _, _⟩ := ho2.form
       rw [HQ.out] at hv2
       subst hv2
       have F3 := Lib.hid (F2.out.grown hg2 (fun g h => by cases h))
       have O3 := Lib.hid (O2.out.same (w' := w2) (fun g hg => hg2.block g (World.ownsRow.lt O2.out g hg).2 (by nofun)))
       have P3 := Lib.hid ho2
       have c3 := F3.out.bt.cell 1 rfl
       have f3 := F3.out.bt.loose 1
       have F4 := F3.out.setT 1 (.slice A2 q d2)
       have HPRE := Lib.hid (show Pre w (w2.setCell ⟨w.heap.size + 1 + 1 + 1 + 1, 1, none⟩ (.slice A2 q d2)) ⟨zs, ps, now⟩ (.slice SA sn sc) (.slice KA kn kc) (some ad) c B d (stC (some ad) n c B q d (.slice SA sn sc) (.slice KA kn kc) now) (rqC k 2 a b m l u) (.slice A1 n d1) (.slice A2 q d2) now from
         ⟨F4, O3.out.setOther (fun g hg => by have := O3.out.rowLt g hg; dsimp only; omega), P3.out.setOther (fun g hg => by have := P3.out.rowLt g hg; dsimp only; omega), HS.out.below F4.below,
          fun g h1 h2 => by have h3 := (World.ownsRow.lt O2.out g h1).2; have h4 := hf2 g h2; omega⟩)
       have cr := HPRE.out.five.br.cell 1 rfl
       clear ho2 hg2 hf2 F3 F4 O3 P3 F2 O2 c2))
  clear c1 f1 c3 f3 cr
  generalize w2.setCell ⟨w.heap.size + 1 + 1 + 1 + 1, 1, none⟩ (.slice A2 q d2) = W at HPRE ⊢
  have HF := Lib.hid HPRE.out.five
  obtain ⟨x0, x1, x2, x3, x4⟩ := (show _ ∧ _ ∧ _ ∧ _ ∧ _ from ⟨HF.out.bs.cell 0 rfl, HF.out.bs.cell 1 rfl, HF.out.bs.cell 2 rfl, HF.out.bs.cell 3 rfl, HF.out.bs.cell 4 rfl⟩)
  obtain ⟨r0, r1, r2, r3, r4, r5, r6⟩ := (show _ ∧ _ ∧ _ ∧ _ ∧ _ ∧ _ ∧ _ from ⟨HF.out.br.cell 0 rfl, HF.out.br.cell 1 rfl, HF.out.br.cell 2 rfl, HF.out.br.cell 3 rfl, HF.out.br.cell 4 rfl, HF.out.br.cell 5 rfl, HF.out.br.cell 6 rfl⟩)
  go_wp2
  go_quiet (fail)
  obtain ⟨x0, x1, x2, x3, x4⟩ := (show _ ∧ _ ∧ _ ∧ _ ∧ _ from ⟨HF.out.bs.cell 0 rfl, HF.out.bs.cell 1 rfl, HF.out.bs.cell 2 rfl, HF.out.bs.cell 3 rfl, HF.out.bs.cell 4 rfl⟩)
  obtain ⟨y0, y1, y2, y3, y4⟩ := (show _ ∧ _ ∧ _ ∧ _ ∧ _ from ⟨HF.out.b2.cell 0 rfl, HF.out.b2.cell 1 rfl, HF.out.b2.cell 2 rfl, HF.out.b2.cell 3 rfl, HF.out.b2.cell 4 rfl⟩)
  obtain ⟨f0, f1, f2, f3, f4⟩ := (show _ ∧ _ ∧ _ ∧ _ ∧ _ from ⟨HF.out.b2.loose 0, HF.out.b2.loose 1, HF.out.b2.loose 2, HF.out.b2.loose 3, HF.out.b2.loose 4⟩)
  obtain ⟨z0, z1⟩ := (show _ ∧ _ from ⟨HF.out.b3.cell 0 rfl, HF.out.b3.cell 1 rfl⟩)
  obtain ⟨e0, e1⟩ := (show _ ∧ _ from ⟨HF.out.b3.loose 0, HF.out.b3.loose 1⟩)
  have qc := decide_eq_false hc
  go_wp2_with (go_at_call 21; refine (client_any _ _ _ _ _ _ _ (HF.out.bs.drewN _) rfl).mono ?_; rintro _ _ ⟨rfl, rfl⟩)
  have HT := told_at (HF.out.drewN nq).b2 (HF.out.drewN nq).b3 rfl rfl (by omega) (.slice (some ad) n c) (.slice B q d) (.slice SA sn sc) (.slice KA kn kc) (.int .i64 now) (.int .i64 2) (.int .i64 0)
  have HBT := told_below (HF.out.drewN nq).below (show w.heap.size ≤ w.heap.size + 1 + 1 by omega) (show w.heap.size ≤ w.heap.size + 1 + 1 + 1 by omega) (.slice (some ad) n c) (.slice B q d) (.slice SA sn sc) (.slice KA kn kc) (.int .i64 now) (.int .i64 2) (.int .i64 0)
  refine bodyPost_ret (results_two (p := 4) (q := 5) (ty := 36) (tz := 40) rfl _ _ (w.heap.size + 1 + 1) (w.heap.size + 1 + 1 + 1) _ _ _ _ (0, 0) _ _ rfl HT.1 Tryd.underlying36 rfl (by kernel_rfl) rfl HT.2 Tryd.underlying40 rfl (by kernel_rfl)) rfl ?_
  exact ⟨some ad, c, B, d, rfl, HS.out.below HBT, HBT⟩


set_option maxRecDepth 100000 in
set_option maxHeartbeats 4000000 in
theorem lawop_tra_no2 (s : St) (X Y : Value) (A : Option Addr) (c : Nat) (B : Option Addr) (d : Nat) (r : Rq) (w : World) (hs : StAt w s X Y A c B d) (hX : IsSl X) (hY : IsSl Y) (hl9 : 9 ≤ s.acs.length) (hl64 : s.acs.length ≤ 64) (hp64 : s.pys.length ≤ 2000000) (h0 : r.op = 2) (hc : isC s.acs.length r.a) (hb : ¬ isC s.acs.length r.b) :
    Calls Tryd.prog 9 #[stV s X Y A c B d, r.val] w (OpRes w s X Y 2 0) := by
  obtain ⟨zs, ps, now⟩ := s
  obtain ⟨k, o, a, b, m, l, u⟩ := r
  obtain ⟨SA, sn, sc, rfl⟩ := hX
  obtain ⟨KA, kn, kc, rfl⟩ := hY
  obtain ⟨ad, rfl, _⟩ := hs.accs (by omega)
  have HS := Lib.hid hs
  dsimp only at h0 hc hb hl9 hl64 hp64 ⊢
  obtain ⟨n, hn⟩ : ∃ n, zs.length = n := ⟨_, rfl⟩
  obtain ⟨q, hq⟩ : ∃ q, ps.length = q := ⟨_, rfl⟩
  have HN := Lib.hid hn
  have HQ := Lib.hid hq
  unfold OpRes stV Rq.val
  dsimp only
  subst h0
  (try simp only [hn, hq] at hc hb hl9 hl64 hp64)
  simp only [hn, hq]
  clear hs hn hq
  go_enter Tryd.func9, Tryd.ntmps9
  go_upto_region 12 with (at_builtin; first
    | (refine wpList_append_accs _ rfl (.const (.slice none 0 0)) (.tmp 24) rfl (w.heap.size + 5) (.slice none 0 0) [] zs rfl OwnA.nil ad n c rfl HN.out (HS.out.accs.below (w5_below w _ _)) (by simp) (by omega) (by simp) ?_
       intro v1 w1 ho1 hg1
       have F1 := Lib.hid ((w5_five w (stC (some ad) n c B q d (.slice SA sn sc) (.slice KA kn kc) now) (rqC k 2 a b m l u)).grown hg1 (fun g h => by cases h))
       rw [List.nil_append] at ho1
       obtain ⟨A1, d1, hv1, _, _, _, _⟩ := ho1.form
       rw [HN.out] at hv1
       subst hv1
       have O1 := Lib.hid ho1
       have c1 := F1.out.bt.cell 0 rfl
       have f1 := F1.out.bt.loose 0
       have F2 := Lib.hid (F1.out.setT 0 (.slice A1 n d1))
       have O2 := Lib.hid (O1.out.setOther (p := ⟨w.heap.size + 1 + 1 + 1 + 1, 0, none⟩) (u := .slice A1 n d1) (fun g hg => by have := O1.out.rowLt g hg; dsimp only; omega))
       have c2 := F2.out.bs.cell 1 rfl
       have hz2 : w.heap.size + 5 ≤ w1.heap.size := F1.out.size
       clear ho1 hg1 O1 F1)
    | (refine wpList_append_new pays 32 Tryd.underlying32 info_pay rfl _ rfl (.const (.slice none 0 0)) (.tmp 28) rfl (w.heap.size + 5) ps rfl B q d rfl HQ.out (HS.out.pays.below F2.out.below) (by omega) (by omega) (by simp; omega) ?_
       intro v2 w2 ho2 hg2 hf2
       obtain ⟨A2, d2, hv2, _, _, _, _⟩ := ho2.form
       rw [HQ.out] at hv2
       subst hv2
       have F3 := Lib.hid (F2.out.grown hg2 (fun g h => by cases h))
       have O3 := Lib.hid (O2.out.same (w' := w2) (fun g hg => hg2.block g (World.ownsRow.lt O2.out g hg).2 (by nofun)))
       have P3 := Lib.hid ho2
       have c3 := F3.out.bt.cell 1 rfl
       have f3 := F3.out.bt.loose 1
       have F4 := F3.out.setT 1 (.slice A2 q d2)
       have HPRE := Lib.hid (show Pre w (w2.setCell ⟨w.heap.size + 1 + 1 + 1 + 1, 1, none⟩ (.slice A2 q d2)) ⟨zs, ps, now⟩ (.slice SA sn sc) (.slice KA kn kc) (some ad) c B d (stC (some ad) n c B q d (.slice SA sn sc) (.slice KA kn kc) now) (rqC k 2 a b m l u) (.slice A1 n d1) (.slice A2 q d2) now from
         ⟨F4, O3.out.setOther (fun g hg => by have := O3.out.rowLt g hg; dsimp only; omega), P3.out.setOther (fun g hg => by have := P3.out.rowLt g hg; dsimp only; omega), HS.out.below F4.below,
          fun g h1 h2 => by have h3 := (World.ownsRow.lt O2.out g h1).2; have h4 := hf2 g h2; omega⟩)
       have cr := HPRE.out.five.br.cell 1 rfl
       clear ho2 hg2 hf2 F3 F4 O3 P3 F2 O2 c2))
  clear c1 f1 c3 f3 cr
  generalize w2.setCell ⟨w.heap.size + 1 + 1 + 1 + 1, 1, none⟩ (.slice A2 q d2) = W at HPRE ⊢
  have HF := Lib.hid HPRE.out.five
  obtain ⟨x0, x1, x2, x3, x4⟩ := (show _ ∧ _ ∧ _ ∧ _ ∧ _ from ⟨HF.out.bs.cell 0 rfl, HF.out.bs.cell 1 rfl, HF.out.bs.cell 2 rfl, HF.out.bs.cell 3 rfl, HF.out.bs.cell 4 rfl⟩)
  obtain ⟨r0, r1, r2, r3, r4, r5, r6⟩ := (show _ ∧ _ ∧ _ ∧ _ ∧ _ ∧ _ ∧ _ from ⟨HF.out.br.cell 0 rfl, HF.out.br.cell 1 rfl, HF.out.br.cell 2 rfl, HF.out.br.cell 3 rfl, HF.out.br.cell 4 rfl, HF.out.br.cell 5 rfl, HF.out.br.cell 6 rfl⟩)
  go_wp2
  go_quiet (fail)
  obtain ⟨x0, x1, x2, x3, x4⟩ := (show _ ∧ _ ∧ _ ∧ _ ∧ _ from ⟨HF.out.bs.cell 0 rfl, HF.out.bs.cell 1 rfl, HF.out.bs.cell 2 rfl, HF.out.bs.cell 3 rfl, HF.out.bs.cell 4 rfl⟩)
  obtain ⟨y0, y1, y2, y3, y4⟩ := (show _ ∧ _ ∧ _ ∧ _ ∧ _ from ⟨HF.out.b2.cell 0 rfl, HF.out.b2.cell 1 rfl, HF.out.b2.cell 2 rfl, HF.out.b2.cell 3 rfl, HF.out.b2.cell 4 rfl⟩)
  obtain ⟨f0, f1, f2, f3, f4⟩ := (show _ ∧ _ ∧ _ ∧ _ ∧ _ from ⟨HF.out.b2.loose 0, HF.out.b2.loose 1, HF.out.b2.loose 2, HF.out.b2.loose 3, HF.out.b2.loose 4⟩)
  obtain ⟨z0, z1⟩ := (show _ ∧ _ from ⟨HF.out.b3.cell 0 rfl, HF.out.b3.cell 1 rfl⟩)
  obtain ⟨e0, e1⟩ := (show _ ∧ _ from ⟨HF.out.b3.loose 0, HF.out.b3.loose 1⟩)
  have qc := decide_eq_true hc
  have qb := decide_eq_false hb
  go_wp2_with (go_at_call 21; refine (client_any _ _ _ _ _ _ _ (HF.out.bs.drewN _) rfl).mono ?_; rintro _ _ ⟨rfl, rfl⟩)
  have HT := told_at (HF.out.drewN nq).b2 (HF.out.drewN nq).b3 rfl rfl (by omega) (.slice (some ad) n c) (.slice B q d) (.slice SA sn sc) (.slice KA kn kc) (.int .i64 now) (.int .i64 2) (.int .i64 0)
  have HBT := told_below (HF.out.drewN nq).below (show w.heap.size ≤ w.heap.size + 1 + 1 by omega) (show w.heap.size ≤ w.heap.size + 1 + 1 + 1 by omega) (.slice (some ad) n c) (.slice B q d) (.slice SA sn sc) (.slice KA kn kc) (.int .i64 now) (.int .i64 2) (.int .i64 0)
  refine bodyPost_ret (results_two (p := 4) (q := 5) (ty := 36) (tz := 40) rfl _ _ (w.heap.size + 1 + 1) (w.heap.size + 1 + 1 + 1) _ _ _ _ (0, 0) _ _ rfl HT.1 Tryd.underlying36 rfl (by kernel_rfl) rfl HT.2 Tryd.underlying40 rfl (by kernel_rfl)) rfl ?_
  exact ⟨some ad, c, B, d, rfl, HS.out.below HBT, HBT⟩


set_option maxRecDepth 100000 in
set_option maxHeartbeats 4000000 in
theorem lawop_tra_move (s : St) (X Y : Value) (A : Option Addr) (c : Nat) (B : Option Addr) (d : Nat) (r : Rq) (w : World) (hs : StAt w s X Y A c B d) (hX : IsSl X) (hY : IsSl Y) (hl9 : 9 ≤ s.acs.length) (hl64 : s.acs.length ≤ 64) (hp64 : s.pys.length ≤ 2000000) (hh : HasErr w) (hcu : Curs s.acs) (h0 : r.op = 2) (hc : isC s.acs.length r.a) (hb : isC s.acs.length r.b) (E : Int) (hE : moveE s.acs r.a r.b r.amt = E) (hE0 : E ≠ 0) :
    Calls Tryd.prog 9 #[stV s X Y A c B d, r.val] w (OpRes w s X Y E 0) := by
  obtain ⟨zs, ps, now⟩ := s
  obtain ⟨k, o, a, b, m, l, u⟩ := r
  obtain ⟨SA, sn, sc, rfl⟩ := hX
  obtain ⟨KA, kn, kc, rfl⟩ := hY
  obtain ⟨ad, rfl, _⟩ := hs.accs (by omega)
  have HS := Lib.hid hs
  dsimp only at h0 hc hb hE hl9 hl64 hp64 ⊢
  obtain ⟨n, hn⟩ : ∃ n, zs.length = n := ⟨_, rfl⟩
  obtain ⟨q, hq⟩ : ∃ q, ps.length = q := ⟨_, rfl⟩
  have HN := Lib.hid hn
  have HQ := Lib.hid hq
  unfold OpRes stV Rq.val
  dsimp only
  subst h0
  have hcs := Lib.hid hcu
  clear hcu
  (try simp only [hn, hq] at hc hb hE hl9 hl64 hp64)
  simp only [hn, hq]
  clear hs hn hq
  go_enter Tryd.func9, Tryd.ntmps9
  go_upto_region 12 with (at_builtin; first
    | (refine wpList_append_accs _ rfl (.const (.slice none 0 0)) (.tmp 24) rfl (w.heap.size + 5) (.slice none 0 0) [] zs rfl OwnA.nil ad n c rfl HN.out (HS.out.accs.below (w5_below w _ _)) (by simp) (by omega) (by simp) ?_
       intro v1 w1 ho1 hg1
       have F1 := Lib.hid ((w5_five w (stC (some ad) n c B q d (.slice SA sn sc) (.slice KA kn kc) now) (rqC k 2 a b m l u)).grown hg1 (fun g h => by cases h))
       rw [List.nil_append] at ho1
       obtain ⟨A1, d1, hv1, _, _, _, _⟩ := ho1.form
       rw [HN.out] at hv1
       subst hv1
       have O1 := Lib.hid ho1
       have c1 := F1.out.bt.cell 0 rfl
       have f1 := F1.out.bt.loose 0
       have F2 := Lib.hid (F1.out.setT 0 (.slice A1 n d1))
       have O2 := Lib.hid (O1.out.setOther (p := ⟨w.heap.size + 1 + 1 + 1 + 1, 0, none⟩) (u := .slice A1 n d1) (fun g hg => by have := O1.out.rowLt g hg; dsimp only; omega))
       have c2 := F2.out.bs.cell 1 rfl
       have hz2 : w.heap.size + 5 ≤ w1.heap.size := F1.out.size
       clear ho1 hg1 O1 F1)
    | (refine wpList_append_new pays 32 Tryd.underlying32 info_pay rfl _ rfl (.const (.slice none 0 0)) (.tmp 28) rfl (w.heap.size + 5) ps rfl B q d rfl HQ.out (HS.out.pays.below F2.out.below) (by omega) (by omega) (by simp; omega) ?_
       intro v2 w2 ho2 hg2 hf2
       obtain ⟨A2, d2, hv2, _, _, _, _⟩ := ho2.form
       rw [HQ.out] at hv2
       subst hv2
       have F3 := Lib.hid (F2.out.grown hg2 (fun g h => by cases h))
       have O3 := Lib.hid (O2.out.same (w' := w2) (fun g hg => hg2.block g (World.ownsRow.lt O2.out g hg).2 (by nofun)))
       have P3 := Lib.hid ho2
       have c3 := F3.out.bt.cell 1 rfl
       have f3 := F3.out.bt.loose 1
       have F4 := F3.out.setT 1 (.slice A2 q d2)
       have HPRE := Lib.hid (show Pre w (w2.setCell ⟨w.heap.size + 1 + 1 + 1 + 1, 1, none⟩ (.slice A2 q d2)) ⟨zs, ps, now⟩ (.slice SA sn sc) (.slice KA kn kc) (some ad) c B d (stC (some ad) n c B q d (.slice SA sn sc) (.slice KA kn kc) now) (rqC k 2 a b m l u) (.slice A1 n d1) (.slice A2 q d2) now from
         ⟨F4, O3.out.setOther (fun g hg => by have := O3.out.rowLt g hg; dsimp only; omega), P3.out.setOther (fun g hg => by have := P3.out.rowLt g hg; dsimp only; omega), HS.out.below F4.below,
          fun g h1 h2 => by have h3 := (World.ownsRow.lt O2.out g h1).2; have h4 := hf2 g h2; omega⟩)
       have cr := HPRE.out.five.br.cell 1 rfl
       clear ho2 hg2 hf2 F3 F4 O3 P3 F2 O2 c2))
  clear c1 f1 c3 f3 cr
  generalize w2.setCell ⟨w.heap.size + 1 + 1 + 1 + 1, 1, none⟩ (.slice A2 q d2) = W at HPRE ⊢
  have HF := Lib.hid HPRE.out.five
  obtain ⟨x0, x1, x2, x3, x4⟩ := (show _ ∧ _ ∧ _ ∧ _ ∧ _ from ⟨HF.out.bs.cell 0 rfl, HF.out.bs.cell 1 rfl, HF.out.bs.cell 2 rfl, HF.out.bs.cell 3 rfl, HF.out.bs.cell 4 rfl⟩)
  obtain ⟨r0, r1, r2, r3, r4, r5, r6⟩ := (show _ ∧ _ ∧ _ ∧ _ ∧ _ ∧ _ ∧ _ from ⟨HF.out.br.cell 0 rfl, HF.out.br.cell 1 rfl, HF.out.br.cell 2 rfl, HF.out.br.cell 3 rfl, HF.out.br.cell 4 rfl, HF.out.br.cell 5 rfl, HF.out.br.cell 6 rfl⟩)
  go_wp2
  go_quiet (fail)
  have qc := decide_eq_true hc
  have qb := decide_eq_true hb
  clear x0 x1 x2 x3 x4 r0 r1 r2 r3 r4 r5 r6
  have HMV := Lib.hid (fun Wx (hb : Below W.heap.size W Wx) => (move_any (some ad) n c zs a b m Wx HN.out ((HPRE.out.st.accs.below hb)) hcs.out (by omega)).mono fun e w' (h : MoveRes _ _ _ _ _ _ _) => by
    obtain ⟨v, he, ho, hb'⟩ := h
    exact (show ∃ v, e = .returned (.tuple #[v, errV (moveE zs a b m)]) ∧ OwnE w' W.heap.size v (moveL zs a b m) ∧ Below W.heap.size W w' from ⟨v, he, ho.less hb.size, hb.trans (hb'.mono hb.size)⟩))
  rw [hE, errV, if_neg hE0] at HMV
  unfold eno at HMV
  have HTL := Lib.hid (fun Wx (hb : Below w.heap.size w Wx) => told_any E Wx (hh.below hb))
  rw [errV, if_neg hE0] at HTL
  unfold eno at HTL
  obtain ⟨x0, x1, x2, x3, x4⟩ := (show _ ∧ _ ∧ _ ∧ _ ∧ _ from ⟨HF.out.bs.cell 0 rfl, HF.out.bs.cell 1 rfl, HF.out.bs.cell 2 rfl, HF.out.bs.cell 3 rfl, HF.out.bs.cell 4 rfl⟩)
  obtain ⟨r0, r1, r2, r3, r4, r5, r6⟩ := (show _ ∧ _ ∧ _ ∧ _ ∧ _ ∧ _ ∧ _ from ⟨HF.out.br.cell 0 rfl, HF.out.br.cell 1 rfl, HF.out.br.cell 2 rfl, HF.out.br.cell 3 rfl, HF.out.br.cell 4 rfl, HF.out.br.cell 5 rfl, HF.out.br.cell 6 rfl⟩)
  go_upto_region 21 with (first | (go_at_call 21; refine (client_any _ _ _ _ _ _ _ (HF.out.bs.drewN _) rfl).mono ?_; rintro _ _ ⟨rfl, rfl⟩) | (go_at_call 22; refine (HMV.out _ (by repeat (first | exact Below.refl _ _ | refine below_drewN ?_ _))).mono ?_; rintro _ w6 ⟨v6, rfl, ho6, hb6⟩; have HF6 := Lib.hid (HF.out.later hb6); have HO6 := Lib.hid ho6; have HB6 := Lib.hid hb6; clear ho6 hb6))
  clear x0 x1 x2 x3 x4 r0 r1 r2 r3 r4 r5 r6
  refine wp_region_held_drew (S := fun w' => Blk w' (w.heap.size + 1 + 1 + 1 + 1) 36 #[.slice A1 n d1, .slice A2 q d2, .slice SA sn sc, .slice KA kn kc, .int .i64 now] ∧ Blk w' w.heap.size 36 (stC (some ad) n c B q d (.slice SA sn sc) (.slice KA kn kc) now)) (by kernel_rfl) ⟨HF6.out.bt.drew, HF6.out.bs.drew⟩ (fun hHeld => ?_)
  refine take_at 0 106 (v := ?_) rfl rfl (by kernel_rfl) (by kernel_rfl) (by kernel_rfl) (fun _ _ _ h => h) (Or.inl ⟨by rfl, ?_⟩) (by assumption) ?_
  rotate_left
  · intro w' hSw
    have hSw' := hSw
    (try dsimp only at hSw')
    have c0 := hSw'.2.cell 0 rfl
    have c1 := hSw'.2.cell 1 rfl
    have c2 := hSw'.2.cell 2 rfl
    have c3 := hSw'.2.cell 3 rfl
    have c4 := hSw'.2.cell 4 rfl
    go_simp
    (try with_reducible rfl)
  (try simp only [Act.put, List.setIfInBounds_toArray, List.set_cons_zero, List.set_cons_succ])
  refine take_at 1 107 (v := ?_) rfl rfl (by kernel_rfl) (by kernel_rfl) (by kernel_rfl) (fun _ _ _ h => h) (Or.inl ⟨by rfl, ?_⟩) (by assumption) ?_
  rotate_left
  · intro w' hSw
    go_simp
    (try with_reducible rfl)
  (try simp only [Act.put, List.setIfInBounds_toArray, List.set_cons_zero, List.set_cons_succ])
  refine wpAnyH_ready (rs := [2]) (by kernel_rfl) (by simp) ?_
  refine AllReadyH.cons (i := 2) rfl (fun K hK => ?_) AllReadyH.nil
  go_simp
  go_at_call 23
  refine (HTL.out _ HF6.out.below.drew).mono ?_
  rintro _ w9 ⟨rfl, hb9⟩
  refine hK.out _ _ ⟨hHeld.1.later hb9, hHeld.2.later hb9⟩ (fun hHeld => ?_)
  clear hK K
  (try simp only [Act.put, List.setIfInBounds_toArray, List.set_cons_zero, List.set_cons_succ])
  have HQ0 := Lib.hid (HF6.out.drew.later hb9)
  have HQ1 := HQ0
  clear hb9
  obtain ⟨y0, y1, y2, y3, y4⟩ := (show _ ∧ _ ∧ _ ∧ _ ∧ _ from ⟨HQ0.out.b2.cell 0 rfl, HQ0.out.b2.cell 1 rfl, HQ0.out.b2.cell 2 rfl, HQ0.out.b2.cell 3 rfl, HQ0.out.b2.cell 4 rfl⟩)
  obtain ⟨f0, f1, f2, f3, f4⟩ := (show _ ∧ _ ∧ _ ∧ _ ∧ _ from ⟨HQ0.out.b2.loose 0, HQ0.out.b2.loose 1, HQ0.out.b2.loose 2, HQ0.out.b2.loose 3, HQ0.out.b2.loose 4⟩)
  refine wpAnyH_ready (rs := [3]) (by kernel_rfl) (by simp) ?_
  refine AllReadyH.cons (i := 3) rfl (fun K hK => ?_) AllReadyH.nil
  go_simp
  refine hK.out _ (((((w9.setCell ⟨w.heap.size + 1 + 1, 0, none⟩ (.slice (some ad) n c)).setCell ⟨w.heap.size + 1 + 1, 1, none⟩ (.slice B q d)).setCell ⟨w.heap.size + 1 + 1, 2, none⟩ (.slice SA sn sc)).setCell ⟨w.heap.size + 1 + 1, 3, none⟩ (.slice KA kn kc)).setCell ⟨w.heap.size + 1 + 1, 4, none⟩ (.int .i64 now)) ⟨st_other (g := w.heap.size + 1 + 1) hHeld.1 (by omega) (.slice (some ad) n c) (.slice B q d) (.slice SA sn sc) (.slice KA kn kc) (.int .i64 now), st_other (g := w.heap.size + 1 + 1) hHeld.2 (by omega) (.slice (some ad) n c) (.slice B q d) (.slice SA sn sc) (.slice KA kn kc) (.int .i64 now)⟩ (fun hHeld => ?_)
  clear hK K
  (try simp only [Act.put, List.setIfInBounds_toArray, List.set_cons_zero, List.set_cons_succ])
  have HQ2 := Lib.hid (st_put HQ1.out.b2 rfl (.slice (some ad) n c) (.slice B q d) (.slice SA sn sc) (.slice KA kn kc) (.int .i64 now))
  have HQ3 := Lib.hid (st_other HQ1.out.b3 (show w.heap.size + 1 + 1 ≠ w.heap.size + 1 + 1 + 1 by omega) (.slice (some ad) n c) (.slice B q d) (.slice SA sn sc) (.slice KA kn kc) (.int .i64 now))
  have HQB := Lib.hid (st_below HQ1.out.below (show w.heap.size ≤ w.heap.size + 1 + 1 by omega) (.slice (some ad) n c) (.slice B q d) (.slice SA sn sc) (.slice KA kn kc) (.int .i64 now))
  clear y0 y1 y2 y3 y4 f0 f1 f2 f3 f4 HQ1 HQ0
  generalize (((((w9.setCell ⟨w.heap.size + 1 + 1, 0, none⟩ (.slice (some ad) n c)).setCell ⟨w.heap.size + 1 + 1, 1, none⟩ (.slice B q d)).setCell ⟨w.heap.size + 1 + 1, 2, none⟩ (.slice SA sn sc)).setCell ⟨w.heap.size + 1 + 1, 3, none⟩ (.slice KA kn kc)).setCell ⟨w.heap.size + 1 + 1, 4, none⟩ (.int .i64 now)) = w10 at HQ2 HQ3 HQB hHeld ⊢
  obtain ⟨z0, z1⟩ := (show _ ∧ _ from ⟨HQ3.out.cell 0 rfl, HQ3.out.cell 1 rfl⟩)
  obtain ⟨e0, e1⟩ := (show _ ∧ _ from ⟨HQ3.out.loose 0, HQ3.out.loose 1⟩)
  refine wpAnyH_ready (rs := [4]) (by kernel_rfl) (by simp) ?_
  refine AllReadyH.cons (i := 4) rfl (fun K hK => ?_) AllReadyH.nil
  go_simp
  refine hK.out _ ((w10.setCell ⟨w.heap.size + 1 + 1 + 1, 0, none⟩ (.int .i64 E)).setCell ⟨w.heap.size + 1 + 1 + 1, 1, none⟩ (.int .i64 0)) ⟨rp_other (g := w.heap.size + 1 + 1 + 1) hHeld.1 (by omega) (.int .i64 E) (.int .i64 0), rp_other (g := w.heap.size + 1 + 1 + 1) hHeld.2 (by omega) (.int .i64 E) (.int .i64 0)⟩ (fun hHeld => ?_)
  clear hK K
  (try simp only [Act.put, List.setIfInBounds_toArray, List.set_cons_zero, List.set_cons_succ])
  have HT2 := Lib.hid (rp_other HQ2.out (show w.heap.size + 1 + 1 + 1 ≠ w.heap.size + 1 + 1 by omega) (.int .i64 E) (.int .i64 0))
  have HT3 := Lib.hid (rp_put HQ3.out rfl (.int .i64 E) (.int .i64 0))
  have HTB := Lib.hid (rp_below HQB.out (show w.heap.size ≤ w.heap.size + 1 + 1 + 1 by omega) (.int .i64 E) (.int .i64 0))
  clear z0 z1 e0 e1 HQ2 HQ3 HQB hHeld
  generalize ((w10.setCell ⟨w.heap.size + 1 + 1 + 1, 0, none⟩ (.int .i64 E)).setCell ⟨w.heap.size + 1 + 1 + 1, 1, none⟩ (.int .i64 0)) = w11 at HT2 HT3 HTB ⊢
  refine wpAnyH_done (by kernel_rfl) ?_ _
  go_wp2
  refine bodyPost_ret (results_two (p := 4) (q := 5) (ty := 36) (tz := 40) rfl _ _ (w.heap.size + 1 + 1) (w.heap.size + 1 + 1 + 1) _ _ _ _ (0, 0) _ _ rfl HT2.out Tryd.underlying36 rfl (by kernel_rfl) rfl HT3.out Tryd.underlying40 rfl (by kernel_rfl)) rfl ?_
  exact ⟨some ad, c, B, d, rfl, HS.out.below HTB.out, HTB.out⟩


set_option maxRecDepth 100000 in
set_option maxHeartbeats 4000000 in
theorem lawop_tra_post (s : St) (X Y : Value) (A : Option Addr) (c : Nat) (B : Option Addr) (d : Nat) (r : Rq) (w : World) (hs : StAt w s X Y A c B d) (hX : IsSl X) (hY : IsSl Y) (hl9 : 9 ≤ s.acs.length) (hl64 : s.acs.length ≤ 64) (hp64 : s.pys.length ≤ 2000000) (hh : HasErr w) (hcu : Curs s.acs) (h0 : r.op = 2) (hc : isC s.acs.length r.a) (hb : isC s.acs.length r.b) (hM : moveE s.acs r.a r.b r.amt = 0) (E : Int) (hE : postE s.acs (moveL s.acs r.a r.b r.amt) = E) (hE0 : E ≠ 0) :
    Calls Tryd.prog 9 #[stV s X Y A c B d, r.val] w (OpRes w s X Y E 0) := by
  obtain ⟨zs, ps, now⟩ := s
  obtain ⟨k, o, a, b, m, l, u⟩ := r
  obtain ⟨SA, sn, sc, rfl⟩ := hX
  obtain ⟨KA, kn, kc, rfl⟩ := hY
  obtain ⟨ad, rfl, _⟩ := hs.accs (by omega)
  have HS := Lib.hid hs
  dsimp only at h0 hc hb hM hE hl9 hl64 hp64 ⊢
  obtain ⟨n, hn⟩ : ∃ n, zs.length = n := ⟨_, rfl⟩
  obtain ⟨q, hq⟩ : ∃ q, ps.length = q := ⟨_, rfl⟩
  have HN := Lib.hid hn
  have HQ := Lib.hid hq
  unfold OpRes stV Rq.val
  dsimp only
  subst h0
  have hcs := Lib.hid hcu
  clear hcu
  (try simp only [hn, hq] at hc hb hM hE hl9 hl64 hp64)
  simp only [hn, hq]
  clear hs hn hq
  go_enter Tryd.func9, Tryd.ntmps9
  go_upto_region 12 with (at_builtin; first
    | (refine wpList_append_accs _ rfl (.const (.slice none 0 0)) (.tmp 24) rfl (w.heap.size + 5) (.slice none 0 0) [] zs rfl OwnA.nil ad n c rfl HN.out (HS.out.accs.below (w5_below w _ _)) (by simp) (by omega) (by simp) ?_
       intro v1 w1 ho1 hg1
       have F1 := Lib.hid ((w5_five w (stC (some ad) n c B q d (.slice SA sn sc) (.slice KA kn kc) now) (rqC k 2 a b m l u)).grown hg1 (fun g h => by cases h))
       rw [List.nil_append] at ho1
       obtain ⟨A1, d1, hv1, _, _, _, _⟩ := ho1.form
       rw [HN.out] at hv1
       subst hv1
       have O1 := Lib.hid ho1
       have c1 := F1.out.bt.cell 0 rfl
       have f1 := F1.out.bt.loose 0
       have F2 := Lib.hid (F1.out.setT 0 (.slice A1 n d1))
       have O2 := Lib.hid (O1.out.setOther (p := ⟨w.heap.size + 1 + 1 + 1 + 1, 0, none⟩) (u := .slice A1 n d1) (fun g hg => by have := O1.out.rowLt g hg; dsimp only; omega))
       have c2 := F2.out.bs.cell 1 rfl
       have hz2 : w.heap.size + 5 ≤ w1.heap.size := F1.out.size
       clear ho1 hg1 O1 F1)
    | (refine wpList_append_new pays 32 Tryd.underlying32 info_pay rfl _ rfl (.const (.slice none 0 0)) (.tmp 28) rfl (w.heap.size + 5) ps rfl B q d rfl HQ.out (HS.out.pays.below F2.out.below) (by omega) (by omega) (by simp; omega) ?_
       intro v2 w2 ho2 hg2 hf2
       obtain ⟨A2, d2, hv2, _, _, _, _⟩ := ho2.form
       rw [HQ.out] at hv2
       subst hv2
       have F3 := Lib.hid (F2.out.grown hg2 (fun g h => by cases h))
       have O3 := Lib.hid (O2.out.same (w' := w2) (fun g hg => hg2.block g (World.ownsRow.lt O2.out g hg).2 (by nofun)))
       have P3 := Lib.hid ho2
       have c3 := F3.out.bt.cell 1 rfl
       have f3 := F3.out.bt.loose 1
       have F4 := F3.out.setT 1 (.slice A2 q d2)
       have HPRE := Lib.hid (show Pre w (w2.setCell ⟨w.heap.size + 1 + 1 + 1 + 1, 1, none⟩ (.slice A2 q d2)) ⟨zs, ps, now⟩ (.slice SA sn sc) (.slice KA kn kc) (some ad) c B d (stC (some ad) n c B q d (.slice SA sn sc) (.slice KA kn kc) now) (rqC k 2 a b m l u) (.slice A1 n d1) (.slice A2 q d2) now from
         ⟨F4, O3.out.setOther (fun g hg => by have := O3.out.rowLt g hg; dsimp only; omega), P3.out.setOther (fun g hg => by have := P3.out.rowLt g hg; dsimp only; omega), HS.out.below F4.below,
          fun g h1 h2 => by have h3 := (World.ownsRow.lt O2.out g h1).2; have h4 := hf2 g h2; omega⟩)
       have cr := HPRE.out.five.br.cell 1 rfl
       clear ho2 hg2 hf2 F3 F4 O3 P3 F2 O2 c2))
  clear c1 f1 c3 f3 cr
  generalize w2.setCell ⟨w.heap.size + 1 + 1 + 1 + 1, 1, none⟩ (.slice A2 q d2) = W at HPRE ⊢
  have HF := Lib.hid HPRE.out.five
  obtain ⟨x0, x1, x2, x3, x4⟩ := (show _ ∧ _ ∧ _ ∧ _ ∧ _ from ⟨HF.out.bs.cell 0 rfl, HF.out.bs.cell 1 rfl, HF.out.bs.cell 2 rfl, HF.out.bs.cell 3 rfl, HF.out.bs.cell 4 rfl⟩)
  obtain ⟨r0, r1, r2, r3, r4, r5, r6⟩ := (show _ ∧ _ ∧ _ ∧ _ ∧ _ ∧ _ ∧ _ from ⟨HF.out.br.cell 0 rfl, HF.out.br.cell 1 rfl, HF.out.br.cell 2 rfl, HF.out.br.cell 3 rfl, HF.out.br.cell 4 rfl, HF.out.br.cell 5 rfl, HF.out.br.cell 6 rfl⟩)
  go_wp2
  go_quiet (fail)
  have qc := decide_eq_true hc
  have qb := decide_eq_true hb
  clear x0 x1 x2 x3 x4 r0 r1 r2 r3 r4 r5 r6
  have HMV := Lib.hid (fun Wx (hb : Below W.heap.size W Wx) => (move_any (some ad) n c zs a b m Wx HN.out ((HPRE.out.st.accs.below hb)) hcs.out (by omega)).mono fun e w' (h : MoveRes _ _ _ _ _ _ _) => by
    obtain ⟨v, he, ho, hb'⟩ := h
    exact (show ∃ v, e = .returned (.tuple #[v, errV (moveE zs a b m)]) ∧ OwnE w' W.heap.size v (moveL zs a b m) ∧ Below W.heap.size W w' from ⟨v, he, ho.less hb.size, hb.trans (hb'.mono hb.size)⟩))
  rw [hM, errV, if_pos rfl] at HMV
  obtain ⟨e6, he6⟩ : ∃ e6, (moveL zs a b m).length = e6 := ⟨_, rfl⟩
  have HE6 := Lib.hid he6
  have hle6 : e6 ≤ 1000 := by rw [← he6]; exact Nat.le_trans (moveL_len _ _ _ _) (by decide)
  have HPO := Lib.hid (fun Wx (hb : Below W.heap.size W Wx) B6 c6 (hr : RdE Wx B6 (moveL zs a b m)) => (hE ▸ post_any (some ad) B6 n e6 c c6 zs (moveL zs a b m) Wx HN.out (HPRE.out.st.accs.below hb) he6 hr (by omega) (by omega) (fun h => by cases h)).mono fun e w' (h : LedRes _ _ _ _ _) => by
    obtain ⟨v, he, ho, hb'⟩ := h
    exact (show ∃ v, e = .returned (.tuple #[v, errV (E)]) ∧ OwnA w' W.heap.size v (postL zs (moveL zs a b m)) ∧ Below W.heap.size W w' from ⟨v, he, ho.less hb.size, hb.trans (hb'.mono hb.size)⟩))
  clear he6
  rw [errV, if_neg hE0] at HPO
  unfold eno at HPO
  have HTL := Lib.hid (fun Wx (hb : Below w.heap.size w Wx) => told_any E Wx (hh.below hb))
  rw [errV, if_neg hE0] at HTL
  unfold eno at HTL
  obtain ⟨x0, x1, x2, x3, x4⟩ := (show _ ∧ _ ∧ _ ∧ _ ∧ _ from ⟨HF.out.bs.cell 0 rfl, HF.out.bs.cell 1 rfl, HF.out.bs.cell 2 rfl, HF.out.bs.cell 3 rfl, HF.out.bs.cell 4 rfl⟩)
  obtain ⟨r0, r1, r2, r3, r4, r5, r6⟩ := (show _ ∧ _ ∧ _ ∧ _ ∧ _ ∧ _ ∧ _ from ⟨HF.out.br.cell 0 rfl, HF.out.br.cell 1 rfl, HF.out.br.cell 2 rfl, HF.out.br.cell 3 rfl, HF.out.br.cell 4 rfl, HF.out.br.cell 5 rfl, HF.out.br.cell 6 rfl⟩)
  go_upto_region 24 with (first | (go_at_call 21; refine (client_any _ _ _ _ _ _ _ (HF.out.bs.drewN _) rfl).mono ?_; rintro _ _ ⟨rfl, rfl⟩) | (go_at_call 22; refine (HMV.out _ (by repeat (first | exact Below.refl _ _ | refine below_drewN ?_ _))).mono ?_; rintro _ w6 ⟨v6, rfl, ho6, hb6⟩; obtain ⟨A6, c6, hv6, hr6, _, _, _⟩ := ho6.form; rw [HE6.out] at hv6; subst hv6; have HR6 := Lib.hid hr6; have HF6 := Lib.hid (HF.out.later hb6); have HB6 := Lib.hid hb6; have xw := HF6.out.bs.cell 0 rfl; clear ho6 hb6 hr6) | (go_at_call 24; refine (HPO.out _ HB6.out A6 c6 HR6.out).mono ?_; rintro _ w7 ⟨v7, rfl, ho7, hb7⟩; have HF7 := Lib.hid (HF.out.later hb7); have HB7 := Lib.hid hb7; clear ho7 hb7))
  clear x0 x1 x2 x3 x4 r0 r1 r2 r3 r4 r5 r6
  refine wp_region_held_drew (S := fun w' => Blk w' (w.heap.size + 1 + 1 + 1 + 1) 36 #[.slice A1 n d1, .slice A2 q d2, .slice SA sn sc, .slice KA kn kc, .int .i64 now] ∧ Blk w' w.heap.size 36 (stC (some ad) n c B q d (.slice SA sn sc) (.slice KA kn kc) now)) (by kernel_rfl) ⟨HF7.out.bt.drew, HF7.out.bs.drew⟩ (fun hHeld => ?_)
  refine take_at 0 118 (v := ?_) rfl rfl (by kernel_rfl) (by kernel_rfl) (by kernel_rfl) (fun _ _ _ h => h) (Or.inl ⟨by rfl, ?_⟩) (by assumption) ?_
  rotate_left
  · intro w' hSw
    have hSw' := hSw
    (try dsimp only at hSw')
    have c0 := hSw'.2.cell 0 rfl
    have c1 := hSw'.2.cell 1 rfl
    have c2 := hSw'.2.cell 2 rfl
    have c3 := hSw'.2.cell 3 rfl
    have c4 := hSw'.2.cell 4 rfl
    go_simp
    (try with_reducible rfl)
  (try simp only [Act.put, List.setIfInBounds_toArray, List.set_cons_zero, List.set_cons_succ])
  refine take_at 1 119 (v := ?_) rfl rfl (by kernel_rfl) (by kernel_rfl) (by kernel_rfl) (fun _ _ _ h => h) (Or.inl ⟨by rfl, ?_⟩) (by assumption) ?_
  rotate_left
  · intro w' hSw
    go_simp
    (try with_reducible rfl)
  (try simp only [Act.put, List.setIfInBounds_toArray, List.set_cons_zero, List.set_cons_succ])
  refine wpAnyH_ready (rs := [2]) (by kernel_rfl) (by simp) ?_
  refine AllReadyH.cons (i := 2) rfl (fun K hK => ?_) AllReadyH.nil
  go_simp
  go_at_call 23
  refine (HTL.out _ HF7.out.below.drew).mono ?_
  rintro _ w9 ⟨rfl, hb9⟩
  refine hK.out _ _ ⟨hHeld.1.later hb9, hHeld.2.later hb9⟩ (fun hHeld => ?_)
  clear hK K
  (try simp only [Act.put, List.setIfInBounds_toArray, List.set_cons_zero, List.set_cons_succ])
  have HQ0 := Lib.hid (HF7.out.drew.later hb9)
  have HQ1 := HQ0
  clear hb9
  obtain ⟨y0, y1, y2, y3, y4⟩ := (show _ ∧ _ ∧ _ ∧ _ ∧ _ from ⟨HQ0.out.b2.cell 0 rfl, HQ0.out.b2.cell 1 rfl, HQ0.out.b2.cell 2 rfl, HQ0.out.b2.cell 3 rfl, HQ0.out.b2.cell 4 rfl⟩)
  obtain ⟨f0, f1, f2, f3, f4⟩ := (show _ ∧ _ ∧ _ ∧ _ ∧ _ from ⟨HQ0.out.b2.loose 0, HQ0.out.b2.loose 1, HQ0.out.b2.loose 2, HQ0.out.b2.loose 3, HQ0.out.b2.loose 4⟩)
  refine wpAnyH_ready (rs := [3]) (by kernel_rfl) (by simp) ?_
  refine AllReadyH.cons (i := 3) rfl (fun K hK => ?_) AllReadyH.nil
  go_simp
  refine hK.out _ (((((w9.setCell ⟨w.heap.size + 1 + 1, 0, none⟩ (.slice (some ad) n c)).setCell ⟨w.heap.size + 1 + 1, 1, none⟩ (.slice B q d)).setCell ⟨w.heap.size + 1 + 1, 2, none⟩ (.slice SA sn sc)).setCell ⟨w.heap.size + 1 + 1, 3, none⟩ (.slice KA kn kc)).setCell ⟨w.heap.size + 1 + 1, 4, none⟩ (.int .i64 now)) ⟨st_other (g := w.heap.size + 1 + 1) hHeld.1 (by omega) (.slice (some ad) n c) (.slice B q d) (.slice SA sn sc) (.slice KA kn kc) (.int .i64 now), st_other (g := w.heap.size + 1 + 1) hHeld.2 (by omega) (.slice (some ad) n c) (.slice B q d) (.slice SA sn sc) (.slice KA kn kc) (.int .i64 now)⟩ (fun hHeld => ?_)
  clear hK K
  (try simp only [Act.put, List.setIfInBounds_toArray, List.set_cons_zero, List.set_cons_succ])
  have HQ2 := Lib.hid (st_put HQ1.out.b2 rfl (.slice (some ad) n c) (.slice B q d) (.slice SA sn sc) (.slice KA kn kc) (.int .i64 now))
  have HQ3 := Lib.hid (st_other HQ1.out.b3 (show w.heap.size + 1 + 1 ≠ w.heap.size + 1 + 1 + 1 by omega) (.slice (some ad) n c) (.slice B q d) (.slice SA sn sc) (.slice KA kn kc) (.int .i64 now))
  have HQB := Lib.hid (st_below HQ1.out.below (show w.heap.size ≤ w.heap.size + 1 + 1 by omega) (.slice (some ad) n c) (.slice B q d) (.slice SA sn sc) (.slice KA kn kc) (.int .i64 now))
  clear y0 y1 y2 y3 y4 f0 f1 f2 f3 f4 HQ1 HQ0
  generalize (((((w9.setCell ⟨w.heap.size + 1 + 1, 0, none⟩ (.slice (some ad) n c)).setCell ⟨w.heap.size + 1 + 1, 1, none⟩ (.slice B q d)).setCell ⟨w.heap.size + 1 + 1, 2, none⟩ (.slice SA sn sc)).setCell ⟨w.heap.size + 1 + 1, 3, none⟩ (.slice KA kn kc)).setCell ⟨w.heap.size + 1 + 1, 4, none⟩ (.int .i64 now)) = w10 at HQ2 HQ3 HQB hHeld ⊢
  obtain ⟨z0, z1⟩ := (show _ ∧ _ from ⟨HQ3.out.cell 0 rfl, HQ3.out.cell 1 rfl⟩)
  obtain ⟨e0, e1⟩ := (show _ ∧ _ from ⟨HQ3.out.loose 0, HQ3.out.loose 1⟩)
  refine wpAnyH_ready (rs := [4]) (by kernel_rfl) (by simp) ?_
  refine AllReadyH.cons (i := 4) rfl (fun K hK => ?_) AllReadyH.nil
  go_simp
  refine hK.out _ ((w10.setCell ⟨w.heap.size + 1 + 1 + 1, 0, none⟩ (.int .i64 E)).setCell ⟨w.heap.size + 1 + 1 + 1, 1, none⟩ (.int .i64 0)) ⟨rp_other (g := w.heap.size + 1 + 1 + 1) hHeld.1 (by omega) (.int .i64 E) (.int .i64 0), rp_other (g := w.heap.size + 1 + 1 + 1) hHeld.2 (by omega) (.int .i64 E) (.int .i64 0)⟩ (fun hHeld => ?_)
  clear hK K
  (try simp only [Act.put, List.setIfInBounds_toArray, List.set_cons_zero, List.set_cons_succ])
  have HT2 := Lib.hid (rp_other HQ2.out (show w.heap.size + 1 + 1 + 1 ≠ w.heap.size + 1 + 1 by omega) (.int .i64 E) (.int .i64 0))
  have HT3 := Lib.hid (rp_put HQ3.out rfl (.int .i64 E) (.int .i64 0))
  have HTB := Lib.hid (rp_below HQB.out (show w.heap.size ≤ w.heap.size + 1 + 1 + 1 by omega) (.int .i64 E) (.int .i64 0))
  clear z0 z1 e0 e1 HQ2 HQ3 HQB hHeld
  generalize ((w10.setCell ⟨w.heap.size + 1 + 1 + 1, 0, none⟩ (.int .i64 E)).setCell ⟨w.heap.size + 1 + 1 + 1, 1, none⟩ (.int .i64 0)) = w11 at HT2 HT3 HTB ⊢
  refine wpAnyH_done (by kernel_rfl) ?_ _
  go_wp2
  refine bodyPost_ret (results_two (p := 4) (q := 5) (ty := 36) (tz := 40) rfl _ _ (w.heap.size + 1 + 1) (w.heap.size + 1 + 1 + 1) _ _ _ _ (0, 0) _ _ rfl HT2.out Tryd.underlying36 rfl (by kernel_rfl) rfl HT3.out Tryd.underlying40 rfl (by kernel_rfl)) rfl ?_
  exact ⟨some ad, c, B, d, rfl, HS.out.below HTB.out, HTB.out⟩


set_option maxRecDepth 100000 in
set_option maxHeartbeats 4000000 in
theorem lawop_tra_ok (s : St) (X Y : Value) (A : Option Addr) (c : Nat) (B : Option Addr) (d : Nat) (r : Rq) (w : World) (hs : StAt w s X Y A c B d) (hX : IsSl X) (hY : IsSl Y) (hl9 : 9 ≤ s.acs.length) (hl64 : s.acs.length ≤ 64) (hp64 : s.pys.length ≤ 2000000) (hh : HasErr w) (hcu : Curs s.acs) (h0 : r.op = 2) (hc : isC s.acs.length r.a) (hb : isC s.acs.length r.b) (hM : moveE s.acs r.a r.b r.amt = 0) (hE : postE s.acs (moveL s.acs r.a r.b r.amt) = 0) :
    Calls Tryd.prog 9 #[stV s X Y A c B d, r.val] w (OpRes w ⟨postL s.acs (moveL s.acs r.a r.b r.amt), s.pys, s.now⟩ X Y 0 0) := by
  obtain ⟨zs, ps, now⟩ := s
  obtain ⟨k, o, a, b, m, l, u⟩ := r
  obtain ⟨SA, sn, sc, rfl⟩ := hX
  obtain ⟨KA, kn, kc, rfl⟩ := hY
  obtain ⟨ad, rfl, _⟩ := hs.accs (by omega)
  have HS := Lib.hid hs
  dsimp only at h0 hc hb hM hE hl9 hl64 hp64 ⊢
  obtain ⟨n, hn⟩ : ∃ n, zs.length = n := ⟨_, rfl⟩
  obtain ⟨q, hq⟩ : ∃ q, ps.length = q := ⟨_, rfl⟩
  have HN := Lib.hid hn
  have HQ := Lib.hid hq
  unfold OpRes stV Rq.val
  dsimp only
  subst h0
  have hcs := Lib.hid hcu
  clear hcu
  (try simp only [hn, hq] at hc hb hM hE hl9 hl64 hp64)
  simp only [hn, hq]
  clear hs hn hq
  go_enter Tryd.func9, Tryd.ntmps9
  go_upto_region 12 with (at_builtin; first
    | (refine wpList_append_accs _ rfl (.const (.slice none 0 0)) (.tmp 24) rfl (w.heap.size + 5) (.slice none 0 0) [] zs rfl OwnA.nil ad n c rfl HN.out (HS.out.accs.below (w5_below w _ _)) (by simp) (by omega) (by simp) ?_
       intro v1 w1 ho1 hg1
       have F1 := Lib.hid ((w5_five w (stC (some ad) n c B q d (.slice SA sn sc) (.slice KA kn kc) now) (rqC k 2 a b m l u)).grown hg1 (fun g h => by cases h))
       rw [List.nil_append] at ho1
       obtain ⟨A1, d1, hv1, _, _, _, _⟩ := ho1.form
       rw [HN.out] at hv1
       subst hv1
       have O1 := Lib.hid ho1
       have c1 := F1.out.bt.cell 0 rfl
       have f1 := F1.out.bt.loose 0
       have F2 := Lib.hid (F1.out.setT 0 (.slice A1 n d1))
       have O2 := Lib.hid (O1.out.setOther (p := ⟨w.heap.size + 1 + 1 + 1 + 1, 0, none⟩) (u := .slice A1 n d1) (fun g hg => by have := O1.out.rowLt g hg; dsimp only; omega))
       have c2 := F2.out.bs.cell 1 rfl
       have hz2 : w.heap.size + 5 ≤ w1.heap.size := F1.out.size
       clear ho1 hg1 O1 F1)
    | (refine wpList_append_new pays 32 Tryd.underlying32 info_pay rfl _ rfl (.const (.slice none 0 0)) (.tmp 28) rfl (w.heap.size + 5) ps rfl B q d rfl HQ.out (HS.out.pays.below F2.out.below) (by omega) (by omega) (by simp; omega) ?_
       intro v2 w2 ho2 hg2 hf2
       obtain ⟨A2, d2, hv2, _, _, _, _⟩ := ho2.form
       rw [HQ.out] at hv2
       subst hv2
       have F3 := Lib.hid (F2.out.grown hg2 (fun g h => by cases h))
       have O3 := Lib.hid (O2.out.same (w' := w2) (fun g hg => hg2.block g (World.ownsRow.lt O2.out g hg).2 (by nofun)))
       have P3 := Lib.hid ho2
       have c3 := F3.out.bt.cell 1 rfl
       have f3 := F3.out.bt.loose 1
       have F4 := F3.out.setT 1 (.slice A2 q d2)
       have HPRE := Lib.hid (show Pre w (w2.setCell ⟨w.heap.size + 1 + 1 + 1 + 1, 1, none⟩ (.slice A2 q d2)) ⟨zs, ps, now⟩ (.slice SA sn sc) (.slice KA kn kc) (some ad) c B d (stC (some ad) n c B q d (.slice SA sn sc) (.slice KA kn kc) now) (rqC k 2 a b m l u) (.slice A1 n d1) (.slice A2 q d2) now from
         ⟨F4, O3.out.setOther (fun g hg => by have := O3.out.rowLt g hg; dsimp only; omega), P3.out.setOther (fun g hg => by have := P3.out.rowLt g hg; dsimp only; omega), HS.out.below F4.below,
          fun g h1 h2 => by have h3 := (World.ownsRow.lt O2.out g h1).2; have h4 := hf2 g h2; omega⟩)
       have cr := HPRE.out.five.br.cell 1 rfl
       clear ho2 hg2 hf2 F3 F4 O3 P3 F2 O2 c2))
  clear c1 f1 c3 f3 cr
  generalize w2.setCell ⟨w.heap.size + 1 + 1 + 1 + 1, 1, none⟩ (.slice A2 q d2) = W at HPRE ⊢
  have HF := Lib.hid HPRE.out.five
  obtain ⟨x0, x1, x2, x3, x4⟩ := (show _ ∧ _ ∧ _ ∧ _ ∧ _ from ⟨HF.out.bs.cell 0 rfl, HF.out.bs.cell 1 rfl, HF.out.bs.cell 2 rfl, HF.out.bs.cell 3 rfl, HF.out.bs.cell 4 rfl⟩)
  obtain ⟨r0, r1, r2, r3, r4, r5, r6⟩ := (show _ ∧ _ ∧ _ ∧ _ ∧ _ ∧ _ ∧ _ from ⟨HF.out.br.cell 0 rfl, HF.out.br.cell 1 rfl, HF.out.br.cell 2 rfl, HF.out.br.cell 3 rfl, HF.out.br.cell 4 rfl, HF.out.br.cell 5 rfl, HF.out.br.cell 6 rfl⟩)
  go_wp2
  go_quiet (fail)
  have qc := decide_eq_true hc
  have qb := decide_eq_true hb
  clear x0 x1 x2 x3 x4 r0 r1 r2 r3 r4 r5 r6
  have HMV := Lib.hid (fun Wx (hb : Below W.heap.size W Wx) => (move_any (some ad) n c zs a b m Wx HN.out ((HPRE.out.st.accs.below hb)) hcs.out (by omega)).mono fun e w' (h : MoveRes _ _ _ _ _ _ _) => by
    obtain ⟨v, he, ho, hb'⟩ := h
    exact (show ∃ v, e = .returned (.tuple #[v, errV (moveE zs a b m)]) ∧ OwnE w' W.heap.size v (moveL zs a b m) ∧ Below W.heap.size W w' from ⟨v, he, ho.less hb.size, hb.trans (hb'.mono hb.size)⟩))
  rw [hM, errV, if_pos rfl] at HMV
  obtain ⟨e6, he6⟩ : ∃ e6, (moveL zs a b m).length = e6 := ⟨_, rfl⟩
  have HE6 := Lib.hid he6
  have hle6 : e6 ≤ 1000 := by rw [← he6]; exact Nat.le_trans (moveL_len _ _ _ _) (by decide)
  have HPO := Lib.hid (fun Wx (hb : Below W.heap.size W Wx) B6 c6 (hr : RdE Wx B6 (moveL zs a b m)) => (hE ▸ post_any (some ad) B6 n e6 c c6 zs (moveL zs a b m) Wx HN.out (HPRE.out.st.accs.below hb) he6 hr (by omega) (by omega) (fun h => by cases h)).mono fun e w' (h : LedRes _ _ _ _ _) => by
    obtain ⟨v, he, ho, hb'⟩ := h
    exact (show ∃ v, e = .returned (.tuple #[v, errV (0)]) ∧ OwnA w' W.heap.size v (postL zs (moveL zs a b m)) ∧ Below W.heap.size W w' from ⟨v, he, ho.less hb.size, hb.trans (hb'.mono hb.size)⟩))
  clear he6
  rw [errV, if_pos rfl] at HPO
  have HL7 := Lib.hid (show (postL zs (moveL zs a b m)).length = n by rw [post_len hE]; exact HN.out)
  obtain ⟨x0, x1, x2, x3, x4⟩ := (show _ ∧ _ ∧ _ ∧ _ ∧ _ from ⟨HF.out.bs.cell 0 rfl, HF.out.bs.cell 1 rfl, HF.out.bs.cell 2 rfl, HF.out.bs.cell 3 rfl, HF.out.bs.cell 4 rfl⟩)
  obtain ⟨r0, r1, r2, r3, r4, r5, r6⟩ := (show _ ∧ _ ∧ _ ∧ _ ∧ _ ∧ _ ∧ _ from ⟨HF.out.br.cell 0 rfl, HF.out.br.cell 1 rfl, HF.out.br.cell 2 rfl, HF.out.br.cell 3 rfl, HF.out.br.cell 4 rfl, HF.out.br.cell 5 rfl, HF.out.br.cell 6 rfl⟩)
  go_upto_region 26 with (first | (go_at_call 21; refine (client_any _ _ _ _ _ _ _ (HF.out.bs.drewN _) rfl).mono ?_; rintro _ _ ⟨rfl, rfl⟩) | (go_at_call 22; refine (HMV.out _ (by repeat (first | exact Below.refl _ _ | refine below_drewN ?_ _))).mono ?_; rintro _ w6 ⟨v6, rfl, ho6, hb6⟩; obtain ⟨A6, c6, hv6, hr6, _, _, _⟩ := ho6.form; rw [HE6.out] at hv6; subst hv6; have HR6 := Lib.hid hr6; have HF6 := Lib.hid (HF.out.later hb6); have HB6 := Lib.hid hb6; have xw := HF6.out.bs.cell 0 rfl; clear ho6 hb6 hr6) | (go_at_call 24; refine (HPO.out _ HB6.out A6 c6 HR6.out).mono ?_; rintro _ w7 ⟨v7, rfl, ho7, hb7⟩; obtain ⟨A7, c7, hv7, _, _, _, _⟩ := ho7.form; rw [HL7.out] at hv7; subst hv7; have HF7 := Lib.hid (HF.out.later hb7); have HA7 := Lib.hid ho7.rowLt; have HO7 := Lib.hid (ho7.less (show w.heap.size + 5 ≤ W.heap.size from HF.out.size)); have HP7 := Lib.hid (HPRE.out.op.below hb7); have t0 := HF7.out.bt.cell 0 rfl; have l0 := HF7.out.bt.loose 0; clear ho7 hb7))
  clear x0 x1 x2 x3 x4 r0 r1 r2 r3 r4 r5 r6
  have HF8 := Lib.hid (show Five w (w7.setCell ⟨w.heap.size + 1 + 1 + 1 + 1, 0, none⟩ (.slice A7 n c7)) _ _ #[.slice A7 n c7, .slice A2 q d2, .slice SA sn sc, .slice KA kn kc, .int .i64 now] from HF7.out.setT 0 (.slice A7 n c7))
  have HO8 := Lib.hid (HO7.out.setOther (p := ⟨w.heap.size + 1 + 1 + 1 + 1, 0, none⟩) (u := .slice A7 n c7) (fun g hg => by have := HO7.out.rowLt g hg; dsimp only; omega))
  have HP8 := Lib.hid (HP7.out.setOther (p := ⟨w.heap.size + 1 + 1 + 1 + 1, 0, none⟩) (u := .slice A7 n c7) (fun g hg => by have := HP7.out.rowLt g hg; dsimp only; omega))
  clear t0 l0 HF7 HO7 HP7
  generalize w7.setCell ⟨w.heap.size + 1 + 1 + 1 + 1, 0, none⟩ (.slice A7 n c7) = w8 at HF8 HO8 HP8 ⊢
  obtain ⟨x0, x1, x2, x3, x4⟩ := (show _ ∧ _ ∧ _ ∧ _ ∧ _ from ⟨HF8.out.bs.cell 0 rfl, HF8.out.bs.cell 1 rfl, HF8.out.bs.cell 2 rfl, HF8.out.bs.cell 3 rfl, HF8.out.bs.cell 4 rfl⟩)
  obtain ⟨y0, y1, y2, y3, y4⟩ := (show _ ∧ _ ∧ _ ∧ _ ∧ _ from ⟨HF8.out.b2.cell 0 rfl, HF8.out.b2.cell 1 rfl, HF8.out.b2.cell 2 rfl, HF8.out.b2.cell 3 rfl, HF8.out.b2.cell 4 rfl⟩)
  obtain ⟨f0, f1, f2, f3, f4⟩ := (show _ ∧ _ ∧ _ ∧ _ ∧ _ from ⟨HF8.out.b2.loose 0, HF8.out.b2.loose 1, HF8.out.b2.loose 2, HF8.out.b2.loose 3, HF8.out.b2.loose 4⟩)
  obtain ⟨z0, z1⟩ := (show _ ∧ _ from ⟨HF8.out.b3.cell 0 rfl, HF8.out.b3.cell 1 rfl⟩)
  obtain ⟨e0, e1⟩ := (show _ ∧ _ from ⟨HF8.out.b3.loose 0, HF8.out.b3.loose 1⟩)
  obtain ⟨t0, t1, t2, t3, t4⟩ := (show _ ∧ _ ∧ _ ∧ _ ∧ _ from ⟨HF8.out.bt.cell 0 rfl, HF8.out.bt.cell 1 rfl, HF8.out.bt.cell 2 rfl, HF8.out.bt.cell 3 rfl, HF8.out.bt.cell 4 rfl⟩)
  go_wp2
  have HT := told_at HF8.out.b2 HF8.out.b3 rfl rfl (by omega) (.slice A7 n c7) (.slice A2 q d2) (.slice SA sn sc) (.slice KA kn kc) (.int .i64 now) (.int .i64 0) (.int .i64 0)
  have HBT := told_below HF8.out.below (show w.heap.size ≤ w.heap.size + 1 + 1 by omega) (show w.heap.size ≤ w.heap.size + 1 + 1 + 1 by omega) (.slice A7 n c7) (.slice A2 q d2) (.slice SA sn sc) (.slice KA kn kc) (.int .i64 now) (.int .i64 0) (.int .i64 0)
  refine bodyPost_ret (results_two (p := 4) (q := 5) (ty := 36) (tz := 40) rfl _ _ (w.heap.size + 1 + 1) (w.heap.size + 1 + 1 + 1) _ _ _ _ (0, 0) _ _ rfl HT.1 Tryd.underlying36 rfl (by kernel_rfl) rfl HT.2 Tryd.underlying40 rfl (by kernel_rfl)) rfl ?_
  exact ⟨A7, c7, A2, d2, by rw [HL7.out], st_own (rp_ownA (st_ownA HO8.out (show w.heap.size + 1 + 1 < w.heap.size + 5 by omega) (.slice A7 n c7) (.slice A2 q d2) (.slice SA sn sc) (.slice KA kn kc) (.int .i64 now)) (show w.heap.size + 1 + 1 + 1 < w.heap.size + 5 by omega) (.int .i64 0) (.int .i64 0)) (rp_ownS (st_ownS HP8.out (show w.heap.size + 1 + 1 < w.heap.size + 5 by omega) (.slice A7 n c7) (.slice A2 q d2) (.slice SA sn sc) (.slice KA kn kc) (.int .i64 now)) (show w.heap.size + 1 + 1 + 1 < w.heap.size + 5 by omega) (.int .i64 0) (.int .i64 0)) HL7.out HQ.out, HBT⟩

end Go.Proofs.YtjnmppdohglcaaaDoor

