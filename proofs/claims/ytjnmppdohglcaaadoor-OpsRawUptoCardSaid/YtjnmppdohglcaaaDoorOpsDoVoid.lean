/-
  The law's do by its contract: a payment that is let go.
-/
import Derived.Test.YtjnmppdohglcaaaDoorGrE
import Derived.Test.YtjnmppdohglcaaaDoorOpsFive
import Derived.Test.YtjnmppdohglcaaaDoorGrB
import Derived.Test.YtjnmppdohglcaaaDoorGrC
import Derived.Test.YtjnmppdohglcaaaDoorGrH
import Derived.Test.YtjnmppdohglcaaaDoorGrA
import Derived.BigQuiet
import Derived.BigRegion
import Derived.Deep.QuietTactic
import Derived.Deep.CutRange
import Derived.Deep.RegionHeld3
import Derived.IntWalk
import Derived.WalkSpells
import Derived.Test.YtjnmppdohglcaaaDoorOpsSmall
import Derived.Test.YtjnmppdohglcaaaDoorGrD
import Derived.Test.YtjnmppdohglcaaaDoorOpsSev
namespace Go.Proofs.YtjnmppdohglcaaaDoor
open Go Go.RowKit
set_option linter.unusedVariables false

set_option maxRecDepth 100000 in
set_option maxHeartbeats 4000000 in
theorem lawop_void_no (s : St) (X Y : Value) (A : Option Addr) (c : Nat) (B : Option Addr) (d : Nat) (r : Rq) (w : World) (hs : StAt w s X Y A c B d) (hX : IsSl X) (hY : IsSl Y) (hl9 : 9 ≤ s.acs.length) (hl64 : s.acs.length ≤ 64) (hp64 : s.pys.length ≤ 2000000) (hh : HasErr w) (h0 : r.op = 5) (hc : 0 ≤ r.a ∧ r.a < (s.pys.length : Int)) (hP : payE (pyAt s.pys r.a) 5 r.amt = 0) (E : Int) (hE : relE s.acs (pyAt s.pys r.a).frm (leftP (pyAt s.pys r.a)) = E) (hE0 : E ≠ 0) :
    Calls Tryd.prog 9 #[stV s X Y A c B d, r.val] w (OpRes w s X Y E 0) := by
  obtain ⟨zs, ps, now⟩ := s
  obtain ⟨k, o, a, b, m, l, u⟩ := r
  obtain ⟨SA, sn, sc, rfl⟩ := hX
  obtain ⟨KA, kn, kc, rfl⟩ := hY
  obtain ⟨ad, rfl, _⟩ := hs.accs (by omega)
  have HS := Lib.hid hs
  dsimp only at h0 hc hP hE hl9 hl64 hp64 ⊢
  obtain ⟨n, hn⟩ : ∃ n, zs.length = n := ⟨_, rfl⟩
  obtain ⟨q, hq⟩ : ∃ q, ps.length = q := ⟨_, rfl⟩
  have HN := Lib.hid hn
  have HQ := Lib.hid hq
  unfold OpRes stV Rq.val
  dsimp only
  subst h0
  obtain ⟨j, rfl⟩ : ∃ j : Nat, a = (j : Int) := ⟨a.toNat, by omega⟩
  obtain ⟨⟨pf, pd, pa, pc, pr, pg, pt, pst⟩, hpy⟩ : ∃ p, ps[j]? = some p := ⟨_, List.getElem?_eq_getElem (by omega)⟩
  obtain ⟨bd, rfl, _⟩ := HS.out.pays.at_ hpy
  simp only [pyAt_at hpy] at hP hE ⊢
  (try simp only [Int.toNat_natCast])
  obtain ⟨⟨qf, qd, qa, qc, qr, qg, qt, qs⟩, hpq⟩ : ∃ p', payP ⟨pf, pd, pa, pc, pr, pg, pt, pst⟩ 5 m = p' := ⟨_, rfl⟩
  (try simp only [hpq])
  have HPQ := Lib.hid hpq
  clear hpq
  have HPY := Lib.hid hpy
  clear hpy
  obtain ⟨lf, hlf⟩ : ∃ lf, leftP ⟨pf, pd, pa, pc, pr, pg, pt, pst⟩ = lf := ⟨_, rfl⟩
  simp only [hlf] at hE ⊢
  have HLF := Lib.hid hlf
  clear hlf
  (try simp only [hn, hq] at hc hP hE hl9 hl64 hp64)
  simp only [hn, hq]
  clear hs hn hq
  go_enter Tryd.func9, Tryd.ntmps9
  go_upto_region 40 with (at_builtin; first
    | (refine wpList_append_accs _ rfl (.const (.slice none 0 0)) (.tmp 24) rfl (w.heap.size + 5) (.slice none 0 0) [] zs rfl OwnA.nil ad n c rfl HN.out (HS.out.accs.below (w5_below w _ _)) (by simp) (by omega) (by simp) ?_
       intro v1 w1 ho1 hg1
       have F1 := Lib.hid ((w5_five w (stC (some ad) n c (some bd) q d (.slice SA sn sc) (.slice KA kn kc) now) (rqC k 5 (j : Int) b m l u)).grown hg1 (fun g h => by cases h))
       rw [List.nil_append] at ho1
       obtain ⟨A1, d1, hv1, _, _, _, _⟩ := ho1.form
       rw [HN.out] at hv1
       subst hv1
       have O1 := Lib.hid ho1
       have c1 := F1.out.bt.cell 0 rfl
       have f1 := F1.out.bt.loose 0
       have F2 := Lib.hid (F1.out.setT 0 (.slice A1 n d1))
       have O2 := Lib.hid (O1.out.setOther (p := ⟨w.heap.size + 1 + 1 + 1 + 1, 0, none⟩) (u := .slice A1 n d1) (fun g hg => by have := O1.out.rowLt g hg; dsimp only; omega))
       have c2 := F2.out.bs.cell 1 rfl
       have hz2 : w.heap.size + 5 ≤ w1.heap.size := F1.out.size
       clear ho1 hg1 O1 F1)
    | (refine wpList_append_new pays 32 Tryd.underlying32 info_pay rfl _ rfl (.const (.slice none 0 0)) (.tmp 28) rfl (w.heap.size + 5) ps rfl (some bd) q d rfl HQ.out (HS.out.pays.below F2.out.below) (by omega) (by omega) (by simp; omega) ?_
       intro v2 w2 ho2 hg2 hf2
       obtain ⟨A2, d2, hv2, _, _, _, _⟩ := ho2.form
       rw [HQ.out] at hv2
       subst hv2
       have F3 := Lib.hid (F2.out.grown hg2 (fun g h => by cases h))
       have O3 := Lib.hid (O2.out.same (w' := w2) (fun g hg => hg2.block g (World.ownsRow.lt O2.out g hg).2 (by nofun)))
       have P3 := Lib.hid ho2
       have c3 := F3.out.bt.cell 1 rfl
       have f3 := F3.out.bt.loose 1
       have F4 := F3.out.setT 1 (.slice A2 q d2)
       have HPRE := Lib.hid (show Pre w (w2.setCell ⟨w.heap.size + 1 + 1 + 1 + 1, 1, none⟩ (.slice A2 q d2)) ⟨zs, ps, now⟩ (.slice SA sn sc) (.slice KA kn kc) (some ad) c (some bd) d (stC (some ad) n c (some bd) q d (.slice SA sn sc) (.slice KA kn kc) now) (rqC k 5 (j : Int) b m l u) (.slice A1 n d1) (.slice A2 q d2) now from
         ⟨F4, O3.out.setOther (fun g hg => by have := O3.out.rowLt g hg; dsimp only; omega), P3.out.setOther (fun g hg => by have := P3.out.rowLt g hg; dsimp only; omega), HS.out.below F4.below,
          fun g h1 h2 => by have h3 := (World.ownsRow.lt O2.out g h1).2; have h4 := hf2 g h2; omega⟩)
       have cr := HPRE.out.five.br.cell 1 rfl
       clear ho2 hg2 hf2 F3 F4 O3 P3 F2 O2 c2))
  clear c1 f1 c3 f3 cr
  generalize w2.setCell ⟨w.heap.size + 1 + 1 + 1 + 1, 1, none⟩ (.slice A2 q d2) = W at HPRE ⊢
  have HF := Lib.hid HPRE.out.five
  obtain ⟨x0, x1, x2, x3, x4⟩ := (show _ ∧ _ ∧ _ ∧ _ ∧ _ from ⟨HF.out.bs.cell 0 rfl, HF.out.bs.cell 1 rfl, HF.out.bs.cell 2 rfl, HF.out.bs.cell 3 rfl, HF.out.bs.cell 4 rfl⟩)
  obtain ⟨r0, r1, r2, r3, r4, r5, r6⟩ := (show _ ∧ _ ∧ _ ∧ _ ∧ _ ∧ _ ∧ _ from ⟨HF.out.br.cell 0 rfl, HF.out.br.cell 1 rfl, HF.out.br.cell 2 rfl, HF.out.br.cell 3 rfl, HF.out.br.cell 4 rfl, HF.out.br.cell 5 rfl, HF.out.br.cell 6 rfl⟩)
  obtain ⟨_, e1, hat⟩ := HPRE.out.st.pays.at_ HPY.out
  obtain rfl := Option.some.inj e1
  obtain ⟨p0, p1, p2, p3, p4, p5, p6, p7⟩ := pay_cells hat
  dsimp only at p0 p1 p2 p3 p4 p5 p6 p7
  have qa : decide ((j : Int) < 0) = false := decide_eq_false (by omega)
  have hjq : j < q := by omega
  have hzr : w.heap.size + 1 < W.heap.size := HF.out.br.lt
  have hzs : w.heap.size < W.heap.size := HF.out.bs.lt
  have HDO := Lib.hid (fun Wx => do_any ⟨pf, pd, pa, pc, pr, pg, pt, pst⟩ 5 m Wx)
  unfold PayRes payR at HDO
  rw [hP, if_pos rfl, HPQ.out, errV, if_pos rfl] at HDO
  unfold Py.val at HDO
  dsimp only at HDO
  go_upto_region 51 with (first | (go_at_call 25; refine (HDO.out _).mono ?_; rintro _ w6 ⟨rfl, hb6⟩; have HB6 := Lib.hid (((Below.refl W.heap.size W).alloc (Nat.le_refl _) (.cells #[.int .i64 pf, .int .i64 pd, .int .i64 pa, .int .i64 pc, .int .i64 pr, .int .i64 pg, .int .i64 pt, .int .i64 pst] 47)).trans (hb6.mono (by simp))); have HF6 := Lib.hid (HF.out.later HB6.out); have HPB := Lib.hid ((Blk.new W 47 #[.int .i64 pf, .int .i64 pd, .int .i64 pa, .int .i64 pc, .int .i64 pr, .int .i64 pg, .int .i64 pt, .int .i64 pst]).later hb6); clear hb6))
  clear x0 x1 x2 x3 x4 r0 r1 r2 r3 r4 r5 r6 p0 p1 p2 p3 p4 p5 p6 p7 qa
  have HV7 := Lib.hid (show Sev w (w6.alloc (.cells #[.int .i64 qf, .int .i64 qd, .int .i64 qa, .int .i64 qc, .int .i64 qr, .int .i64 qg, .int .i64 qt, .int .i64 qs] 47)) (stC (some ad) n c (some bd) q d (.slice SA sn sc) (.slice KA kn kc) now) (rqC k 5 (j : Int) b m l u) #[.slice A1 n d1, .slice A2 q d2, .slice SA sn sc, .slice KA kn kc, .int .i64 now] W.heap.size #[.int .i64 pf, .int .i64 pd, .int .i64 pa, .int .i64 pc, .int .i64 pr, .int .i64 pg, .int .i64 pt, .int .i64 pst] w6.heap.size #[.int .i64 qf, .int .i64 qd, .int .i64 qa, .int .i64 qc, .int .i64 qr, .int .i64 qg, .int .i64 qt, .int .i64 qs] (.slice A2 q d2) ps W.heap.size from ⟨HF6.out.alloc _, HPB.out.more _, Blk.new w6 _ _, (HPRE.out.op.below HB6.out).alloc _, Nat.le_refl _, HB6.out.size, fun g hg => (World.ownsRow.lt HPRE.out.op g hg).2, HF.out.size, by have := HB6.out.size; simp; omega⟩)
  have HB7 := Lib.hid (HB6.out.alloc HB6.out.size (.cells #[.int .i64 qf, .int .i64 qd, .int .i64 qa, .int .i64 qc, .int .i64 qr, .int .i64 qg, .int .i64 qt, .int .i64 qs] 47))
  clear HF6 HPB HB6
  generalize w6.alloc (.cells #[.int .i64 qf, .int .i64 qd, .int .i64 qa, .int .i64 qc, .int .i64 qr, .int .i64 qg, .int .i64 qt, .int .i64 qs] 47) = w7 at HV7 HB7 ⊢
  generalize w6.heap.size = gq at HV7 ⊢
  obtain ⟨x0, x1, x2, x3, x4⟩ := (show _ ∧ _ ∧ _ ∧ _ ∧ _ from ⟨HV7.out.five.bs.cell 0 rfl, HV7.out.five.bs.cell 1 rfl, HV7.out.five.bs.cell 2 rfl, HV7.out.five.bs.cell 3 rfl, HV7.out.five.bs.cell 4 rfl⟩)
  obtain ⟨r0, r1, r2, r3, r4, r5, r6⟩ := (show _ ∧ _ ∧ _ ∧ _ ∧ _ ∧ _ ∧ _ from ⟨HV7.out.five.br.cell 0 rfl, HV7.out.five.br.cell 1 rfl, HV7.out.five.br.cell 2 rfl, HV7.out.five.br.cell 3 rfl, HV7.out.five.br.cell 4 rfl, HV7.out.five.br.cell 5 rfl, HV7.out.five.br.cell 6 rfl⟩)
  obtain ⟨p0, p1, p2, p3, p4, p5, p6, p7⟩ := (show _ ∧ _ ∧ _ ∧ _ ∧ _ ∧ _ ∧ _ ∧ _ from ⟨HV7.out.bp.cell 0 rfl, HV7.out.bp.cell 1 rfl, HV7.out.bp.cell 2 rfl, HV7.out.bp.cell 3 rfl, HV7.out.bp.cell 4 rfl, HV7.out.bp.cell 5 rfl, HV7.out.bp.cell 6 rfl, HV7.out.bp.cell 7 rfl⟩)
  have HLE := Lib.hid (fun Wx => left_any ⟨pf, pd, pa, pc, pr, pg, pt, pst⟩ Wx)
  unfold IntRes Py.val at HLE
  dsimp only at HLE
  rw [HLF.out] at HLE
  have HRL := Lib.hid (fun Wx (hb : Below W.heap.size W Wx) => release_any (some ad) n c zs pf lf Wx HN.out (HPRE.out.st.accs.below hb) (by omega) (fun h => by cases h))
  unfold LedRes at HRL
  rw [hE, errV, if_neg hE0] at HRL
  unfold eno at HRL
  have HTL := Lib.hid (fun Wx (hb : Below w.heap.size w Wx) => told_any E Wx (hh.below hb))
  rw [errV, if_neg hE0] at HTL
  unfold eno at HTL
  go_upto_region 52 with fail
  clear x0 x1 x2 x3 x4 r0 r1 r2 r3 r4 r5 r6 p0 p1 p2 p3 p4 p5 p6 p7
  refine wp_region_held_drew (S := fun w' => Below w7.heap.size w7 w') (by kernel_rfl) (Below.refl _ _).drew (fun hHeld => ?_)
  refine take_at 0 239 (v := ?_) rfl rfl (by kernel_rfl) (by kernel_rfl) (by kernel_rfl) (fun _ _ _ h => h) (Or.inl ⟨by rfl, ?_⟩) (by assumption) ?_
  rotate_left
  · intro w' hSw
    go_simp
    (try with_reducible rfl)
  (try simp only [Act.put, List.setIfInBounds_toArray, List.set_cons_zero, List.set_cons_succ])
  refine take_at 1 240 (v := ?_) rfl rfl (by kernel_rfl) (by kernel_rfl) (by kernel_rfl) (fun _ _ _ h => h) (Or.inl ⟨by rfl, ?_⟩) (by assumption) ?_
  rotate_left
  · intro w' hSw
    have hSw' := hSw
    (try dsimp only at hSw')
    have x0 := (HV7.out.later hSw').five.bs.cell 0 rfl
    go_simp
    (try with_reducible rfl)
  (try simp only [Act.put, List.setIfInBounds_toArray, List.set_cons_zero, List.set_cons_succ])
  refine take_at 2 241 (v := ?_) rfl rfl (by kernel_rfl) (by kernel_rfl) (by kernel_rfl) (fun _ _ _ h => h) (Or.inl ⟨by rfl, ?_⟩) (by assumption) ?_
  rotate_left
  · intro w' hSw
    go_simp
    (try with_reducible rfl)
  (try simp only [Act.put, List.setIfInBounds_toArray, List.set_cons_zero, List.set_cons_succ])
  refine take_at 3 242 (v := ?_) rfl rfl (by kernel_rfl) (by kernel_rfl) (by kernel_rfl) (fun _ _ _ h => h) (Or.inl ⟨by rfl, ?_⟩) (by assumption) ?_
  rotate_left
  · intro w' hSw
    have hSw' := hSw
    (try dsimp only at hSw')
    have p0 := (HV7.out.later hSw').bp.cell 0 rfl
    go_simp
    (try with_reducible rfl)
  (try simp only [Act.put, List.setIfInBounds_toArray, List.set_cons_zero, List.set_cons_succ])
  refine take_at 4 243 (v := ?_) rfl rfl (by kernel_rfl) (by kernel_rfl) (by kernel_rfl) (fun _ _ _ h => h) (Or.inl ⟨by rfl, ?_⟩) (by assumption) ?_
  rotate_left
  · intro w' hSw
    have hSw' := hSw
    (try dsimp only at hSw')
    obtain ⟨m0, m1, m2, m3, m4, m5, m6, m7⟩ := (show _ ∧ _ ∧ _ ∧ _ ∧ _ ∧ _ ∧ _ ∧ _ from ⟨(HV7.out.later hSw').bp.cell 0 rfl, (HV7.out.later hSw').bp.cell 1 rfl, (HV7.out.later hSw').bp.cell 2 rfl, (HV7.out.later hSw').bp.cell 3 rfl, (HV7.out.later hSw').bp.cell 4 rfl, (HV7.out.later hSw').bp.cell 5 rfl, (HV7.out.later hSw').bp.cell 6 rfl, (HV7.out.later hSw').bp.cell 7 rfl⟩)
    go_simp
    (try with_reducible rfl)
  (try simp only [Act.put, List.setIfInBounds_toArray, List.set_cons_zero, List.set_cons_succ])
  refine wpAnyH_ready (rs := [5]) (by kernel_rfl) (by simp) ?_
  refine AllReadyH.cons (i := 5) rfl (fun K hK => ?_) AllReadyH.nil
  go_simp
  go_at_call 16
  refine (HLE.out _).mono ?_
  rintro _ w8 ⟨rfl, hb8⟩
  have hb8' : Below w7.heap.size w7 w8 := (Below.refl w7.heap.size w7).drew.trans hb8
  clear hb8
  refine hK.out _ _ hb8' (fun hHeld => ?_)
  clear hK K
  (try simp only [Act.put, List.setIfInBounds_toArray, List.set_cons_zero, List.set_cons_succ])
  refine wpAnyH_ready (rs := [6]) (by kernel_rfl) (by simp) ?_
  refine AllReadyH.cons (i := 6) rfl (fun K hK => ?_) AllReadyH.nil
  go_simp
  go_at_call 26
  refine (HRL.out _ (HB7.out.trans (hb8'.mono HB7.out.size))).mono ?_
  rintro _ w9 ⟨v9, rfl, ho9, hb9⟩
  have hb9' : Below w7.heap.size w7 w9 := hb8'.trans (hb9.mono hb8'.size)
  clear hb9 ho9
  refine hK.out _ _ hb9' (fun hHeld => ?_)
  clear hK K
  (try simp only [Act.put, List.setIfInBounds_toArray, List.set_cons_zero, List.set_cons_succ])
  refine take_at 7 238 (v := ?_) rfl rfl (by kernel_rfl) (by kernel_rfl) (by kernel_rfl) (fun _ _ _ h => h) (Or.inl ⟨by rfl, ?_⟩) (by assumption) ?_
  rotate_left
  · intro w' hSw
    go_simp
    (try with_reducible rfl)
  (try simp only [Act.put, List.setIfInBounds_toArray, List.set_cons_zero, List.set_cons_succ])
  refine take_at 8 246 (v := ?_) rfl rfl (by kernel_rfl) (by kernel_rfl) (by kernel_rfl) (fun _ _ _ h => h) (Or.inl ⟨by rfl, ?_⟩) (by assumption) ?_
  rotate_left
  · intro w' hSw
    go_simp
    (try with_reducible rfl)
  (try simp only [Act.put, List.setIfInBounds_toArray, List.set_cons_zero, List.set_cons_succ])
  refine take_at 9 247 (v := ?_) rfl rfl (by kernel_rfl) (by kernel_rfl) (by kernel_rfl) (fun _ _ _ h => h) (Or.inl ⟨by rfl, ?_⟩) (by assumption) ?_
  rotate_left
  · intro w' hSw
    go_simp
    (try with_reducible rfl)
  (try simp only [Act.put, List.setIfInBounds_toArray, List.set_cons_zero, List.set_cons_succ])
  refine take_at 10 18 (v := ?_) rfl rfl (by kernel_rfl) (by kernel_rfl) (by kernel_rfl) (fun _ _ _ h => h) (Or.inl ⟨by rfl, ?_⟩) (by assumption) ?_
  rotate_left
  · intro w' hSw
    go_simp
    (try with_reducible rfl)
  (try simp only [Act.put, List.setIfInBounds_toArray, List.set_cons_zero, List.set_cons_succ])
  refine take_at 11 17 (v := ?_) rfl rfl (by kernel_rfl) (by kernel_rfl) (by kernel_rfl) (fun _ _ _ h => h) (Or.inl ⟨by rfl, ?_⟩) (by assumption) ?_
  rotate_left
  · intro w' hSw
    go_simp
    (try with_reducible rfl)
  (try simp only [Act.put, List.setIfInBounds_toArray, List.set_cons_zero, List.set_cons_succ])
  refine wpAnyH_done (by kernel_rfl) ?_ _
  have HV9 := Lib.hid (HV7.out.later hb9')
  clear hHeld hb8' hb9' HV7 HB7
  have HF9 := Lib.hid HV9.out.five
  clear HV9
  go_upto_region 65 with fail
  refine wp_region_held_drew (S := fun w' => Blk w' (w.heap.size + 1 + 1 + 1 + 1) 36 #[.slice A1 n d1, .slice A2 q d2, .slice SA sn sc, .slice KA kn kc, .int .i64 now] ∧ Blk w' w.heap.size 36 (stC (some ad) n c (some bd) q d (.slice SA sn sc) (.slice KA kn kc) now)) (by kernel_rfl) ⟨HF9.out.bt.drew, HF9.out.bs.drew⟩ (fun hHeld => ?_)
  refine take_at 0 339 (v := ?_) rfl rfl (by kernel_rfl) (by kernel_rfl) (by kernel_rfl) (fun _ _ _ h => h) (Or.inl ⟨by rfl, ?_⟩) (by assumption) ?_
  rotate_left
  · intro w' hSw
    have hSw' := hSw
    (try dsimp only at hSw')
    have c0 := hSw'.2.cell 0 rfl
    have c1 := hSw'.2.cell 1 rfl
    have c2 := hSw'.2.cell 2 rfl
    have c3 := hSw'.2.cell 3 rfl
    have c4 := hSw'.2.cell 4 rfl
    go_simp
    (try with_reducible rfl)
  (try simp only [Act.put, List.setIfInBounds_toArray, List.set_cons_zero, List.set_cons_succ])
  refine take_at 1 340 (v := ?_) rfl rfl (by kernel_rfl) (by kernel_rfl) (by kernel_rfl) (fun _ _ _ h => h) (Or.inl ⟨by rfl, ?_⟩) (by assumption) ?_
  rotate_left
  · intro w' hSw
    go_simp
    (try with_reducible rfl)
  (try simp only [Act.put, List.setIfInBounds_toArray, List.set_cons_zero, List.set_cons_succ])
  refine wpAnyH_ready (rs := [2]) (by kernel_rfl) (by simp) ?_
  refine AllReadyH.cons (i := 2) rfl (fun K hK => ?_) AllReadyH.nil
  go_simp
  go_at_call 23
  refine (HTL.out _ HF9.out.below.drew).mono ?_
  rintro _ w9 ⟨rfl, hb9⟩
  refine hK.out _ _ ⟨hHeld.1.later hb9, hHeld.2.later hb9⟩ (fun hHeld => ?_)
  clear hK K
  (try simp only [Act.put, List.setIfInBounds_toArray, List.set_cons_zero, List.set_cons_succ])
  have HQ0 := Lib.hid (HF9.out.drew.later hb9)
  have HQ1 := HQ0
  clear hb9
  obtain ⟨y0, y1, y2, y3, y4⟩ := (show _ ∧ _ ∧ _ ∧ _ ∧ _ from ⟨HQ0.out.b2.cell 0 rfl, HQ0.out.b2.cell 1 rfl, HQ0.out.b2.cell 2 rfl, HQ0.out.b2.cell 3 rfl, HQ0.out.b2.cell 4 rfl⟩)
  obtain ⟨f0, f1, f2, f3, f4⟩ := (show _ ∧ _ ∧ _ ∧ _ ∧ _ from ⟨HQ0.out.b2.loose 0, HQ0.out.b2.loose 1, HQ0.out.b2.loose 2, HQ0.out.b2.loose 3, HQ0.out.b2.loose 4⟩)
  refine wpAnyH_ready (rs := [3]) (by kernel_rfl) (by simp) ?_
  refine AllReadyH.cons (i := 3) rfl (fun K hK => ?_) AllReadyH.nil
  go_simp
  refine hK.out _ (((((w9.setCell ⟨w.heap.size + 1 + 1, 0, none⟩ (.slice (some ad) n c)).setCell ⟨w.heap.size + 1 + 1, 1, none⟩ (.slice (some bd) q d)).setCell ⟨w.heap.size + 1 + 1, 2, none⟩ (.slice SA sn sc)).setCell ⟨w.heap.size + 1 + 1, 3, none⟩ (.slice KA kn kc)).setCell ⟨w.heap.size + 1 + 1, 4, none⟩ (.int .i64 now)) ⟨st_other (g := w.heap.size + 1 + 1) hHeld.1 (by omega) (.slice (some ad) n c) (.slice (some bd) q d) (.slice SA sn sc) (.slice KA kn kc) (.int .i64 now), st_other (g := w.heap.size + 1 + 1) hHeld.2 (by omega) (.slice (some ad) n c) (.slice (some bd) q d) (.slice SA sn sc) (.slice KA kn kc) (.int .i64 now)⟩ (fun hHeld => ?_)
  clear hK K
  (try simp only [Act.put, List.setIfInBounds_toArray, List.set_cons_zero, List.set_cons_succ])
  have HQ2 := Lib.hid (st_put HQ1.out.b2 rfl (.slice (some ad) n c) (.slice (some bd) q d) (.slice SA sn sc) (.slice KA kn kc) (.int .i64 now))
  have HQ3 := Lib.hid (st_other HQ1.out.b3 (show w.heap.size + 1 + 1 ≠ w.heap.size + 1 + 1 + 1 by omega) (.slice (some ad) n c) (.slice (some bd) q d) (.slice SA sn sc) (.slice KA kn kc) (.int .i64 now))
  have HQB := Lib.hid (st_below HQ1.out.below (show w.heap.size ≤ w.heap.size + 1 + 1 by omega) (.slice (some ad) n c) (.slice (some bd) q d) (.slice SA sn sc) (.slice KA kn kc) (.int .i64 now))
  clear y0 y1 y2 y3 y4 f0 f1 f2 f3 f4 HQ1 HQ0
  generalize (((((w9.setCell ⟨w.heap.size + 1 + 1, 0, none⟩ (.slice (some ad) n c)).setCell ⟨w.heap.size + 1 + 1, 1, none⟩ (.slice (some bd) q d)).setCell ⟨w.heap.size + 1 + 1, 2, none⟩ (.slice SA sn sc)).setCell ⟨w.heap.size + 1 + 1, 3, none⟩ (.slice KA kn kc)).setCell ⟨w.heap.size + 1 + 1, 4, none⟩ (.int .i64 now)) = w10 at HQ2 HQ3 HQB hHeld ⊢
  obtain ⟨z0, z1⟩ := (show _ ∧ _ from ⟨HQ3.out.cell 0 rfl, HQ3.out.cell 1 rfl⟩)
  obtain ⟨e0, e1⟩ := (show _ ∧ _ from ⟨HQ3.out.loose 0, HQ3.out.loose 1⟩)
  refine wpAnyH_ready (rs := [4]) (by kernel_rfl) (by simp) ?_
  refine AllReadyH.cons (i := 4) rfl (fun K hK => ?_) AllReadyH.nil
  go_simp
  refine hK.out _ ((w10.setCell ⟨w.heap.size + 1 + 1 + 1, 0, none⟩ (.int .i64 E)).setCell ⟨w.heap.size + 1 + 1 + 1, 1, none⟩ (.int .i64 0)) ⟨rp_other (g := w.heap.size + 1 + 1 + 1) hHeld.1 (by omega) (.int .i64 E) (.int .i64 0), rp_other (g := w.heap.size + 1 + 1 + 1) hHeld.2 (by omega) (.int .i64 E) (.int .i64 0)⟩ (fun hHeld => ?_)
  clear hK K
  (try simp only [Act.put, List.setIfInBounds_toArray, List.set_cons_zero, List.set_cons_succ])
  have HT2 := Lib.hid (rp_other HQ2.out (show w.heap.size + 1 + 1 + 1 ≠ w.heap.size + 1 + 1 by omega) (.int .i64 E) (.int .i64 0))
  have HT3 := Lib.hid (rp_put HQ3.out rfl (.int .i64 E) (.int .i64 0))
  have HTB := Lib.hid (rp_below HQB.out (show w.heap.size ≤ w.heap.size + 1 + 1 + 1 by omega) (.int .i64 E) (.int .i64 0))
  clear z0 z1 e0 e1 HQ2 HQ3 HQB hHeld
  generalize ((w10.setCell ⟨w.heap.size + 1 + 1 + 1, 0, none⟩ (.int .i64 E)).setCell ⟨w.heap.size + 1 + 1 + 1, 1, none⟩ (.int .i64 0)) = w11 at HT2 HT3 HTB ⊢
  refine wpAnyH_done (by kernel_rfl) ?_ _
  go_wp2
  refine bodyPost_ret (results_two (p := 4) (q := 5) (ty := 36) (tz := 40) rfl _ _ (w.heap.size + 1 + 1) (w.heap.size + 1 + 1 + 1) _ _ _ _ (0, 0) _ _ rfl HT2.out Tryd.underlying36 rfl (by kernel_rfl) rfl HT3.out Tryd.underlying40 rfl (by kernel_rfl)) rfl ?_
  exact ⟨some ad, c, some bd, d, rfl, HS.out.below HTB.out, HTB.out⟩


set_option maxRecDepth 100000 in
set_option maxHeartbeats 4000000 in
theorem lawop_void_ok (s : St) (X Y : Value) (A : Option Addr) (c : Nat) (B : Option Addr) (d : Nat) (r : Rq) (w : World) (hs : StAt w s X Y A c B d) (hX : IsSl X) (hY : IsSl Y) (hl9 : 9 ≤ s.acs.length) (hl64 : s.acs.length ≤ 64) (hp64 : s.pys.length ≤ 2000000) (hh : HasErr w) (h0 : r.op = 5) (hc : 0 ≤ r.a ∧ r.a < (s.pys.length : Int)) (hP : payE (pyAt s.pys r.a) 5 r.amt = 0) (hE : relE s.acs (pyAt s.pys r.a).frm (leftP (pyAt s.pys r.a)) = 0) :
    Calls Tryd.prog 9 #[stV s X Y A c B d, r.val] w (OpRes w ⟨relL s.acs (pyAt s.pys r.a).frm (leftP (pyAt s.pys r.a)), s.pys.set r.a.toNat (payP (pyAt s.pys r.a) 5 r.amt), s.now⟩ X Y 0 0) := by
  obtain ⟨zs, ps, now⟩ := s
  obtain ⟨k, o, a, b, m, l, u⟩ := r
  obtain ⟨SA, sn, sc, rfl⟩ := hX
  obtain ⟨KA, kn, kc, rfl⟩ := hY
  obtain ⟨ad, rfl, _⟩ := hs.accs (by omega)
  have HS := Lib.hid hs
  dsimp only at h0 hc hP hE hl9 hl64 hp64 ⊢
  obtain ⟨n, hn⟩ : ∃ n, zs.length = n := ⟨_, rfl⟩
  obtain ⟨q, hq⟩ : ∃ q, ps.length = q := ⟨_, rfl⟩
  have HN := Lib.hid hn
  have HQ := Lib.hid hq
  unfold OpRes stV Rq.val
  dsimp only
  subst h0
  obtain ⟨j, rfl⟩ : ∃ j : Nat, a = (j : Int) := ⟨a.toNat, by omega⟩
  obtain ⟨⟨pf, pd, pa, pc, pr, pg, pt, pst⟩, hpy⟩ : ∃ p, ps[j]? = some p := ⟨_, List.getElem?_eq_getElem (by omega)⟩
  obtain ⟨bd, rfl, _⟩ := HS.out.pays.at_ hpy
  simp only [pyAt_at hpy] at hP hE ⊢
  (try simp only [Int.toNat_natCast])
  obtain ⟨⟨qf, qd, qa, qc, qr, qg, qt, qs⟩, hpq⟩ : ∃ p', payP ⟨pf, pd, pa, pc, pr, pg, pt, pst⟩ 5 m = p' := ⟨_, rfl⟩
  (try simp only [hpq])
  have HPQ := Lib.hid hpq
  clear hpq
  have HPY := Lib.hid hpy
  clear hpy
  obtain ⟨lf, hlf⟩ : ∃ lf, leftP ⟨pf, pd, pa, pc, pr, pg, pt, pst⟩ = lf := ⟨_, rfl⟩
  simp only [hlf] at hE ⊢
  have HLF := Lib.hid hlf
  clear hlf
  (try simp only [hn, hq] at hc hP hE hl9 hl64 hp64)
  simp only [hn, hq]
  clear hs hn hq
  go_enter Tryd.func9, Tryd.ntmps9
  go_upto_region 40 with (at_builtin; first
    | (refine wpList_append_accs _ rfl (.const (.slice none 0 0)) (.tmp 24) rfl (w.heap.size + 5) (.slice none 0 0) [] zs rfl OwnA.nil ad n c rfl HN.out (HS.out.accs.below (w5_below w _ _)) (by simp) (by omega) (by simp) ?_
       intro v1 w1 ho1 hg1
       have F1 := Lib.hid ((w5_five w (stC (some ad) n c (some bd) q d (.slice SA sn sc) (.slice KA kn kc) now) (rqC k 5 (j : Int) b m l u)).grown hg1 (fun g h => by cases h))
       rw [List.nil_append] at ho1
       obtain ⟨A1, d1, hv1, _, _, _, _⟩ := ho1.form
       rw [HN.out] at hv1
       subst hv1
       have O1 := Lib.hid ho1
       have c1 := F1.out.bt.cell 0 rfl
       have f1 := F1.out.bt.loose 0
       have F2 := Lib.hid (F1.out.setT 0 (.slice A1 n d1))
       have O2 := Lib.hid (O1.out.setOther (p := ⟨w.heap.size + 1 + 1 + 1 + 1, 0, none⟩) (u := .slice A1 n d1) (fun g hg => by have := O1.out.rowLt g hg; dsimp only; omega))
       have c2 := F2.out.bs.cell 1 rfl
       have hz2 : w.heap.size + 5 ≤ w1.heap.size := F1.out.size
       clear ho1 hg1 O1 F1)
    | (refine wpList_append_new pays 32 Tryd.underlying32 info_pay rfl _ rfl (.const (.slice none 0 0)) (.tmp 28) rfl (w.heap.size + 5) ps rfl (some bd) q d rfl HQ.out (HS.out.pays.below F2.out.below) (by omega) (by omega) (by simp; omega) ?_
       intro v2 w2 ho2 hg2 hf2
       obtain ⟨A2, d2, hv2, _, _, _, _⟩ := ho2.form
       rw [HQ.out] at hv2
       subst hv2
       have F3 := Lib.hid (F2.out.grown hg2 (fun g h => by cases h))
       have O3 := Lib.hid (O2.out.same (w' := w2) (fun g hg => hg2.block g (World.ownsRow.lt O2.out g hg).2 (by nofun)))
       have P3 := Lib.hid ho2
       have c3 := F3.out.bt.cell 1 rfl
       have f3 := F3.out.bt.loose 1
       have F4 := F3.out.setT 1 (.slice A2 q d2)
       have HPRE := Lib.hid (show Pre w (w2.setCell ⟨w.heap.size + 1 + 1 + 1 + 1, 1, none⟩ (.slice A2 q d2)) ⟨zs, ps, now⟩ (.slice SA sn sc) (.slice KA kn kc) (some ad) c (some bd) d (stC (some ad) n c (some bd) q d (.slice SA sn sc) (.slice KA kn kc) now) (rqC k 5 (j : Int) b m l u) (.slice A1 n d1) (.slice A2 q d2) now from
         ⟨F4, O3.out.setOther (fun g hg => by have := O3.out.rowLt g hg; dsimp only; omega), P3.out.setOther (fun g hg => by have := P3.out.rowLt g hg; dsimp only; omega), HS.out.below F4.below,
          fun g h1 h2 => by have h3 := (World.ownsRow.lt O2.out g h1).2; have h4 := hf2 g h2; omega⟩)
       have cr := HPRE.out.five.br.cell 1 rfl
       clear ho2 hg2 hf2 F3 F4 O3 P3 F2 O2 c2))
  clear c1 f1 c3 f3 cr
  generalize w2.setCell ⟨w.heap.size + 1 + 1 + 1 + 1, 1, none⟩ (.slice A2 q d2) = W at HPRE ⊢
  have HF := Lib.hid HPRE.out.five
  obtain ⟨x0, x1, x2, x3, x4⟩ := (show _ ∧ _ ∧ _ ∧ _ ∧ _ from ⟨HF.out.bs.cell 0 rfl, HF.out.bs.cell 1 rfl, HF.out.bs.cell 2 rfl, HF.out.bs.cell 3 rfl, HF.out.bs.cell 4 rfl⟩)
  obtain ⟨r0, r1, r2, r3, r4, r5, r6⟩ := (show _ ∧ _ ∧ _ ∧ _ ∧ _ ∧ _ ∧ _ from ⟨HF.out.br.cell 0 rfl, HF.out.br.cell 1 rfl, HF.out.br.cell 2 rfl, HF.out.br.cell 3 rfl, HF.out.br.cell 4 rfl, HF.out.br.cell 5 rfl, HF.out.br.cell 6 rfl⟩)
  obtain ⟨_, e1, hat⟩ := HPRE.out.st.pays.at_ HPY.out
  obtain rfl := Option.some.inj e1
  obtain ⟨p0, p1, p2, p3, p4, p5, p6, p7⟩ := pay_cells hat
  dsimp only at p0 p1 p2 p3 p4 p5 p6 p7
  have qa : decide ((j : Int) < 0) = false := decide_eq_false (by omega)
  have hjq : j < q := by omega
  have hzr : w.heap.size + 1 < W.heap.size := HF.out.br.lt
  have hzs : w.heap.size < W.heap.size := HF.out.bs.lt
  have HDO := Lib.hid (fun Wx => do_any ⟨pf, pd, pa, pc, pr, pg, pt, pst⟩ 5 m Wx)
  unfold PayRes payR at HDO
  rw [hP, if_pos rfl, HPQ.out, errV, if_pos rfl] at HDO
  unfold Py.val at HDO
  dsimp only at HDO
  go_upto_region 51 with (first | (go_at_call 25; refine (HDO.out _).mono ?_; rintro _ w6 ⟨rfl, hb6⟩; have HB6 := Lib.hid (((Below.refl W.heap.size W).alloc (Nat.le_refl _) (.cells #[.int .i64 pf, .int .i64 pd, .int .i64 pa, .int .i64 pc, .int .i64 pr, .int .i64 pg, .int .i64 pt, .int .i64 pst] 47)).trans (hb6.mono (by simp))); have HF6 := Lib.hid (HF.out.later HB6.out); have HPB := Lib.hid ((Blk.new W 47 #[.int .i64 pf, .int .i64 pd, .int .i64 pa, .int .i64 pc, .int .i64 pr, .int .i64 pg, .int .i64 pt, .int .i64 pst]).later hb6); clear hb6))
  clear x0 x1 x2 x3 x4 r0 r1 r2 r3 r4 r5 r6 p0 p1 p2 p3 p4 p5 p6 p7 qa
  have HV7 := Lib.hid (show Sev w (w6.alloc (.cells #[.int .i64 qf, .int .i64 qd, .int .i64 qa, .int .i64 qc, .int .i64 qr, .int .i64 qg, .int .i64 qt, .int .i64 qs] 47)) (stC (some ad) n c (some bd) q d (.slice SA sn sc) (.slice KA kn kc) now) (rqC k 5 (j : Int) b m l u) #[.slice A1 n d1, .slice A2 q d2, .slice SA sn sc, .slice KA kn kc, .int .i64 now] W.heap.size #[.int .i64 pf, .int .i64 pd, .int .i64 pa, .int .i64 pc, .int .i64 pr, .int .i64 pg, .int .i64 pt, .int .i64 pst] w6.heap.size #[.int .i64 qf, .int .i64 qd, .int .i64 qa, .int .i64 qc, .int .i64 qr, .int .i64 qg, .int .i64 qt, .int .i64 qs] (.slice A2 q d2) ps W.heap.size from ⟨HF6.out.alloc _, HPB.out.more _, Blk.new w6 _ _, (HPRE.out.op.below HB6.out).alloc _, Nat.le_refl _, HB6.out.size, fun g hg => (World.ownsRow.lt HPRE.out.op g hg).2, HF.out.size, by have := HB6.out.size; simp; omega⟩)
  have HB7 := Lib.hid (HB6.out.alloc HB6.out.size (.cells #[.int .i64 qf, .int .i64 qd, .int .i64 qa, .int .i64 qc, .int .i64 qr, .int .i64 qg, .int .i64 qt, .int .i64 qs] 47))
  clear HF6 HPB HB6
  generalize w6.alloc (.cells #[.int .i64 qf, .int .i64 qd, .int .i64 qa, .int .i64 qc, .int .i64 qr, .int .i64 qg, .int .i64 qt, .int .i64 qs] 47) = w7 at HV7 HB7 ⊢
  generalize w6.heap.size = gq at HV7 ⊢
  obtain ⟨x0, x1, x2, x3, x4⟩ := (show _ ∧ _ ∧ _ ∧ _ ∧ _ from ⟨HV7.out.five.bs.cell 0 rfl, HV7.out.five.bs.cell 1 rfl, HV7.out.five.bs.cell 2 rfl, HV7.out.five.bs.cell 3 rfl, HV7.out.five.bs.cell 4 rfl⟩)
  obtain ⟨r0, r1, r2, r3, r4, r5, r6⟩ := (show _ ∧ _ ∧ _ ∧ _ ∧ _ ∧ _ ∧ _ from ⟨HV7.out.five.br.cell 0 rfl, HV7.out.five.br.cell 1 rfl, HV7.out.five.br.cell 2 rfl, HV7.out.five.br.cell 3 rfl, HV7.out.five.br.cell 4 rfl, HV7.out.five.br.cell 5 rfl, HV7.out.five.br.cell 6 rfl⟩)
  obtain ⟨p0, p1, p2, p3, p4, p5, p6, p7⟩ := (show _ ∧ _ ∧ _ ∧ _ ∧ _ ∧ _ ∧ _ ∧ _ from ⟨HV7.out.bp.cell 0 rfl, HV7.out.bp.cell 1 rfl, HV7.out.bp.cell 2 rfl, HV7.out.bp.cell 3 rfl, HV7.out.bp.cell 4 rfl, HV7.out.bp.cell 5 rfl, HV7.out.bp.cell 6 rfl, HV7.out.bp.cell 7 rfl⟩)
  have HLE := Lib.hid (fun Wx => left_any ⟨pf, pd, pa, pc, pr, pg, pt, pst⟩ Wx)
  unfold IntRes Py.val at HLE
  dsimp only at HLE
  rw [HLF.out] at HLE
  have HRL := Lib.hid (fun Wx (hb : Below W.heap.size W Wx) => release_any (some ad) n c zs pf lf Wx HN.out (HPRE.out.st.accs.below hb) (by omega) (fun h => by cases h))
  unfold LedRes at HRL
  rw [hE, errV, if_pos rfl] at HRL
  obtain ⟨n7, hn7⟩ : ∃ n7, (relL zs pf lf).length = n7 := ⟨_, rfl⟩
  have HL7 := Lib.hid hn7
  clear hn7
  go_upto_region 52 with fail
  clear x0 x1 x2 x3 x4 r0 r1 r2 r3 r4 r5 r6 p0 p1 p2 p3 p4 p5 p6 p7
  refine wp_region_held_drew (S := fun w' => Below w7.heap.size w7 w') (by kernel_rfl) (Below.refl _ _).drew (fun hHeld => ?_)
  refine take_at 0 239 (v := ?_) rfl rfl (by kernel_rfl) (by kernel_rfl) (by kernel_rfl) (fun _ _ _ h => h) (Or.inl ⟨by rfl, ?_⟩) (by assumption) ?_
  rotate_left
  · intro w' hSw
    go_simp
    (try with_reducible rfl)
  (try simp only [Act.put, List.setIfInBounds_toArray, List.set_cons_zero, List.set_cons_succ])
  refine take_at 1 240 (v := ?_) rfl rfl (by kernel_rfl) (by kernel_rfl) (by kernel_rfl) (fun _ _ _ h => h) (Or.inl ⟨by rfl, ?_⟩) (by assumption) ?_
  rotate_left
  · intro w' hSw
    have hSw' := hSw
    (try dsimp only at hSw')
    have x0 := (HV7.out.later hSw').five.bs.cell 0 rfl
    go_simp
    (try with_reducible rfl)
  (try simp only [Act.put, List.setIfInBounds_toArray, List.set_cons_zero, List.set_cons_succ])
  refine take_at 2 241 (v := ?_) rfl rfl (by kernel_rfl) (by kernel_rfl) (by kernel_rfl) (fun _ _ _ h => h) (Or.inl ⟨by rfl, ?_⟩) (by assumption) ?_
  rotate_left
  · intro w' hSw
    go_simp
    (try with_reducible rfl)
  (try simp only [Act.put, List.setIfInBounds_toArray, List.set_cons_zero, List.set_cons_succ])
  refine take_at 3 242 (v := ?_) rfl rfl (by kernel_rfl) (by kernel_rfl) (by kernel_rfl) (fun _ _ _ h => h) (Or.inl ⟨by rfl, ?_⟩) (by assumption) ?_
  rotate_left
  · intro w' hSw
    have hSw' := hSw
    (try dsimp only at hSw')
    have p0 := (HV7.out.later hSw').bp.cell 0 rfl
    go_simp
    (try with_reducible rfl)
  (try simp only [Act.put, List.setIfInBounds_toArray, List.set_cons_zero, List.set_cons_succ])
  refine take_at 4 243 (v := ?_) rfl rfl (by kernel_rfl) (by kernel_rfl) (by kernel_rfl) (fun _ _ _ h => h) (Or.inl ⟨by rfl, ?_⟩) (by assumption) ?_
  rotate_left
  · intro w' hSw
    have hSw' := hSw
    (try dsimp only at hSw')
    obtain ⟨m0, m1, m2, m3, m4, m5, m6, m7⟩ := (show _ ∧ _ ∧ _ ∧ _ ∧ _ ∧ _ ∧ _ ∧ _ from ⟨(HV7.out.later hSw').bp.cell 0 rfl, (HV7.out.later hSw').bp.cell 1 rfl, (HV7.out.later hSw').bp.cell 2 rfl, (HV7.out.later hSw').bp.cell 3 rfl, (HV7.out.later hSw').bp.cell 4 rfl, (HV7.out.later hSw').bp.cell 5 rfl, (HV7.out.later hSw').bp.cell 6 rfl, (HV7.out.later hSw').bp.cell 7 rfl⟩)
    go_simp
    (try with_reducible rfl)
  (try simp only [Act.put, List.setIfInBounds_toArray, List.set_cons_zero, List.set_cons_succ])
  refine wpAnyH_ready (rs := [5]) (by kernel_rfl) (by simp) ?_
  refine AllReadyH.cons (i := 5) rfl (fun K hK => ?_) AllReadyH.nil
  go_simp
  go_at_call 16
  refine (HLE.out _).mono ?_
  rintro _ w8 ⟨rfl, hb8⟩
  have hb8' : Below w7.heap.size w7 w8 := (Below.refl w7.heap.size w7).drew.trans hb8
  clear hb8
  refine hK.out _ _ hb8' (fun hHeld => ?_)
  clear hK K
  (try simp only [Act.put, List.setIfInBounds_toArray, List.set_cons_zero, List.set_cons_succ])
  refine wpAnyH_ready (rs := [6]) (by kernel_rfl) (by simp) ?_
  refine AllReadyH.cons (i := 6) rfl (fun K hK => ?_) AllReadyH.nil
  go_simp
  go_at_call 26
  refine (HRL.out _ (HB7.out.trans (hb8'.mono HB7.out.size))).mono ?_
  rintro _ w9 ⟨v9, rfl, ho9, hb9⟩
  have hb9' : Below w7.heap.size w7 w9 := hb8'.trans (hb9.mono hb8'.size)
  obtain ⟨A7, c7, hv9, _, _, _, _⟩ := ho9.form
  rw [HL7.out] at hv9
  subst hv9
  have HA9 := Lib.hid (ho9.less (Nat.le_trans HB7.out.size hb8'.size))
  clear hb9 ho9
  refine hK.out _ _ hb9' (fun hHeld => ?_)
  clear hK K
  (try simp only [Act.put, List.setIfInBounds_toArray, List.set_cons_zero, List.set_cons_succ])
  refine take_at 7 238 (v := ?_) rfl rfl (by kernel_rfl) (by kernel_rfl) (by kernel_rfl) (fun _ _ _ h => h) (Or.inl ⟨by rfl, ?_⟩) (by assumption) ?_
  rotate_left
  · intro w' hSw
    go_simp
    (try with_reducible rfl)
  (try simp only [Act.put, List.setIfInBounds_toArray, List.set_cons_zero, List.set_cons_succ])
  refine take_at 8 246 (v := ?_) rfl rfl (by kernel_rfl) (by kernel_rfl) (by kernel_rfl) (fun _ _ _ h => h) (Or.inl ⟨by rfl, ?_⟩) (by assumption) ?_
  rotate_left
  · intro w' hSw
    go_simp
    (try with_reducible rfl)
  (try simp only [Act.put, List.setIfInBounds_toArray, List.set_cons_zero, List.set_cons_succ])
  refine take_at 9 247 (v := ?_) rfl rfl (by kernel_rfl) (by kernel_rfl) (by kernel_rfl) (fun _ _ _ h => h) (Or.inl ⟨by rfl, ?_⟩) (by assumption) ?_
  rotate_left
  · intro w' hSw
    go_simp
    (try with_reducible rfl)
  (try simp only [Act.put, List.setIfInBounds_toArray, List.set_cons_zero, List.set_cons_succ])
  refine take_at 10 18 (v := ?_) rfl rfl (by kernel_rfl) (by kernel_rfl) (by kernel_rfl) (fun _ _ _ h => h) (Or.inl ⟨by rfl, ?_⟩) (by assumption) ?_
  rotate_left
  · intro w' hSw
    go_simp
    (try with_reducible rfl)
  (try simp only [Act.put, List.setIfInBounds_toArray, List.set_cons_zero, List.set_cons_succ])
  refine take_at 11 17 (v := ?_) rfl rfl (by kernel_rfl) (by kernel_rfl) (by kernel_rfl) (fun _ _ _ h => h) (Or.inl ⟨by rfl, ?_⟩) (by assumption) ?_
  rotate_left
  · intro w' hSw
    go_simp
    (try with_reducible rfl)
  (try simp only [Act.put, List.setIfInBounds_toArray, List.set_cons_zero, List.set_cons_succ])
  refine wpAnyH_done (by kernel_rfl) ?_ _
  have HV9 := Lib.hid (HV7.out.later hb9')
  clear hHeld hb8' hb9' HV7 HB7
  go_upto_region 66 with fail
  obtain ⟨bb, dd, e2, hb5, hbw, _, _⟩ := HV9.out.op.open_ (by rw [HQ.out]; omega)
  injection e2 with e2 e3 e4
  subst e2 e4
  clear e3
  have hbb : bb < W.heap.size := HV9.out.far bb rfl
  have hgq := HV9.out.gq_
  have hlo := HV9.out.lo
  have t0 := HV9.out.five.bt.cell 0 rfl
  have l0 := HV9.out.five.bt.loose 0
  refine wp_region_held_drew (S := fun w' => w'.cell? ⟨w.heap.size + 1 + 1 + 1 + 1, 1, none⟩ = some (.slice (some ⟨bb, 0, none⟩) q d2) ∧ Blk w' (w.heap.size + 1) 29 (rqC k 5 (j : Int) b m l u) ∧ Blk w' gq 47 #[.int .i64 qf, .int .i64 qd, .int .i64 qa, .int .i64 qc, .int .i64 qr, .int .i64 qg, .int .i64 qt, .int .i64 qs]) (by kernel_rfl) ⟨HV9.out.five.bt.drew.cell 1 rfl, HV9.out.five.br.drew, HV9.out.bq.drew⟩ (fun hHeld => ?_)
  refine take_at 0 342 (v := ?_) rfl rfl (by kernel_rfl) (by kernel_rfl) (by kernel_rfl) (fun _ _ _ h => h) (Or.inl ⟨by rfl, ?_⟩) (by assumption) ?_
  rotate_left
  · intro w' hSw
    go_simp
    (try with_reducible rfl)
  (try simp only [Act.put, List.setIfInBounds_toArray, List.set_cons_zero, List.set_cons_succ])
  refine take_at 1 343 (v := ?_) rfl rfl (by kernel_rfl) (by kernel_rfl) (by kernel_rfl) (fun _ _ _ h => h) (Or.inl ⟨by rfl, ?_⟩) (by assumption) ?_
  rotate_left
  · intro w' hSw
    have hSw' := hSw
    (try dsimp only at hSw')
    have c1 := hSw'.1
    go_simp
    (try with_reducible rfl)
  (try simp only [Act.put, List.setIfInBounds_toArray, List.set_cons_zero, List.set_cons_succ])
  refine take_at 2 344 (v := ?_) rfl rfl (by kernel_rfl) (by kernel_rfl) (by kernel_rfl) (fun _ _ _ h => h) (Or.inl ⟨by rfl, ?_⟩) (by assumption) ?_
  rotate_left
  · intro w' hSw
    go_simp
    (try with_reducible rfl)
  (try simp only [Act.put, List.setIfInBounds_toArray, List.set_cons_zero, List.set_cons_succ])
  refine take_at 3 345 (v := ?_) rfl rfl (by kernel_rfl) (by kernel_rfl) (by kernel_rfl) (fun _ _ _ h => h) (Or.inl ⟨by rfl, ?_⟩) (by assumption) ?_
  rotate_left
  · intro w' hSw
    have hSw' := hSw
    (try dsimp only at hSw')
    have c2 := hSw'.2.1.cell 2 rfl
    go_simp
    (try with_reducible rfl)
  (try simp only [Act.put, List.setIfInBounds_toArray, List.set_cons_zero, List.set_cons_succ])
  refine take_at 4 346 (v := ?_) rfl rfl (by kernel_rfl) (by kernel_rfl) (by kernel_rfl) (fun _ _ _ h => h) (Or.inl ⟨by rfl, ?_⟩) (by assumption) ?_
  rotate_left
  · intro w' hSw
    go_simp
    (try with_reducible rfl)
  (try simp only [Act.put, List.setIfInBounds_toArray, List.set_cons_zero, List.set_cons_succ])
  refine take_at 5 347 (v := ?_) rfl rfl (by kernel_rfl) (by kernel_rfl) (by kernel_rfl) (fun _ _ _ h => h) (Or.inl ⟨by rfl, ?_⟩) (by assumption) ?_
  rotate_left
  · intro w' hSw
    have hSw' := hSw
    (try dsimp only at hSw')
    obtain ⟨m0, m1, m2, m3, m4, m5, m6, m7⟩ := (show _ ∧ _ ∧ _ ∧ _ ∧ _ ∧ _ ∧ _ ∧ _ from ⟨hSw'.2.2.cell 0 rfl, hSw'.2.2.cell 1 rfl, hSw'.2.2.cell 2 rfl, hSw'.2.2.cell 3 rfl, hSw'.2.2.cell 4 rfl, hSw'.2.2.cell 5 rfl, hSw'.2.2.cell 6 rfl, hSw'.2.2.cell 7 rfl⟩)
    go_simp
    (try with_reducible rfl)
  (try simp only [Act.put, List.setIfInBounds_toArray, List.set_cons_zero, List.set_cons_succ])
  refine take_at 6 348 (v := ?_) rfl rfl (by kernel_rfl) (by kernel_rfl) (by kernel_rfl) (fun _ _ _ h => h) (Or.inl ⟨by rfl, ?_⟩) (by assumption) ?_
  rotate_left
  · intro w' hSw
    go_simp
    (try with_reducible rfl)
  (try simp only [Act.put, List.setIfInBounds_toArray, List.set_cons_zero, List.set_cons_succ])
  refine wpAnyH_ready (rs := [7]) (by kernel_rfl) (by simp) ?_
  refine AllReadyH.cons (i := 7) rfl (fun K hK => ?_) AllReadyH.nil
  go_simp
  refine hK.out _ (w9.drew.setCell ⟨w.heap.size + 1 + 1 + 1 + 1, 0, none⟩ (.slice A7 n7 c7)) ⟨(HV9.out.five.bt.drew.set 0 (.slice A7 n7 c7)).cell 1 rfl, HV9.out.five.br.drew.setOther (by omega) 0 (.slice A7 n7 c7), HV9.out.bq.drew.setOther (by omega) 0 (.slice A7 n7 c7)⟩ (fun hHeld => ?_)
  clear hK K
  (try simp only [Act.put, List.setIfInBounds_toArray, List.set_cons_zero, List.set_cons_succ])
  have HV10 := Lib.hid (HV9.out.drew.setT 0 (.slice A7 n7 c7))
  have HA10 := Lib.hid (HA9.out.drew.setOther (p := ⟨w.heap.size + 1 + 1 + 1 + 1, 0, none⟩) (u := .slice A7 n7 c7) (fun g hg => by have := HA9.out.rowLt g hg; dsimp only; omega))
  clear t0 l0 HV9 HA9
  generalize w9.drew.setCell ⟨w.heap.size + 1 + 1 + 1 + 1, 0, none⟩ (.slice A7 n7 c7) = w10 at HV10 HA10 hHeld ⊢
  obtain ⟨e0, e1, e2, e3, e4, e5, e6, e7⟩ := pays_at HV10.out.op HPY.out
  dsimp only at e0 e1 e2 e3 e4 e5 e6 e7
  obtain ⟨f0, f1, f2, f3, f4, f5, f6, f7⟩ := (show _ ∧ _ ∧ _ ∧ _ ∧ _ ∧ _ ∧ _ ∧ _ from ⟨HV10.out.op.unfrozen HQ.out.symm (j * 8), HV10.out.op.unfrozen HQ.out.symm (j * 8 + 1), HV10.out.op.unfrozen HQ.out.symm (j * 8 + 2), HV10.out.op.unfrozen HQ.out.symm (j * 8 + 3), HV10.out.op.unfrozen HQ.out.symm (j * 8 + 4), HV10.out.op.unfrozen HQ.out.symm (j * 8 + 5), HV10.out.op.unfrozen HQ.out.symm (j * 8 + 6), HV10.out.op.unfrozen HQ.out.symm (j * 8 + 7)⟩)
  refine take_at 8 349 (v := ?_) rfl rfl (by kernel_rfl) (by kernel_rfl) (by kernel_rfl) (fun _ _ _ h => h) (Or.inl ⟨by rfl, ?_⟩) (by assumption) ?_
  rotate_left
  · intro w' hSw
    go_simp
    (try with_reducible rfl)
  (try simp only [Act.put, List.setIfInBounds_toArray, List.set_cons_zero, List.set_cons_succ])
  refine wpAnyH_ready (rs := [9]) (by kernel_rfl) (by simp) ?_
  refine AllReadyH.cons (i := 9) rfl (fun K hK => ?_) AllReadyH.nil
  go_simp
  refine hK.out _ ((((((((w10.setCell ⟨bb, j * 8, none⟩ (.int .i64 qf)).setCell ⟨bb, j * 8 + 1, none⟩ (.int .i64 qd)).setCell ⟨bb, j * 8 + 2, none⟩ (.int .i64 qa)).setCell ⟨bb, j * 8 + 3, none⟩ (.int .i64 qc)).setCell ⟨bb, j * 8 + 4, none⟩ (.int .i64 qr)).setCell ⟨bb, j * 8 + 5, none⟩ (.int .i64 qg)).setCell ⟨bb, j * 8 + 6, none⟩ (.int .i64 qt)).setCell ⟨bb, j * 8 + 7, none⟩ (.int .i64 qs)) ⟨(py_other HV10.out.five.bt (by omega) (.int .i64 qf) (.int .i64 qd) (.int .i64 qa) (.int .i64 qc) (.int .i64 qr) (.int .i64 qg) (.int .i64 qt) (.int .i64 qs)).cell 1 rfl, py_other HV10.out.five.br (by omega) (.int .i64 qf) (.int .i64 qd) (.int .i64 qa) (.int .i64 qc) (.int .i64 qr) (.int .i64 qg) (.int .i64 qt) (.int .i64 qs), py_other HV10.out.bq (by omega) (.int .i64 qf) (.int .i64 qd) (.int .i64 qa) (.int .i64 qc) (.int .i64 qr) (.int .i64 qg) (.int .i64 qt) (.int .i64 qs)⟩ (fun hHeld => ?_)
  clear hK K
  (try simp only [Act.put, List.setIfInBounds_toArray, List.set_cons_zero, List.set_cons_succ])
  refine wpAnyH_done (by kernel_rfl) ?_ _
  have HF11 := Lib.hid (HV10.out.five.py (i0 := j * 8) (i1 := j * 8 + 1) (i2 := j * 8 + 2) (i3 := j * 8 + 3) (i4 := j * 8 + 4) (i5 := j * 8 + 5) (i6 := j * 8 + 6) (i7 := j * 8 + 7) hb5 (.int .i64 qf) (.int .i64 qd) (.int .i64 qa) (.int .i64 qc) (.int .i64 qr) (.int .i64 qg) (.int .i64 qt) (.int .i64 qs))
  have HP11 := Lib.hid (pays_put (y := ⟨qf, qd, qa, qc, qr, qg, qt, qs⟩) HV10.out.op HQ.out.symm HPY.out)
  dsimp only at HP11
  have HA11 := Lib.hid (OwnA.less (py_ownA (i0 := j * 8) (i1 := j * 8 + 1) (i2 := j * 8 + 2) (i3 := j * 8 + 3) (i4 := j * 8 + 4) (i5 := j * 8 + 5) (i6 := j * 8 + 6) (i7 := j * 8 + 7) HA10.out hbb (.int .i64 qf) (.int .i64 qd) (.int .i64 qa) (.int .i64 qc) (.int .i64 qr) (.int .i64 qg) (.int .i64 qt) (.int .i64 qs)) hlo)
  clear hHeld HV10 HA10 e0 e1 e2 e3 e4 e5 e6 e7 f0 f1 f2 f3 f4 f5 f6 f7
  generalize ((((((((w10.setCell ⟨bb, j * 8, none⟩ (.int .i64 qf)).setCell ⟨bb, j * 8 + 1, none⟩ (.int .i64 qd)).setCell ⟨bb, j * 8 + 2, none⟩ (.int .i64 qa)).setCell ⟨bb, j * 8 + 3, none⟩ (.int .i64 qc)).setCell ⟨bb, j * 8 + 4, none⟩ (.int .i64 qr)).setCell ⟨bb, j * 8 + 5, none⟩ (.int .i64 qg)).setCell ⟨bb, j * 8 + 6, none⟩ (.int .i64 qt)).setCell ⟨bb, j * 8 + 7, none⟩ (.int .i64 qs)) = w11 at HF11 HP11 HA11 ⊢
  obtain ⟨x0, x1, x2, x3, x4⟩ := (show _ ∧ _ ∧ _ ∧ _ ∧ _ from ⟨HF11.out.bs.cell 0 rfl, HF11.out.bs.cell 1 rfl, HF11.out.bs.cell 2 rfl, HF11.out.bs.cell 3 rfl, HF11.out.bs.cell 4 rfl⟩)
  obtain ⟨y0, y1, y2, y3, y4⟩ := (show _ ∧ _ ∧ _ ∧ _ ∧ _ from ⟨HF11.out.b2.cell 0 rfl, HF11.out.b2.cell 1 rfl, HF11.out.b2.cell 2 rfl, HF11.out.b2.cell 3 rfl, HF11.out.b2.cell 4 rfl⟩)
  obtain ⟨f0, f1, f2, f3, f4⟩ := (show _ ∧ _ ∧ _ ∧ _ ∧ _ from ⟨HF11.out.b2.loose 0, HF11.out.b2.loose 1, HF11.out.b2.loose 2, HF11.out.b2.loose 3, HF11.out.b2.loose 4⟩)
  obtain ⟨z0, z1⟩ := (show _ ∧ _ from ⟨HF11.out.b3.cell 0 rfl, HF11.out.b3.cell 1 rfl⟩)
  obtain ⟨e0, e1⟩ := (show _ ∧ _ from ⟨HF11.out.b3.loose 0, HF11.out.b3.loose 1⟩)
  obtain ⟨t0, t1, t2, t3, t4⟩ := (show _ ∧ _ ∧ _ ∧ _ ∧ _ from ⟨HF11.out.bt.cell 0 rfl, HF11.out.bt.cell 1 rfl, HF11.out.bt.cell 2 rfl, HF11.out.bt.cell 3 rfl, HF11.out.bt.cell 4 rfl⟩)
  go_wp2
  have HT := told_at HF11.out.b2 HF11.out.b3 rfl rfl (by omega) (.slice A7 n7 c7) (.slice (some ⟨bb, 0, none⟩) q d2) (.slice SA sn sc) (.slice KA kn kc) (.int .i64 now) (.int .i64 0) (.int .i64 0)
  have HBT := told_below HF11.out.below (show w.heap.size ≤ w.heap.size + 1 + 1 by omega) (show w.heap.size ≤ w.heap.size + 1 + 1 + 1 by omega) (.slice A7 n7 c7) (.slice (some ⟨bb, 0, none⟩) q d2) (.slice SA sn sc) (.slice KA kn kc) (.int .i64 now) (.int .i64 0) (.int .i64 0)
  refine bodyPost_ret (results_two (p := 4) (q := 5) (ty := 36) (tz := 40) rfl _ _ (w.heap.size + 1 + 1) (w.heap.size + 1 + 1 + 1) _ _ _ _ (0, 0) _ _ rfl HT.1 Tryd.underlying36 rfl (by kernel_rfl) rfl HT.2 Tryd.underlying40 rfl (by kernel_rfl)) rfl ?_
  exact ⟨A7, c7, some ⟨bb, 0, none⟩, d2, by rw [HL7.out, List.length_set, HQ.out], st_own (rp_ownA (st_ownA HA11.out (show w.heap.size + 1 + 1 < w.heap.size + 5 by omega) (.slice A7 n7 c7) (.slice (some ⟨bb, 0, none⟩) q d2) (.slice SA sn sc) (.slice KA kn kc) (.int .i64 now)) (show w.heap.size + 1 + 1 + 1 < w.heap.size + 5 by omega) (.int .i64 0) (.int .i64 0)) (rp_ownS (st_ownS HP11.out (show w.heap.size + 1 + 1 < w.heap.size + 5 by omega) (.slice A7 n7 c7) (.slice (some ⟨bb, 0, none⟩) q d2) (.slice SA sn sc) (.slice KA kn kc) (.int .i64 now)) (show w.heap.size + 1 + 1 + 1 < w.heap.size + 5 by omega) (.int .i64 0) (.int .i64 0)) HL7.out (by rw [List.length_set]; exact HQ.out), HBT⟩

end Go.Proofs.YtjnmppdohglcaaaDoor

