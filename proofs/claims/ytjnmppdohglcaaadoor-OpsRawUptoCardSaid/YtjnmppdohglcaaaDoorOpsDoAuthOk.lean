/-
  The law's do by its contract: a payment that is authorised, where nothing is wrong.
-/
import Derived.Test.YtjnmppdohglcaaaDoorGrE
import Derived.Test.YtjnmppdohglcaaaDoorOpsFive
import Derived.Test.YtjnmppdohglcaaaDoorGrB
import Derived.Test.YtjnmppdohglcaaaDoorGrC
import Derived.Test.YtjnmppdohglcaaaDoorGrH
import Derived.Test.YtjnmppdohglcaaaDoorGrA
import Derived.BigQuiet
import Derived.BigRegion
import Derived.Deep.QuietTactic
import Derived.Deep.CutRange
import Derived.Deep.RegionHeld3
import Derived.IntWalk
import Derived.WalkSpells
import Derived.Test.YtjnmppdohglcaaaDoorOpsSmall
namespace Go.Proofs.YtjnmppdohglcaaaDoor
open Go Go.RowKit
set_option linter.unusedVariables false

set_option maxRecDepth 100000 in
set_option maxHeartbeats 4000000 in
theorem lawop_auth_ok (s : St) (X Y : Value) (A : Option Addr) (c : Nat) (B : Option Addr) (d : Nat) (r : Rq) (w : World) (hs : StAt w s X Y A c B d) (hX : IsSl X) (hY : IsSl Y) (hl9 : 9 ≤ s.acs.length) (hl64 : s.acs.length ≤ 64) (hp64 : s.pys.length ≤ 2000000) (h0 : r.op = 3) (hc : isC s.acs.length r.a) (hb : isC s.acs.length r.b) (he : ¬ r.a = r.b) (ht : ¬ r.til ≤ s.now) (hf : s.pys.length < 64) (hE : holdE s.acs r.a r.amt = 0) :
    Calls Tryd.prog 9 #[stV s X Y A c B d, r.val] w (OpRes w ⟨holdL s.acs r.a r.amt, s.pys ++ [⟨r.a, r.b, r.amt, 0, 0, 0, r.til, 0⟩], s.now⟩ X Y 0 (s.pys.length : Int)) := by
  obtain ⟨zs, ps, now⟩ := s
  obtain ⟨k, o, a, b, m, l, u⟩ := r
  obtain ⟨SA, sn, sc, rfl⟩ := hX
  obtain ⟨KA, kn, kc, rfl⟩ := hY
  obtain ⟨ad, rfl, _⟩ := hs.accs (by omega)
  have HS := Lib.hid hs
  dsimp only at h0 hc hb he ht hf hE hl9 hl64 hp64 ⊢
  obtain ⟨n, hn⟩ : ∃ n, zs.length = n := ⟨_, rfl⟩
  obtain ⟨q, hq⟩ : ∃ q, ps.length = q := ⟨_, rfl⟩
  have HN := Lib.hid hn
  have HQ := Lib.hid hq
  unfold OpRes stV Rq.val
  dsimp only
  subst h0
  have HEQ := Lib.hid he
  clear he
  (try simp only [hn, hq] at hc hb ht hf hE hl9 hl64 hp64)
  simp only [hn, hq]
  clear hs hn hq
  go_enter Tryd.func9, Tryd.ntmps9
  go_upto_region 27 with (at_builtin; first
    | (refine wpList_append_accs _ rfl (.const (.slice none 0 0)) (.tmp 24) rfl (w.heap.size + 5) (.slice none 0 0) [] zs rfl OwnA.nil ad n c rfl HN.out (HS.out.accs.below (w5_below w _ _)) (by simp) (by omega) (by simp) ?_
       intro v1 w1 ho1 hg1
       have F1 := Lib.hid ((w5_five w (stC (some ad) n c B q d (.slice SA sn sc) (.slice KA kn kc) now) (rqC k 3 a b m l u)).grown hg1 (fun g h => by cases h))
       rw [List.nil_append] at ho1
       obtain ⟨A1, d1, hv1, _, _, _, _⟩ := ho1.form
       rw [HN.out] at hv1
       subst hv1
       have O1 := Lib.hid ho1
       have c1 := F1.out.bt.cell 0 rfl
       have f1 := F1.out.bt.loose 0
       have F2 := Lib.hid (F1.out.setT 0 (.slice A1 n d1))
       have O2 := Lib.hid (O1.out.setOther (p := ⟨w.heap.size + 1 + 1 + 1 + 1, 0, none⟩) (u := .slice A1 n d1) (fun g hg => by have := O1.out.rowLt g hg; dsimp only; omega))
       have c2 := F2.out.bs.cell 1 rfl
       have hz2 : w.heap.size + 5 ≤ w1.heap.size := F1.out.size
       clear ho1 hg1 O1 F1)
    | (refine wpList_append_new pays 32 Tryd.underlying32 info_pay rfl _ rfl (.const (.slice none 0 0)) (.tmp 28) rfl (w.heap.size + 5) ps rfl B q d rfl HQ.out (HS.out.pays.below F2.out.below) (by omega) (by omega) (by simp; omega) ?_
       intro v2 w2 ho2 hg2 hf2
       obtain ⟨A2, d2, hv2, _, _, _, _⟩ := ho2.form
       rw [HQ.out] at hv2
       subst hv2
       have F3 := Lib.hid (F2.out.grown hg2 (fun g h => by cases h))
       have O3 := Lib.hid (O2.out.same (w' := w2) (fun g hg => hg2.block g (World.ownsRow.lt O2.out g hg).2 (by nofun)))
       have P3 := Lib.hid ho2
       have c3 := F3.out.bt.cell 1 rfl
       have f3 := F3.out.bt.loose 1
       have F4 := F3.out.setT 1 (.slice A2 q d2)
       have HPRE := Lib.hid (show Pre w (w2.setCell ⟨w.heap.size + 1 + 1 + 1 + 1, 1, none⟩ (.slice A2 q d2)) ⟨zs, ps, now⟩ (.slice SA sn sc) (.slice KA kn kc) (some ad) c B d (stC (some ad) n c B q d (.slice SA sn sc) (.slice KA kn kc) now) (rqC k 3 a b m l u) (.slice A1 n d1) (.slice A2 q d2) now from
         ⟨F4, O3.out.setOther (fun g hg => by have := O3.out.rowLt g hg; dsimp only; omega), P3.out.setOther (fun g hg => by have := P3.out.rowLt g hg; dsimp only; omega), HS.out.below F4.below,
          fun g h1 h2 => by have h3 := (World.ownsRow.lt O2.out g h1).2; have h4 := hf2 g h2; omega⟩)
       have cr := HPRE.out.five.br.cell 1 rfl
       clear ho2 hg2 hf2 F3 F4 O3 P3 F2 O2 c2))
  clear c1 f1 c3 f3 cr
  generalize w2.setCell ⟨w.heap.size + 1 + 1 + 1 + 1, 1, none⟩ (.slice A2 q d2) = W at HPRE ⊢
  have HF := Lib.hid HPRE.out.five
  obtain ⟨x0, x1, x2, x3, x4⟩ := (show _ ∧ _ ∧ _ ∧ _ ∧ _ from ⟨HF.out.bs.cell 0 rfl, HF.out.bs.cell 1 rfl, HF.out.bs.cell 2 rfl, HF.out.bs.cell 3 rfl, HF.out.bs.cell 4 rfl⟩)
  obtain ⟨r0, r1, r2, r3, r4, r5, r6⟩ := (show _ ∧ _ ∧ _ ∧ _ ∧ _ ∧ _ ∧ _ from ⟨HF.out.br.cell 0 rfl, HF.out.br.cell 1 rfl, HF.out.br.cell 2 rfl, HF.out.br.cell 3 rfl, HF.out.br.cell 4 rfl, HF.out.br.cell 5 rfl, HF.out.br.cell 6 rfl⟩)
  have qc := decide_eq_true hc
  have qb := decide_eq_true hb
  have qe := eqF HEQ.out
  have qt := decide_eq_false ht
  have HHO := Lib.hid ((hold_any (some ad) n c zs a m W HN.out HPRE.out.st.accs (by omega) (fun h => by cases h)).mono fun e w' (h : LedRes _ _ _ _ _) => by
    obtain ⟨v, he', ho, hb'⟩ := h
    rw [hE] at he'
    exact (show ∃ v, e = .returned (.tuple #[v, errV (0)]) ∧ OwnA w' W.heap.size v (holdL zs a m) ∧ Below W.heap.size W w' from ⟨v, he', ho, hb'⟩))
  rw [errV, if_pos rfl] at HHO
  have HL7 := Lib.hid (show (holdL zs a m).length = n by rw [hold_len hE]; exact HN.out)
  go_upto_region 38 with (first | (go_at_call 21; refine (client_any _ _ _ _ _ _ _ HF.out.bs rfl).mono ?_; rintro _ _ ⟨rfl, rfl⟩) | (go_at_call 17; refine (HHO.out).mono ?_; rintro _ w7 ⟨v7, rfl, ho7, hb7⟩; obtain ⟨A7, c7, hv7, _, _, _, _⟩ := ho7.form; rw [HL7.out] at hv7; subst hv7; have HF7 := Lib.hid (HF.out.later hb7); have HA7 := Lib.hid ho7.rowLt; have HO7 := Lib.hid (ho7.less (show w.heap.size + 5 ≤ W.heap.size from HF.out.size)); have HP7 := Lib.hid (HPRE.out.op.below hb7); have t0 := HF7.out.bt.cell 0 rfl; have l0 := HF7.out.bt.loose 0; clear ho7 hb7))
  clear x0 x1 x2 x3 x4 r0 r1 r2 r3 r4 r5 r6
  have HPB := Lib.hid (fun g hg => (World.ownsRow.lt HPRE.out.op g hg).2)
  have HF8 := Lib.hid (show Five w (w7.setCell ⟨w.heap.size + 1 + 1 + 1 + 1, 0, none⟩ (.slice A7 n c7)) _ _ #[.slice A7 n c7, .slice A2 q d2, .slice SA sn sc, .slice KA kn kc, .int .i64 now] from HF7.out.setT 0 (.slice A7 n c7))
  have HO8 := Lib.hid (HO7.out.setOther (p := ⟨w.heap.size + 1 + 1 + 1 + 1, 0, none⟩) (u := .slice A7 n c7) (fun g hg => by have := HO7.out.rowLt g hg; dsimp only; omega))
  have HP8 := Lib.hid (HP7.out.setOther (p := ⟨w.heap.size + 1 + 1 + 1 + 1, 0, none⟩) (u := .slice A7 n c7) (fun g hg => by have := HP7.out.rowLt g hg; dsimp only; omega))
  clear t0 l0 HF7 HO7 HP7
  generalize w7.setCell ⟨w.heap.size + 1 + 1 + 1 + 1, 0, none⟩ (.slice A7 n c7) = w8 at HF8 HO8 HP8 ⊢
  obtain ⟨r0, r1, r2, r3, r4, r5, r6⟩ := (show _ ∧ _ ∧ _ ∧ _ ∧ _ ∧ _ ∧ _ from ⟨HF8.out.br.cell 0 rfl, HF8.out.br.cell 1 rfl, HF8.out.br.cell 2 rfl, HF8.out.br.cell 3 rfl, HF8.out.br.cell 4 rfl, HF8.out.br.cell 5 rfl, HF8.out.br.cell 6 rfl⟩)
  have t1 := HF8.out.bt.cell 1 rfl
  have hz8 := HF8.out.size
  go_upto_region 39 with (at_builtin; first
   | (refine wpList_append_rec pays 32 Tryd.underlying32 info_pay rfl _ rfl (.tmp 179) (.tmp 189) rfl (w.heap.size + 5) _ ps rfl (HP8.out.alloc _) ⟨w8.heap.size, 0, none⟩ 1 ⟨a, b, m, 0, 0, 0, u, 0⟩ rfl (AtS.new rfl) (by rw [HQ.out]; omega) (by rw [HQ.out]; omega) (by simp; omega) ?_
      intro v9 u9 ho9 hg9
      obtain ⟨A9, c9, hv9, _, _, _, _⟩ := ho9.form
      rw [List.length_append, HQ.out, List.length_singleton] at hv9
      subst hv9
      have HF9 := Lib.hid ((HF8.out.alloc _).grown hg9 HP8.out.rowLt)
      have HP9 := Lib.hid ho9
      have HO9 := Lib.hid ((HO8.out.alloc (.cells #[.int .i64 a, .int .i64 b, .int .i64 m, .int .i64 0, .int .i64 0, .int .i64 0, .int .i64 u, .int .i64 0] 47)).same (w' := u9) (fun g hg => hg9.block g (World.ownsRow.lt (HO8.out.alloc (.cells #[.int .i64 a, .int .i64 b, .int .i64 m, .int .i64 0, .int .i64 0, .int .i64 0, .int .i64 u, .int .i64 0] 47)) g hg).2 (fun e => by have h1 := HPB.out g e.symm; have h2 := HA7.out g hg; omega)))
      have t9 := HF9.out.bt.cell 1 rfl
      have l9 := HF9.out.bt.loose 1
      clear ho9 hg9 t1))
  have HF10 := Lib.hid (show Five w (u9.setCell ⟨w.heap.size + 1 + 1 + 1 + 1, 1, none⟩ (.slice A9 (q + 1) c9)) _ _ #[.slice A7 n c7, .slice A9 (q + 1) c9, .slice SA sn sc, .slice KA kn kc, .int .i64 now] from HF9.out.setT 1 (.slice A9 (q + 1) c9))
  have HO10 := Lib.hid (HO9.out.setOther (p := ⟨w.heap.size + 1 + 1 + 1 + 1, 1, none⟩) (u := .slice A9 (q + 1) c9) (fun g hg => by have := HO9.out.rowLt g hg; dsimp only; omega))
  have HP10 := Lib.hid (HP9.out.setOther (p := ⟨w.heap.size + 1 + 1 + 1 + 1, 1, none⟩) (u := .slice A9 (q + 1) c9) (fun g hg => by have := HP9.out.rowLt g hg; dsimp only; omega))
  clear t9 l9 HF9 HO9 HP9 r0 r1 r2 r3 r4 r5 r6 HF8 HO8 HP8
  generalize u9.setCell ⟨w.heap.size + 1 + 1 + 1 + 1, 1, none⟩ (.slice A9 (q + 1) c9) = u10 at HF10 HO10 HP10 ⊢
  refine wp_region_held_drew (S := fun w' => Blk w' (w.heap.size + 1 + 1 + 1 + 1) 36 #[.slice A7 n c7, .slice A9 (q + 1) c9, .slice SA sn sc, .slice KA kn kc, .int .i64 now] ∧ Blk w' w.heap.size 36 (stC (some ad) n c B q d (.slice SA sn sc) (.slice KA kn kc) now)) (by kernel_rfl) ⟨HF10.out.bt.drew, HF10.out.bs.drew⟩ (fun hHeld => ?_)
  refine take_at 0 192 (v := ?_) rfl rfl (by kernel_rfl) (by kernel_rfl) (by kernel_rfl) (fun _ _ _ h => h) (Or.inl ⟨by rfl, ?_⟩) (by assumption) ?_
  rotate_left
  · intro w' hSw
    have hSw' := hSw
    (try dsimp only at hSw')
    have c0 := hSw'.1.cell 0 rfl
    have c1 := hSw'.1.cell 1 rfl
    have c2 := hSw'.1.cell 2 rfl
    have c3 := hSw'.1.cell 3 rfl
    have c4 := hSw'.1.cell 4 rfl
    go_simp
    (try with_reducible rfl)
  (try simp only [Act.put, List.setIfInBounds_toArray, List.set_cons_zero, List.set_cons_succ])
  refine take_at 1 193 (v := ?_) rfl rfl (by kernel_rfl) (by kernel_rfl) (by kernel_rfl) (fun _ _ _ h => h) (Or.inl ⟨by rfl, ?_⟩) (by assumption) ?_
  rotate_left
  · intro w' hSw
    go_simp
    (try with_reducible rfl)
  (try simp only [Act.put, List.setIfInBounds_toArray, List.set_cons_zero, List.set_cons_succ])
  refine take_at 2 194 (v := ?_) rfl rfl (by kernel_rfl) (by kernel_rfl) (by kernel_rfl) (fun _ _ _ h => h) (Or.inl ⟨by rfl, ?_⟩) (by assumption) ?_
  rotate_left
  · intro w' hSw
    have hSw' := hSw
    (try dsimp only at hSw')
    have c1 := hSw'.2.cell 1 rfl
    go_simp
    (try with_reducible rfl)
  (try simp only [Act.put, List.setIfInBounds_toArray, List.set_cons_zero, List.set_cons_succ])
  refine take_at 3 195 (v := ?_) rfl rfl (by kernel_rfl) (by kernel_rfl) (by kernel_rfl) (fun _ _ _ h => h) (Or.inl ⟨by rfl, ?_⟩) (by assumption) ?_
  rotate_left
  · intro w' hSw
    go_simp
    (try with_reducible rfl)
  (try simp only [Act.put, List.setIfInBounds_toArray, List.set_cons_zero, List.set_cons_succ])
  refine take_at 4 196 (v := ?_) rfl rfl (by kernel_rfl) (by kernel_rfl) (by kernel_rfl) (fun _ _ _ h => h) (Or.inl ⟨by rfl, ?_⟩) (by assumption) ?_
  rotate_left
  · intro w' hSw
    go_simp
    (try with_reducible rfl)
  (try simp only [Act.put, List.setIfInBounds_toArray, List.set_cons_zero, List.set_cons_succ])
  have HQ0 := Lib.hid HF10.out
  have HQ1 := Lib.hid (HF10.out.drew)
  have HOA1 := Lib.hid (HO10.out.drew)
  have HOS1 := Lib.hid (HP10.out.drew)
  obtain ⟨y0, y1, y2, y3, y4⟩ := (show _ ∧ _ ∧ _ ∧ _ ∧ _ from ⟨HQ0.out.b2.cell 0 rfl, HQ0.out.b2.cell 1 rfl, HQ0.out.b2.cell 2 rfl, HQ0.out.b2.cell 3 rfl, HQ0.out.b2.cell 4 rfl⟩)
  obtain ⟨f0, f1, f2, f3, f4⟩ := (show _ ∧ _ ∧ _ ∧ _ ∧ _ from ⟨HQ0.out.b2.loose 0, HQ0.out.b2.loose 1, HQ0.out.b2.loose 2, HQ0.out.b2.loose 3, HQ0.out.b2.loose 4⟩)
  refine wpAnyH_ready (rs := [5]) (by kernel_rfl) (by simp) ?_
  refine AllReadyH.cons (i := 5) rfl (fun K hK => ?_) AllReadyH.nil
  go_simp
  refine hK.out _ (((((u10.drew.setCell ⟨w.heap.size + 1 + 1, 0, none⟩ (.slice A7 n c7)).setCell ⟨w.heap.size + 1 + 1, 1, none⟩ (.slice A9 (q + 1) c9)).setCell ⟨w.heap.size + 1 + 1, 2, none⟩ (.slice SA sn sc)).setCell ⟨w.heap.size + 1 + 1, 3, none⟩ (.slice KA kn kc)).setCell ⟨w.heap.size + 1 + 1, 4, none⟩ (.int .i64 now)) ⟨st_other (g := w.heap.size + 1 + 1) hHeld.1 (by omega) (.slice A7 n c7) (.slice A9 (q + 1) c9) (.slice SA sn sc) (.slice KA kn kc) (.int .i64 now), st_other (g := w.heap.size + 1 + 1) hHeld.2 (by omega) (.slice A7 n c7) (.slice A9 (q + 1) c9) (.slice SA sn sc) (.slice KA kn kc) (.int .i64 now)⟩ (fun hHeld => ?_)
  clear hK K
  (try simp only [Act.put, List.setIfInBounds_toArray, List.set_cons_zero, List.set_cons_succ])
  have HQ2 := Lib.hid (st_put HQ1.out.b2 rfl (.slice A7 n c7) (.slice A9 (q + 1) c9) (.slice SA sn sc) (.slice KA kn kc) (.int .i64 now))
  have HQ3 := Lib.hid (st_other HQ1.out.b3 (show w.heap.size + 1 + 1 ≠ w.heap.size + 1 + 1 + 1 by omega) (.slice A7 n c7) (.slice A9 (q + 1) c9) (.slice SA sn sc) (.slice KA kn kc) (.int .i64 now))
  have HQB := Lib.hid (st_below HQ1.out.below (show w.heap.size ≤ w.heap.size + 1 + 1 by omega) (.slice A7 n c7) (.slice A9 (q + 1) c9) (.slice SA sn sc) (.slice KA kn kc) (.int .i64 now))
  have HOA2 := Lib.hid (st_ownA HOA1.out (show w.heap.size + 1 + 1 < w.heap.size + 5 by omega) (.slice A7 n c7) (.slice A9 (q + 1) c9) (.slice SA sn sc) (.slice KA kn kc) (.int .i64 now))
  have HOS2 := Lib.hid (st_ownS HOS1.out (show w.heap.size + 1 + 1 < w.heap.size + 5 by omega) (.slice A7 n c7) (.slice A9 (q + 1) c9) (.slice SA sn sc) (.slice KA kn kc) (.int .i64 now))
  clear y0 y1 y2 y3 y4 f0 f1 f2 f3 f4 HQ1 HQ0 HOA1 HOS1
  generalize (((((u10.drew.setCell ⟨w.heap.size + 1 + 1, 0, none⟩ (.slice A7 n c7)).setCell ⟨w.heap.size + 1 + 1, 1, none⟩ (.slice A9 (q + 1) c9)).setCell ⟨w.heap.size + 1 + 1, 2, none⟩ (.slice SA sn sc)).setCell ⟨w.heap.size + 1 + 1, 3, none⟩ (.slice KA kn kc)).setCell ⟨w.heap.size + 1 + 1, 4, none⟩ (.int .i64 now)) = w10 at HQ2 HQ3 HQB hHeld HOA2 HOS2 ⊢
  obtain ⟨z0, z1⟩ := (show _ ∧ _ from ⟨HQ3.out.cell 0 rfl, HQ3.out.cell 1 rfl⟩)
  obtain ⟨e0, e1⟩ := (show _ ∧ _ from ⟨HQ3.out.loose 0, HQ3.out.loose 1⟩)
  refine wpAnyH_ready (rs := [6]) (by kernel_rfl) (by simp) ?_
  refine AllReadyH.cons (i := 6) rfl (fun K hK => ?_) AllReadyH.nil
  go_simp
  refine hK.out _ ((w10.setCell ⟨w.heap.size + 1 + 1 + 1, 0, none⟩ (.int .i64 0)).setCell ⟨w.heap.size + 1 + 1 + 1, 1, none⟩ (.int .i64 (q : Int))) ⟨rp_other (g := w.heap.size + 1 + 1 + 1) hHeld.1 (by omega) (.int .i64 0) (.int .i64 (q : Int)), rp_other (g := w.heap.size + 1 + 1 + 1) hHeld.2 (by omega) (.int .i64 0) (.int .i64 (q : Int))⟩ (fun hHeld => ?_)
  clear hK K
  (try simp only [Act.put, List.setIfInBounds_toArray, List.set_cons_zero, List.set_cons_succ])
  have HT2 := Lib.hid (rp_other HQ2.out (show w.heap.size + 1 + 1 + 1 ≠ w.heap.size + 1 + 1 by omega) (.int .i64 0) (.int .i64 (q : Int)))
  have HT3 := Lib.hid (rp_put HQ3.out rfl (.int .i64 0) (.int .i64 (q : Int)))
  have HTB := Lib.hid (rp_below HQB.out (show w.heap.size ≤ w.heap.size + 1 + 1 + 1 by omega) (.int .i64 0) (.int .i64 (q : Int)))
  have HWA := Lib.hid (rp_ownA HOA2.out (show w.heap.size + 1 + 1 + 1 < w.heap.size + 5 by omega) (.int .i64 0) (.int .i64 (q : Int)))
  have HWS := Lib.hid (rp_ownS HOS2.out (show w.heap.size + 1 + 1 + 1 < w.heap.size + 5 by omega) (.int .i64 0) (.int .i64 (q : Int)))
  clear z0 z1 e0 e1 HQ2 HQ3 HQB hHeld HOA2 HOS2
  generalize ((w10.setCell ⟨w.heap.size + 1 + 1 + 1, 0, none⟩ (.int .i64 0)).setCell ⟨w.heap.size + 1 + 1 + 1, 1, none⟩ (.int .i64 (q : Int))) = w11 at HT2 HT3 HTB HWA HWS ⊢
  refine wpAnyH_done (by kernel_rfl) ?_ _
  go_wp2
  refine bodyPost_ret (results_two (p := 4) (q := 5) (ty := 36) (tz := 40) rfl _ _ (w.heap.size + 1 + 1) (w.heap.size + 1 + 1 + 1) _ _ _ _ (0, 0) _ _ rfl HT2.out Tryd.underlying36 rfl (by kernel_rfl) rfl HT3.out Tryd.underlying40 rfl (by kernel_rfl)) rfl ?_
  exact ⟨A7, c7, A9, c9, by rw [HL7.out, List.length_append, HQ.out]; rfl, st_own HWA.out HWS.out HL7.out (by rw [List.length_append, HQ.out]; rfl), HTB.out⟩

end Go.Proofs.YtjnmppdohglcaaaDoor

