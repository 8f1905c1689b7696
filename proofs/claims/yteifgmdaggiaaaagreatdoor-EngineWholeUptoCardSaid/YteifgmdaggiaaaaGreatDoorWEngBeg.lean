/-
  A request that goes on in steps begins: the engine's begin by its contract.
-/
import Derived.Test.YteifgmdaggiaaaaGreatDoorWGrJ
import Derived.Test.YteifgmdaggiaaaaGreatDoorWGrI
set_option linter.unusedSimpArgs false
namespace Go.Proofs.YteifgmdaggiaaaaGreatDoor
open Go Go.RowKit
set_option linter.unusedVariables false
/-- Other sagas, made by an append in their own block. -/
theorem SkAt.growX {w w' : World} {g : Option Nat} {V : Sv} {T : St} {sl sl' : List Sg} {kl : List Kn} {X' : Option Addr} {xn' xc' : Nat} (h : SkAt w V T sl kl) (hk : w.grownBy w' g) (hf : ∀ b, g = some b → inP (fun k => k ≠ b) V.A V.n V.B V.q (.slice none 0 0) (.slice V.Y V.yn V.yc)) (ho : RdS sagas w' X' sl') (hn : sl'.length = xn') (hs : Sl X' xn' xc') :
  SkAt w' ⟨V.A, V.n, V.c, V.B, V.q, V.d, X', xn', xc', V.Y, V.yn, V.yc, V.t⟩ T sl' kl :=
 ⟨h.n, h.q, hn, h.yn, h.t, h.accs.grow hk (by rw [h.n]; exact fun hn a e hg => (hf a.block hg).1 hn a e rfl), h.pays.grow hk (by rw [h.q]; exact fun hn a e hg => (hf a.block hg).2.1 hn a e rfl), ho, h.kn.grow hk (fun hl a e hg => (hf a.block hg).2.2.2 a.block (full_some (by rw [← h.yn]; exact hl) e) rfl), h.sa, h.sp, hs, h.sy⟩
set_option maxRecDepth 100000 in
set_option maxHeartbeats 2000000 in
theorem ebegin_any (V : Sv) (T : St) (sl : List Sg) (kl : List Kn) (r : Rq) (base : Nat) (w : World) (h : SkAt w V T sl kl) (ha : Apart w V base sl) (hbase : base ≤ w.heap.size) (hf : Fits T sl kl) (hkl : kl.length ≤ 1000000) (hh : HasErr w) :
  Calls Tryz.prog 109 #[V.val, r.val] w (EgB w base V (begO ⟨T, sl, kl⟩ r)) := by
 have HRS := Lib.hid (fun W (hb : Below w.heap.size w W) => oreserve_own V T sl kl r W (h.below hb) hf)
 have HTD := Lib.hid (fun W (hb : Below w.heap.size w W) => etold_any V T sl kl r.key (rsvE T r) 0 W (h.below hb) hkl)
 have HFA := Lib.hid (fun W (hb : Below w.heap.size w W) => efailed_any (rsvE T r) W (hh.below hb))
 have HBG := Lib.hid (fun W => sbegin_any r W)
 have HAP := Lib.hid (fun W (hb : Below w.heap.size w W) => ha.below hb)
 have HL_0 := Lib.hid (Below.refl w.heap.size w)
 have hfs := hf.sl
 unfold SkEA at HRS
 unfold SgRes beginS at HBG
 unfold EgB begO
 dsimp only at HRS ⊢
 generalize rsvS T r = T3 at HRS ⊢
 generalize rsvE T r = E3 at HRS HTD HFA ⊢
 generalize toldL kl r.key E3 0 = K3 at HTD ⊢
 obtain ⟨A0, n0, c0, B0, q0, d0, X0, xn0, xc0, Y0, yn0, yc0, t0⟩ := V
 obtain ⟨rk, ro, ra, rb, rm, rl, ru⟩ := r
 unfold Sv.val Sv.cells Rq.val at HRS
 unfold Sv.val Sv.cells at HTD
 unfold Sg.val Rq.val at HBG
 unfold Sv.val Sv.cells Rq.val
 dsimp only at HRS HTD HBG ⊢
 clear h ha hh
 by_cases he : E3 = 0
 · subst he
   rw [show errV 0 = .nilIface from rfl] at HRS
   rw [if_pos rfl]
   unfold beginS
   clear HTD HFA
   go_enter Tryz.func109, Tryz.ntmps109
   go_upto_region 1 with fail
   have al := (Below.refl w.heap.size w).alloc (Nat.le_refl _) (.cells #[.slice A0 n0 c0, .slice B0 q0 d0, .slice X0 xn0 xc0, .slice Y0 yn0 yc0, .int .i64 t0] 35)
   replace al := al.alloc (by simp; try omega) (.cells (rqC rk ro ra rb rm rl ru) 42)
   replace al := al.alloc (by simp; try omega) (.cells st0 35)
   replace al := al.alloc (by simp; try omega) (.cells rp0 46)
   have nb0 := (((Blk.new w 35 #[.slice A0 n0 c0, .slice B0 q0 d0, .slice X0 xn0 xc0, .slice Y0 yn0 yc0, .int .i64 t0]).more (.cells (rqC rk ro ra rb rm rl ru) 42)).more (.cells st0 35)).more (.cells rp0 46)
   have nb1 := ((Blk.new (w.alloc (.cells #[.slice A0 n0 c0, .slice B0 q0 d0, .slice X0 xn0 xc0, .slice Y0 yn0 yc0, .int .i64 t0] 35)) 42 (rqC rk ro ra rb rm rl ru)).more (.cells st0 35)).more (.cells rp0 46)
   rw [alloc_size] at nb1
   have nb2 := (Blk.new ((w.alloc (.cells #[.slice A0 n0 c0, .slice B0 q0 d0, .slice X0 xn0 xc0, .slice Y0 yn0 yc0, .int .i64 t0] 35)).alloc (.cells (rqC rk ro ra rb rm rl ru) 42)) 35 st0).more (.cells rp0 46)
   rw [alloc_size, alloc_size] at nb2
   have nb3 := Blk.new (((w.alloc (.cells #[.slice A0 n0 c0, .slice B0 q0 d0, .slice X0 xn0 xc0, .slice Y0 yn0 yc0, .int .i64 t0] 35)).alloc (.cells (rqC rk ro ra rb rm rl ru) 42)).alloc (.cells st0 35)) 46 rp0
   rw [alloc_size, alloc_size, alloc_size] at nb3
   have HL_1 := Lib.hid (HL_0.out.trans (al.mono HL_0.out.size))
   clear al HL_0
   have S_1 := Lib.hid (nb0)
   have R_1 := Lib.hid (nb1)
   have Z_1 := Lib.hid (nb2)
   have P_1 := Lib.hid (nb3)
   clear nb0 nb1 nb2 nb3
   generalize (((w.alloc (.cells #[.slice A0 n0 c0, .slice B0 q0 d0, .slice X0 xn0 xc0, .slice Y0 yn0 yc0, .int .i64 t0] 35)).alloc (.cells (rqC rk ro ra rb rm rl ru) 42)).alloc (.cells st0 35)).alloc (.cells rp0 46) = w1 at HL_1 S_1 R_1 Z_1 P_1 ⊢
   have hz1 : w.heap.size + 1 + 1 + 1 < w1.heap.size := P_1.out.lt
   obtain ⟨x0, x1, x2, x3, x4⟩ := (show _ ∧ _ ∧ _ ∧ _ ∧ _ from ⟨S_1.out.cell 0 rfl, S_1.out.cell 1 rfl, S_1.out.cell 2 rfl, S_1.out.cell 3 rfl, S_1.out.cell 4 rfl⟩)
   obtain ⟨r0, r1, r2, r3, r4, r5, r6⟩ := (show _ ∧ _ ∧ _ ∧ _ ∧ _ ∧ _ ∧ _ from ⟨R_1.out.cell 0 rfl, R_1.out.cell 1 rfl, R_1.out.cell 2 rfl, R_1.out.cell 3 rfl, R_1.out.cell 4 rfl, R_1.out.cell 5 rfl, R_1.out.cell 6 rfl⟩)
   go_upto_region 2 with (first
     | (go_at_call 102; refine (HRS.out _ HL_1.out).mono ?_; rintro _ w3 ⟨V3, rfl, hv, hb, hn, hap⟩
        obtain ⟨A3, n3, c3, B3, q3, d3, X3, xn3, xc3, Y3, yn3, yc3, t3⟩ := V3
        dsimp only at hv hn hap ⊢
        have HVa := Lib.hid hv
        have HXa := Lib.hid hb
        have HNa := Lib.hid hn
        have HAa := Lib.hid (hap base (by have := HL_1.out.size; omega) (HAP.out _ HL_1.out))
        clear hv hb hn hap x0 x1 x2 x3 x4 r0 r1 r2 r3 r4 r5 r6))
   have hsw2 := HL_1.out.size
   have HL_2 := Lib.hid (HL_1.out.trans (HXa.out.mono HL_1.out.size))
   have S_2 := Lib.hid (S_1.out.later HXa.out)
   have R_2 := Lib.hid (R_1.out.later HXa.out)
   have Z_2 := Lib.hid (Z_1.out.later HXa.out)
   have P_2 := Lib.hid (P_1.out.later HXa.out)
   clear HL_1 S_1 R_1 Z_1 P_1
   have HW_2 := Lib.hid (HVa.out)
   have AW_2 := Lib.hid (HAa.out)
   clear HVa HAa HXa HRS
   have hsw3 := HL_2.out.size
   have hz3 : w.heap.size + 1 + 1 + 1 < w3.heap.size := P_2.out.lt
   have al := (Below.refl w3.heap.size w3).alloc (Nat.le_refl _) (.cells #[.slice A3 n3 c3, .slice B3 q3 d3, .slice X3 xn3 xc3, .slice Y3 yn3 yc3, .int .i64 t3] 35)
   have nb0 := Blk.new w3 35 #[.slice A3 n3 c3, .slice B3 q3 d3, .slice X3 xn3 xc3, .slice Y3 yn3 yc3, .int .i64 t3]
   have HL_3 := Lib.hid (HL_2.out.trans (al.mono HL_2.out.size))
   have S_3 := Lib.hid (S_2.out.later al)
   have R_3 := Lib.hid (R_2.out.later al)
   have Z_3 := Lib.hid (Z_2.out.later al)
   have P_3 := Lib.hid (P_2.out.later al)
   have HW_3 := Lib.hid (HW_2.out.below al)
   have AW_3 := Lib.hid (AW_2.out.below al)
   clear al HL_2 S_2 R_2 Z_2 P_2 HW_2 AW_2
   have U_3 := Lib.hid (nb0)
   clear nb0
   generalize w3.alloc (.cells #[.slice A3 n3 c3, .slice B3 q3 d3, .slice X3 xn3 xc3, .slice Y3 yn3 yc3, .int .i64 t3] 35) = w4 at HL_3 S_3 R_3 Z_3 P_3 HW_3 AW_3 U_3 ⊢
   generalize w3.heap.size = gu at U_3 hsw3 hz3 ⊢
   have hsw4 := HL_3.out.size
   go_upto_region 5 with fail
   have hxl := HW_3.out.xn
   dsimp only at hxl
   have hguw := U_3.out.lt
   refine wp_region_held_drew (S := fun w' => On (fun k => k < w4.heap.size ∧ (Value.slice X3 xn3 xc3).ownBlock ≠ some k ∧ k ≠ gu) w4 w') (by kernel_rfl) (On.refl _ w4).drew (fun hHeld => ?_)
   refine tk 0 25 (v := ?_) ?_ ?_
   rotate_left
   · intro w' hSw
     go_simp
     (try with_reducible rfl)
   (try simp only [Act.put, sA, sB, sC])
   refine tk 2 27 (v := ?_) ?_ ?_
   rotate_left
   · intro w' hSw
     have hSw' := hSw
     (try dsimp only at hSw')
     obtain ⟨k0, k1, k2, k3, k4, k5, k6⟩ := (show _ ∧ _ ∧ _ ∧ _ ∧ _ ∧ _ ∧ _ from ⟨(Blk.on R_3.out hSw' ⟨R_3.out.lt, fun e => AW_3.out.own.ne R_3.out (by decide) _ e rfl, by omega⟩).cell 0 rfl, (Blk.on R_3.out hSw' ⟨R_3.out.lt, fun e => AW_3.out.own.ne R_3.out (by decide) _ e rfl, by omega⟩).cell 1 rfl, (Blk.on R_3.out hSw' ⟨R_3.out.lt, fun e => AW_3.out.own.ne R_3.out (by decide) _ e rfl, by omega⟩).cell 2 rfl, (Blk.on R_3.out hSw' ⟨R_3.out.lt, fun e => AW_3.out.own.ne R_3.out (by decide) _ e rfl, by omega⟩).cell 3 rfl, (Blk.on R_3.out hSw' ⟨R_3.out.lt, fun e => AW_3.out.own.ne R_3.out (by decide) _ e rfl, by omega⟩).cell 4 rfl, (Blk.on R_3.out hSw' ⟨R_3.out.lt, fun e => AW_3.out.own.ne R_3.out (by decide) _ e rfl, by omega⟩).cell 5 rfl, (Blk.on R_3.out hSw' ⟨R_3.out.lt, fun e => AW_3.out.own.ne R_3.out (by decide) _ e rfl, by omega⟩).cell 6 rfl⟩)
     go_simp
     (try with_reducible rfl)
   (try simp only [Act.put, sA, sB, sC])
   have hbd : Below w4.heap.size w4 w4.drew := (Below.refl _ _).drew
   have HL_4 := Lib.hid (HL_3.out.trans (hbd.mono HL_3.out.size))
   have S_4 := Lib.hid (S_3.out.later hbd)
   have R_4 := Lib.hid (R_3.out.later hbd)
   have Z_4 := Lib.hid (Z_3.out.later hbd)
   have P_4 := Lib.hid (P_3.out.later hbd)
   have HW_4 := Lib.hid (HW_3.out.below hbd)
   have AW_4 := Lib.hid (AW_3.out.below hbd)
   have U_4 := Lib.hid (U_3.out.later hbd)
   clear HL_3 S_3 R_3 Z_3 P_3 HW_3 AW_3 U_3
   clear hbd
   have hzd : w4.drew.heap.size = w4.heap.size := rfl
   have HZD := Lib.hid hzd
   clear hzd
   generalize w4.drew = wd at hHeld HZD HL_4 S_4 R_4 Z_4 P_4 HW_4 AW_4 U_4 ⊢
   have hszd : wd.heap.size = w4.heap.size := HZD.out
   refine wpAnyH_ready (rs := [1, 3]) (by kernel_rfl) (by simp) ?_
   refine AllReadyH.cons (i := 1) rfl (fun K0 hK => ?_) (AllReadyH.cons (i := 3) rfl (fun K0 hK => ?_) AllReadyH.nil)
   · have u2 := U_4.out.cell 2 rfl
     go_simp
     refine hK.out _ wd hHeld (fun hHeld => ?_)
     clear hK K0
     (try simp only [Act.put, sA, sB, sC])
     clear u2
     refine wpAnyH_ready (rs := [3]) (by kernel_rfl) (by simp) ?_
     refine AllReadyH.cons (i := 3) rfl (fun K0 hK => ?_) AllReadyH.nil
     go_simp
     go_at_call 104
     refine (HBG.out wd).mono ?_
     rintro _ wq2 ⟨rfl, hb⟩
     have hH : On (fun k => k < w4.heap.size ∧ (Value.slice X3 xn3 xc3).ownBlock ≠ some k ∧ k ≠ gu) w4 wq2 := hHeld.trans (On.of hb (fun k hk => by have := hk.1; have := hHeld.size; omega))
     have HL_5 := Lib.hid (HL_4.out.trans (hb.mono HL_4.out.size))
     have S_5 := Lib.hid (S_4.out.later hb)
     have R_5 := Lib.hid (R_4.out.later hb)
     have Z_5 := Lib.hid (Z_4.out.later hb)
     have P_5 := Lib.hid (P_4.out.later hb)
     have HW_5 := Lib.hid (HW_4.out.below hb)
     have AW_5 := Lib.hid (AW_4.out.below hb)
     have U_5 := Lib.hid (U_4.out.later hb)
     clear HL_4 S_4 R_4 Z_4 P_4 HW_4 AW_4 U_4
     clear hb
     refine hK.out _ _ hH (fun hHeld => ?_)
     clear hK K0
     (try simp only [Act.put, sA, sB, sC])
     clear hH
     refine wpAnyH_ready (rs := [4]) (by kernel_rfl) (by simp) ?_
     refine AllReadyH.cons (i := 4) rfl (fun K0 hK => ?_) AllReadyH.nil
     go_simp
     have al := (Below.refl wq2.heap.size wq2).alloc (Nat.le_refl _) (.cells #[.int .i64 rk, .int .i64 ro, .int .i64 ra, .int .i64 rb, .int .i64 rm, .int .i64 rl, .int .i64 ru, .int .i64 0, .int .i64 0, .int .i64 0, .int .i64 0] 68)
     refine hK.out _ (wq2.alloc (.cells #[.int .i64 rk, .int .i64 ro, .int .i64 ra, .int .i64 rb, .int .i64 rm, .int .i64 rl, .int .i64 ru, .int .i64 0, .int .i64 0, .int .i64 0, .int .i64 0] 68)) (hHeld.trans (On.of al (fun k hk => by have := hk.1; have := hHeld.size; omega))) (fun hHeld => ?_)
     clear hK K0
     (try simp only [Act.put, sA, sB, sC])
     have AT : AtS sagas (wq2.alloc (.cells #[.int .i64 rk, .int .i64 ro, .int .i64 ra, .int .i64 rb, .int .i64 rm, .int .i64 rl, .int .i64 ru, .int .i64 0, .int .i64 0, .int .i64 0, .int .i64 0] 68)) ⟨wq2.heap.size, 0, none⟩ 0 ⟨⟨rk, ro, ra, rb, rm, rl, ru⟩, 0, 0, 0, 0⟩ := AtS.new rfl
     have HL_6 := Lib.hid (HL_5.out.trans (al.mono HL_5.out.size))
     have S_6 := Lib.hid (S_5.out.later al)
     have R_6 := Lib.hid (R_5.out.later al)
     have Z_6 := Lib.hid (Z_5.out.later al)
     have P_6 := Lib.hid (P_5.out.later al)
     have HW_6 := Lib.hid (HW_5.out.below al)
     have AW_6 := Lib.hid (AW_5.out.below al)
     have U_6 := Lib.hid (U_5.out.later al)
     clear HL_5 S_5 R_5 Z_5 P_5 HW_5 AW_5 U_5
     clear al
     generalize wq2.alloc (.cells #[.int .i64 rk, .int .i64 ro, .int .i64 ra, .int .i64 rb, .int .i64 rm, .int .i64 rl, .int .i64 ru, .int .i64 0, .int .i64 0, .int .i64 0, .int .i64 0] 68) = wq3 at hHeld AT HL_6 S_6 R_6 Z_6 P_6 HW_6 AW_6 U_6 ⊢
     have hAT := AT
     clear AT
     have hsq := HL_6.out.size
     refine wpAnyH_ready (rs := [5]) (by kernel_rfl) (by simp) ?_
     refine AllReadyH.cons (i := 5) rfl (fun K0 hK => ?_) AllReadyH.nil
     refine step_append_rec sagas 32 Tryz.underlying32 info_saga rfl rfl 30 rfl (.tmp 26) (.tmp 29) rfl base _ sl rfl AW_6.out.own _ _ ⟨⟨rk, ro, ra, rb, rm, rl, ru⟩, 0, 0, 0, 0⟩ rfl hAT (by omega) (by omega) (by omega) ?_
     intro v6 w6 ho6 hg6
     have hlt := U_6.out.lt
     have hnu : (Value.slice X3 xn3 xc3).ownBlock ≠ some gu := fun e => AW_6.out.own.ne U_6.out (by decide) _ e rfl
     have hnz : (Value.slice X3 xn3 xc3).ownBlock ≠ some (w.heap.size + 1 + 1) := fun e => AW_6.out.own.ne Z_6.out (by decide) _ e rfl
     have hnp : (Value.slice X3 xn3 xc3).ownBlock ≠ some (w.heap.size + 1 + 1 + 1) := fun e => AW_6.out.own.ne P_6.out (by decide) _ e rfl
     have u6 := U_6.out.grow hg6 hnu
     have z6 := Z_6.out.grow hg6 hnz
     have p6 := P_6.out.grow hg6 hnp
     have hrow := AW_6.out.own.rowLt
     have l6 : Below base w w6 := (HL_6.out.mono hbase).grown hg6 (by omega) (fun k e => hrow k e)
     obtain ⟨X6, xc6, rfl, ox1, ox2, ox3, ox4⟩ := ho6.form
     obtain ⟨xn6, hxn6⟩ : ∃ n, (sl ++ [(⟨⟨rk, ro, ra, rb, rm, rl, ru⟩, 0, 0, 0, 0⟩ : Sg)]).length = n := ⟨_, rfl⟩
     rw [hxn6] at ox2 ox4 ⊢
     have v6 := SkAt.growX (X' := X6) (xn' := xn6) (xc' := xc6) HW_6.out hg6 AW_6.out.far ox1 hxn6 (show Sl _ _ _ from ⟨ox4, ox2, ox3⟩)
     have hin6 : ∀ b, fullBlock (.slice X6 xn6 xc6) = some b → base ≤ b := fun b e => by
      have h1 := full_own e
      rw [← hxn6] at h1
      exact ho6.rowLt b h1
     have hH6 : On (fun k => k < w4.heap.size ∧ (Value.slice X3 xn3 xc3).ownBlock ≠ some k ∧ k ≠ gu) w4 w6 := hHeld.grown hg6 (fun k hk => by have := hk.1; have := hHeld.size; omega) (fun k e hk => hk.2.1 e)
     dsimp only at v6
     have xU := Lib.hid u6
     have xZ := Lib.hid z6
     have xP := Lib.hid p6
     have xL := Lib.hid l6
     have xV := Lib.hid v6
     have xI := Lib.hid hin6
     clear u6 z6 p6 l6 v6 hin6 ox1 ox2 ox3 ox4 ho6 hg6 hxn6 hnu hnz hnp hrow hAT
     clear HL_6 S_6 R_6 Z_6 P_6 HW_6 AW_6 U_6
     refine hK.out _ _ hH6 (fun hHeld => ?_)
     clear hK K0
     (try simp only [Act.put, sA, sB, sC])
     refine tk 6 31 (v := ?_) ?_ ?_
     rotate_left
     · intro w' hSw
       go_simp
       (try with_reducible rfl)
     (try simp only [Act.put, sA, sB, sC])
     have u2 := xU.out.cell 2 rfl
     have f2 := xU.out.loose 2
     refine wpAnyH_ready (rs := [7]) (by kernel_rfl) (by simp) ?_
     refine AllReadyH.cons (i := 7) rfl (fun K0 hK => ?_) AllReadyH.nil
     go_simp
     refine hK.out _ (w6.setCell ⟨gu, 2, none⟩ (.slice X6 xn6 xc6)) (hHeld.setCell (p := ⟨gu, 2, none⟩) (fun e => e.2.2 rfl) _) (fun hHeld => ?_)
     clear hK K0
     (try simp only [Act.put, sA, sB, sC])
     refine wpAnyH_done (by kernel_rfl) ?_ _
     clear hHeld u2 f2
     have yU := Lib.hid (show Blk (w6.setCell ⟨gu, 2, none⟩ (.slice X6 xn6 xc6)) gu 35 #[.slice A3 n3 c3, .slice B3 q3 d3, .slice X6 xn6 xc6, .slice Y3 yn3 yc3, .int .i64 t3] from xU.out.set 2 _)
     have yZ := Lib.hid (xZ.out.setOther (b := gu) (by omega) 2 (.slice X6 xn6 xc6))
     have yP := Lib.hid (xP.out.setOther (b := gu) (by omega) 2 (.slice X6 xn6 xc6))
     have yL := Lib.hid (xL.out.setCell (p := ⟨gu, 2, none⟩) (by dsimp only; omega) (.slice X6 xn6 xc6))
     have yV := Lib.hid (xV.out.far xU.out (thin_st _ _ _ _ _ _ _ _ _ _ _ _ _) (w' := w6.setCell ⟨gu, 2, none⟩ (.slice X6 xn6 xc6)) (fun k hk => Below.heap_setCell _ _ _ _ hk))
     clear xU xZ xP xL xV
     generalize w6.setCell ⟨gu, 2, none⟩ (.slice X6 xn6 xc6) = w7 at yU yZ yP yL yV ⊢
     obtain ⟨x0, x1, x2, x3, x4⟩ := (show _ ∧ _ ∧ _ ∧ _ ∧ _ from ⟨yU.out.cell 0 rfl, yU.out.cell 1 rfl, yU.out.cell 2 rfl, yU.out.cell 3 rfl, yU.out.cell 4 rfl⟩)
     obtain ⟨y0, y1, y2, y3, y4⟩ := (show _ ∧ _ ∧ _ ∧ _ ∧ _ from ⟨yZ.out.cell 0 rfl, yZ.out.cell 1 rfl, yZ.out.cell 2 rfl, yZ.out.cell 3 rfl, yZ.out.cell 4 rfl⟩)
     obtain ⟨f0, f1, f2, f3, f4⟩ := (show _ ∧ _ ∧ _ ∧ _ ∧ _ from ⟨yZ.out.loose 0, yZ.out.loose 1, yZ.out.loose 2, yZ.out.loose 3, yZ.out.loose 4⟩)
     obtain ⟨z0, z1⟩ := (show _ ∧ _ from ⟨yP.out.cell 0 rfl, yP.out.cell 1 rfl⟩)
     obtain ⟨e0, e1⟩ := (show _ ∧ _ from ⟨yP.out.loose 0, yP.out.loose 1⟩)
     go_wp2
     have P6 := st_other yP.out (show w.heap.size + 1 + 1 ≠ w.heap.size + 1 + 1 + 1 by omega) (.slice A3 n3 c3) (.slice B3 q3 d3) (.slice X6 xn6 xc6) (.slice Y3 yn3 yc3) (.int .i64 t3)
     have HT2 := rp_other (st_put yZ.out rfl (.slice A3 n3 c3) (.slice B3 q3 d3) (.slice X6 xn6 xc6) (.slice Y3 yn3 yc3) (.int .i64 t3)) (show w.heap.size + 1 + 1 + 1 ≠ w.heap.size + 1 + 1 by omega) (.int .i64 10) (.int .i64 0)
     have HT3 := rp_put P6 rfl (.int .i64 10) (.int .i64 0)
     have HTV := sk_rp (sk_zero yV.out yZ.out (.slice A3 n3 c3) (.slice B3 q3 d3) (.slice X6 xn6 xc6) (.slice Y3 yn3 yc3) (.int .i64 t3)) P6 (.int .i64 10) (.int .i64 0)
     have HTB := rp_below (st_below yL.out (show base ≤ w.heap.size + 1 + 1 by omega) (.slice A3 n3 c3) (.slice B3 q3 d3) (.slice X6 xn6 xc6) (.slice Y3 yn3 yc3) (.int .i64 t3)) (show base ≤ w.heap.size + 1 + 1 + 1 by omega) (.int .i64 10) (.int .i64 0)
     refine bodyPost_ret (results_two (p := 4) (q := 5) (ty := 35) (tz := 46) rfl _ _ (w.heap.size + 1 + 1) (w.heap.size + 1 + 1 + 1) _ _ _ _ (0, 0) _ _ rfl HT2 Tryz.underlying35 rfl (by kernel_rfl) rfl HT3 Tryz.underlying46 rfl (by kernel_rfl)) rfl ?_
     exact ⟨⟨A3, n3, c3, B3, q3, d3, X6, xn6, xc6, Y3, yn3, yc3, t3⟩, rfl, HTV, HTB, fun p hp hq => ⟨(HNa.out p (fun b hb => hp b (by omega)) hq).1, (HNa.out p (fun b hb => hp b (by omega)) hq).2.1, fun b e => hp b (xI.out b e), (HNa.out p (fun b hb => hp b (by omega)) hq).2.2.2⟩⟩
   · go_simp
     go_at_call 104
     refine (HBG.out wd).mono ?_
     rintro _ wq4 ⟨rfl, hb⟩
     have hH : On (fun k => k < w4.heap.size ∧ (Value.slice X3 xn3 xc3).ownBlock ≠ some k ∧ k ≠ gu) w4 wq4 := hHeld.trans (On.of hb (fun k hk => by have := hk.1; have := hHeld.size; omega))
     have HL_5 := Lib.hid (HL_4.out.trans (hb.mono HL_4.out.size))
     have S_5 := Lib.hid (S_4.out.later hb)
     have R_5 := Lib.hid (R_4.out.later hb)
     have Z_5 := Lib.hid (Z_4.out.later hb)
     have P_5 := Lib.hid (P_4.out.later hb)
     have HW_5 := Lib.hid (HW_4.out.below hb)
     have AW_5 := Lib.hid (AW_4.out.below hb)
     have U_5 := Lib.hid (U_4.out.later hb)
     clear HL_4 S_4 R_4 Z_4 P_4 HW_4 AW_4 U_4
     clear hb
     refine hK.out _ _ hH (fun hHeld => ?_)
     clear hK K0
     (try simp only [Act.put, sA, sB, sC])
     clear hH
     refine wpAnyH_ready (rs := [1, 4]) (by kernel_rfl) (by simp) ?_
     refine AllReadyH.cons (i := 1) rfl (fun K0 hK => ?_) (AllReadyH.cons (i := 4) rfl (fun K0 hK => ?_) AllReadyH.nil)
     · have u2 := U_5.out.cell 2 rfl
       go_simp
       refine hK.out _ wq4 hHeld (fun hHeld => ?_)
       clear hK K0
       (try simp only [Act.put, sA, sB, sC])
       clear u2
       refine wpAnyH_ready (rs := [4]) (by kernel_rfl) (by simp) ?_
       refine AllReadyH.cons (i := 4) rfl (fun K0 hK => ?_) AllReadyH.nil
       go_simp
       have al := (Below.refl wq4.heap.size wq4).alloc (Nat.le_refl _) (.cells #[.int .i64 rk, .int .i64 ro, .int .i64 ra, .int .i64 rb, .int .i64 rm, .int .i64 rl, .int .i64 ru, .int .i64 0, .int .i64 0, .int .i64 0, .int .i64 0] 68)
       refine hK.out _ (wq4.alloc (.cells #[.int .i64 rk, .int .i64 ro, .int .i64 ra, .int .i64 rb, .int .i64 rm, .int .i64 rl, .int .i64 ru, .int .i64 0, .int .i64 0, .int .i64 0, .int .i64 0] 68)) (hHeld.trans (On.of al (fun k hk => by have := hk.1; have := hHeld.size; omega))) (fun hHeld => ?_)
       clear hK K0
       (try simp only [Act.put, sA, sB, sC])
       have AT : AtS sagas (wq4.alloc (.cells #[.int .i64 rk, .int .i64 ro, .int .i64 ra, .int .i64 rb, .int .i64 rm, .int .i64 rl, .int .i64 ru, .int .i64 0, .int .i64 0, .int .i64 0, .int .i64 0] 68)) ⟨wq4.heap.size, 0, none⟩ 0 ⟨⟨rk, ro, ra, rb, rm, rl, ru⟩, 0, 0, 0, 0⟩ := AtS.new rfl
       have HL_6 := Lib.hid (HL_5.out.trans (al.mono HL_5.out.size))
       have S_6 := Lib.hid (S_5.out.later al)
       have R_6 := Lib.hid (R_5.out.later al)
       have Z_6 := Lib.hid (Z_5.out.later al)
       have P_6 := Lib.hid (P_5.out.later al)
       have HW_6 := Lib.hid (HW_5.out.below al)
       have AW_6 := Lib.hid (AW_5.out.below al)
       have U_6 := Lib.hid (U_5.out.later al)
       clear HL_5 S_5 R_5 Z_5 P_5 HW_5 AW_5 U_5
       clear al
       generalize wq4.alloc (.cells #[.int .i64 rk, .int .i64 ro, .int .i64 ra, .int .i64 rb, .int .i64 rm, .int .i64 rl, .int .i64 ru, .int .i64 0, .int .i64 0, .int .i64 0, .int .i64 0] 68) = wq6 at hHeld AT HL_6 S_6 R_6 Z_6 P_6 HW_6 AW_6 U_6 ⊢
       have hAT := AT
       clear AT
       have hsq := HL_6.out.size
       refine wpAnyH_ready (rs := [5]) (by kernel_rfl) (by simp) ?_
       refine AllReadyH.cons (i := 5) rfl (fun K0 hK => ?_) AllReadyH.nil
       refine step_append_rec sagas 32 Tryz.underlying32 info_saga rfl rfl 30 rfl (.tmp 26) (.tmp 29) rfl base _ sl rfl AW_6.out.own _ _ ⟨⟨rk, ro, ra, rb, rm, rl, ru⟩, 0, 0, 0, 0⟩ rfl hAT (by omega) (by omega) (by omega) ?_
       intro v6 w6 ho6 hg6
       have hlt := U_6.out.lt
       have hnu : (Value.slice X3 xn3 xc3).ownBlock ≠ some gu := fun e => AW_6.out.own.ne U_6.out (by decide) _ e rfl
       have hnz : (Value.slice X3 xn3 xc3).ownBlock ≠ some (w.heap.size + 1 + 1) := fun e => AW_6.out.own.ne Z_6.out (by decide) _ e rfl
       have hnp : (Value.slice X3 xn3 xc3).ownBlock ≠ some (w.heap.size + 1 + 1 + 1) := fun e => AW_6.out.own.ne P_6.out (by decide) _ e rfl
       have u6 := U_6.out.grow hg6 hnu
       have z6 := Z_6.out.grow hg6 hnz
       have p6 := P_6.out.grow hg6 hnp
       have hrow := AW_6.out.own.rowLt
       have l6 : Below base w w6 := (HL_6.out.mono hbase).grown hg6 (by omega) (fun k e => hrow k e)
       obtain ⟨X6, xc6, rfl, ox1, ox2, ox3, ox4⟩ := ho6.form
       obtain ⟨xn6, hxn6⟩ : ∃ n, (sl ++ [(⟨⟨rk, ro, ra, rb, rm, rl, ru⟩, 0, 0, 0, 0⟩ : Sg)]).length = n := ⟨_, rfl⟩
       rw [hxn6] at ox2 ox4 ⊢
       have v6 := SkAt.growX (X' := X6) (xn' := xn6) (xc' := xc6) HW_6.out hg6 AW_6.out.far ox1 hxn6 (show Sl _ _ _ from ⟨ox4, ox2, ox3⟩)
       have hin6 : ∀ b, fullBlock (.slice X6 xn6 xc6) = some b → base ≤ b := fun b e => by
        have h1 := full_own e
        rw [← hxn6] at h1
        exact ho6.rowLt b h1
       have hH6 : On (fun k => k < w4.heap.size ∧ (Value.slice X3 xn3 xc3).ownBlock ≠ some k ∧ k ≠ gu) w4 w6 := hHeld.grown hg6 (fun k hk => by have := hk.1; have := hHeld.size; omega) (fun k e hk => hk.2.1 e)
       dsimp only at v6
       have xU := Lib.hid u6
       have xZ := Lib.hid z6
       have xP := Lib.hid p6
       have xL := Lib.hid l6
       have xV := Lib.hid v6
       have xI := Lib.hid hin6
       clear u6 z6 p6 l6 v6 hin6 ox1 ox2 ox3 ox4 ho6 hg6 hxn6 hnu hnz hnp hrow hAT
       clear HL_6 S_6 R_6 Z_6 P_6 HW_6 AW_6 U_6
       refine hK.out _ _ hH6 (fun hHeld => ?_)
       clear hK K0
       (try simp only [Act.put, sA, sB, sC])
       refine tk 6 31 (v := ?_) ?_ ?_
       rotate_left
       · intro w' hSw
         go_simp
         (try with_reducible rfl)
       (try simp only [Act.put, sA, sB, sC])
       have u2 := xU.out.cell 2 rfl
       have f2 := xU.out.loose 2
       refine wpAnyH_ready (rs := [7]) (by kernel_rfl) (by simp) ?_
       refine AllReadyH.cons (i := 7) rfl (fun K0 hK => ?_) AllReadyH.nil
       go_simp
       refine hK.out _ (w6.setCell ⟨gu, 2, none⟩ (.slice X6 xn6 xc6)) (hHeld.setCell (p := ⟨gu, 2, none⟩) (fun e => e.2.2 rfl) _) (fun hHeld => ?_)
       clear hK K0
       (try simp only [Act.put, sA, sB, sC])
       refine wpAnyH_done (by kernel_rfl) ?_ _
       clear hHeld u2 f2
       have yU := Lib.hid (show Blk (w6.setCell ⟨gu, 2, none⟩ (.slice X6 xn6 xc6)) gu 35 #[.slice A3 n3 c3, .slice B3 q3 d3, .slice X6 xn6 xc6, .slice Y3 yn3 yc3, .int .i64 t3] from xU.out.set 2 _)
       have yZ := Lib.hid (xZ.out.setOther (b := gu) (by omega) 2 (.slice X6 xn6 xc6))
       have yP := Lib.hid (xP.out.setOther (b := gu) (by omega) 2 (.slice X6 xn6 xc6))
       have yL := Lib.hid (xL.out.setCell (p := ⟨gu, 2, none⟩) (by dsimp only; omega) (.slice X6 xn6 xc6))
       have yV := Lib.hid (xV.out.far xU.out (thin_st _ _ _ _ _ _ _ _ _ _ _ _ _) (w' := w6.setCell ⟨gu, 2, none⟩ (.slice X6 xn6 xc6)) (fun k hk => Below.heap_setCell _ _ _ _ hk))
       clear xU xZ xP xL xV
       generalize w6.setCell ⟨gu, 2, none⟩ (.slice X6 xn6 xc6) = w7 at yU yZ yP yL yV ⊢
       obtain ⟨x0, x1, x2, x3, x4⟩ := (show _ ∧ _ ∧ _ ∧ _ ∧ _ from ⟨yU.out.cell 0 rfl, yU.out.cell 1 rfl, yU.out.cell 2 rfl, yU.out.cell 3 rfl, yU.out.cell 4 rfl⟩)
       obtain ⟨y0, y1, y2, y3, y4⟩ := (show _ ∧ _ ∧ _ ∧ _ ∧ _ from ⟨yZ.out.cell 0 rfl, yZ.out.cell 1 rfl, yZ.out.cell 2 rfl, yZ.out.cell 3 rfl, yZ.out.cell 4 rfl⟩)
       obtain ⟨f0, f1, f2, f3, f4⟩ := (show _ ∧ _ ∧ _ ∧ _ ∧ _ from ⟨yZ.out.loose 0, yZ.out.loose 1, yZ.out.loose 2, yZ.out.loose 3, yZ.out.loose 4⟩)
       obtain ⟨z0, z1⟩ := (show _ ∧ _ from ⟨yP.out.cell 0 rfl, yP.out.cell 1 rfl⟩)
       obtain ⟨e0, e1⟩ := (show _ ∧ _ from ⟨yP.out.loose 0, yP.out.loose 1⟩)
       go_wp2
       have P6 := st_other yP.out (show w.heap.size + 1 + 1 ≠ w.heap.size + 1 + 1 + 1 by omega) (.slice A3 n3 c3) (.slice B3 q3 d3) (.slice X6 xn6 xc6) (.slice Y3 yn3 yc3) (.int .i64 t3)
       have HT2 := rp_other (st_put yZ.out rfl (.slice A3 n3 c3) (.slice B3 q3 d3) (.slice X6 xn6 xc6) (.slice Y3 yn3 yc3) (.int .i64 t3)) (show w.heap.size + 1 + 1 + 1 ≠ w.heap.size + 1 + 1 by omega) (.int .i64 10) (.int .i64 0)
       have HT3 := rp_put P6 rfl (.int .i64 10) (.int .i64 0)
       have HTV := sk_rp (sk_zero yV.out yZ.out (.slice A3 n3 c3) (.slice B3 q3 d3) (.slice X6 xn6 xc6) (.slice Y3 yn3 yc3) (.int .i64 t3)) P6 (.int .i64 10) (.int .i64 0)
       have HTB := rp_below (st_below yL.out (show base ≤ w.heap.size + 1 + 1 by omega) (.slice A3 n3 c3) (.slice B3 q3 d3) (.slice X6 xn6 xc6) (.slice Y3 yn3 yc3) (.int .i64 t3)) (show base ≤ w.heap.size + 1 + 1 + 1 by omega) (.int .i64 10) (.int .i64 0)
       refine bodyPost_ret (results_two (p := 4) (q := 5) (ty := 35) (tz := 46) rfl _ _ (w.heap.size + 1 + 1) (w.heap.size + 1 + 1 + 1) _ _ _ _ (0, 0) _ _ rfl HT2 Tryz.underlying35 rfl (by kernel_rfl) rfl HT3 Tryz.underlying46 rfl (by kernel_rfl)) rfl ?_
       exact ⟨⟨A3, n3, c3, B3, q3, d3, X6, xn6, xc6, Y3, yn3, yc3, t3⟩, rfl, HTV, HTB, fun p hp hq => ⟨(HNa.out p (fun b hb => hp b (by omega)) hq).1, (HNa.out p (fun b hb => hp b (by omega)) hq).2.1, fun b e => hp b (xI.out b e), (HNa.out p (fun b hb => hp b (by omega)) hq).2.2.2⟩⟩
     · go_simp
       have al := (Below.refl wq4.heap.size wq4).alloc (Nat.le_refl _) (.cells #[.int .i64 rk, .int .i64 ro, .int .i64 ra, .int .i64 rb, .int .i64 rm, .int .i64 rl, .int .i64 ru, .int .i64 0, .int .i64 0, .int .i64 0, .int .i64 0] 68)
       refine hK.out _ (wq4.alloc (.cells #[.int .i64 rk, .int .i64 ro, .int .i64 ra, .int .i64 rb, .int .i64 rm, .int .i64 rl, .int .i64 ru, .int .i64 0, .int .i64 0, .int .i64 0, .int .i64 0] 68)) (hHeld.trans (On.of al (fun k hk => by have := hk.1; have := hHeld.size; omega))) (fun hHeld => ?_)
       clear hK K0
       (try simp only [Act.put, sA, sB, sC])
       have AT : AtS sagas (wq4.alloc (.cells #[.int .i64 rk, .int .i64 ro, .int .i64 ra, .int .i64 rb, .int .i64 rm, .int .i64 rl, .int .i64 ru, .int .i64 0, .int .i64 0, .int .i64 0, .int .i64 0] 68)) ⟨wq4.heap.size, 0, none⟩ 0 ⟨⟨rk, ro, ra, rb, rm, rl, ru⟩, 0, 0, 0, 0⟩ := AtS.new rfl
       have HL_6 := Lib.hid (HL_5.out.trans (al.mono HL_5.out.size))
       have S_6 := Lib.hid (S_5.out.later al)
       have R_6 := Lib.hid (R_5.out.later al)
       have Z_6 := Lib.hid (Z_5.out.later al)
       have P_6 := Lib.hid (P_5.out.later al)
       have HW_6 := Lib.hid (HW_5.out.below al)
       have AW_6 := Lib.hid (AW_5.out.below al)
       have U_6 := Lib.hid (U_5.out.later al)
       clear HL_5 S_5 R_5 Z_5 P_5 HW_5 AW_5 U_5
       clear al
       generalize wq4.alloc (.cells #[.int .i64 rk, .int .i64 ro, .int .i64 ra, .int .i64 rb, .int .i64 rm, .int .i64 rl, .int .i64 ru, .int .i64 0, .int .i64 0, .int .i64 0, .int .i64 0] 68) = wq7 at hHeld AT HL_6 S_6 R_6 Z_6 P_6 HW_6 AW_6 U_6 ⊢
       refine wpAnyH_ready (rs := [1]) (by kernel_rfl) (by simp) ?_
       refine AllReadyH.cons (i := 1) rfl (fun K0 hK => ?_) AllReadyH.nil
       have u2 := U_6.out.cell 2 rfl
       go_simp
       refine hK.out _ wq7 hHeld (fun hHeld => ?_)
       clear hK K0
       (try simp only [Act.put, sA, sB, sC])
       clear u2
       have hAT := AT
       clear AT
       have hsq := HL_6.out.size
       refine wpAnyH_ready (rs := [5]) (by kernel_rfl) (by simp) ?_
       refine AllReadyH.cons (i := 5) rfl (fun K0 hK => ?_) AllReadyH.nil
       refine step_append_rec sagas 32 Tryz.underlying32 info_saga rfl rfl 30 rfl (.tmp 26) (.tmp 29) rfl base _ sl rfl AW_6.out.own _ _ ⟨⟨rk, ro, ra, rb, rm, rl, ru⟩, 0, 0, 0, 0⟩ rfl hAT (by omega) (by omega) (by omega) ?_
       intro v6 w6 ho6 hg6
       have hlt := U_6.out.lt
       have hnu : (Value.slice X3 xn3 xc3).ownBlock ≠ some gu := fun e => AW_6.out.own.ne U_6.out (by decide) _ e rfl
       have hnz : (Value.slice X3 xn3 xc3).ownBlock ≠ some (w.heap.size + 1 + 1) := fun e => AW_6.out.own.ne Z_6.out (by decide) _ e rfl
       have hnp : (Value.slice X3 xn3 xc3).ownBlock ≠ some (w.heap.size + 1 + 1 + 1) := fun e => AW_6.out.own.ne P_6.out (by decide) _ e rfl
       have u6 := U_6.out.grow hg6 hnu
       have z6 := Z_6.out.grow hg6 hnz
       have p6 := P_6.out.grow hg6 hnp
       have hrow := AW_6.out.own.rowLt
       have l6 : Below base w w6 := (HL_6.out.mono hbase).grown hg6 (by omega) (fun k e => hrow k e)
       obtain ⟨X6, xc6, rfl, ox1, ox2, ox3, ox4⟩ := ho6.form
       obtain ⟨xn6, hxn6⟩ : ∃ n, (sl ++ [(⟨⟨rk, ro, ra, rb, rm, rl, ru⟩, 0, 0, 0, 0⟩ : Sg)]).length = n := ⟨_, rfl⟩
       rw [hxn6] at ox2 ox4 ⊢
       have v6 := SkAt.growX (X' := X6) (xn' := xn6) (xc' := xc6) HW_6.out hg6 AW_6.out.far ox1 hxn6 (show Sl _ _ _ from ⟨ox4, ox2, ox3⟩)
       have hin6 : ∀ b, fullBlock (.slice X6 xn6 xc6) = some b → base ≤ b := fun b e => by
        have h1 := full_own e
        rw [← hxn6] at h1
        exact ho6.rowLt b h1
       have hH6 : On (fun k => k < w4.heap.size ∧ (Value.slice X3 xn3 xc3).ownBlock ≠ some k ∧ k ≠ gu) w4 w6 := hHeld.grown hg6 (fun k hk => by have := hk.1; have := hHeld.size; omega) (fun k e hk => hk.2.1 e)
       dsimp only at v6
       have xU := Lib.hid u6
       have xZ := Lib.hid z6
       have xP := Lib.hid p6
       have xL := Lib.hid l6
       have xV := Lib.hid v6
       have xI := Lib.hid hin6
       clear u6 z6 p6 l6 v6 hin6 ox1 ox2 ox3 ox4 ho6 hg6 hxn6 hnu hnz hnp hrow hAT
       clear HL_6 S_6 R_6 Z_6 P_6 HW_6 AW_6 U_6
       refine hK.out _ _ hH6 (fun hHeld => ?_)
       clear hK K0
       (try simp only [Act.put, sA, sB, sC])
       refine tk 6 31 (v := ?_) ?_ ?_
       rotate_left
       · intro w' hSw
         go_simp
         (try with_reducible rfl)
       (try simp only [Act.put, sA, sB, sC])
       have u2 := xU.out.cell 2 rfl
       have f2 := xU.out.loose 2
       refine wpAnyH_ready (rs := [7]) (by kernel_rfl) (by simp) ?_
       refine AllReadyH.cons (i := 7) rfl (fun K0 hK => ?_) AllReadyH.nil
       go_simp
       refine hK.out _ (w6.setCell ⟨gu, 2, none⟩ (.slice X6 xn6 xc6)) (hHeld.setCell (p := ⟨gu, 2, none⟩) (fun e => e.2.2 rfl) _) (fun hHeld => ?_)
       clear hK K0
       (try simp only [Act.put, sA, sB, sC])
       refine wpAnyH_done (by kernel_rfl) ?_ _
       clear hHeld u2 f2
       have yU := Lib.hid (show Blk (w6.setCell ⟨gu, 2, none⟩ (.slice X6 xn6 xc6)) gu 35 #[.slice A3 n3 c3, .slice B3 q3 d3, .slice X6 xn6 xc6, .slice Y3 yn3 yc3, .int .i64 t3] from xU.out.set 2 _)
       have yZ := Lib.hid (xZ.out.setOther (b := gu) (by omega) 2 (.slice X6 xn6 xc6))
       have yP := Lib.hid (xP.out.setOther (b := gu) (by omega) 2 (.slice X6 xn6 xc6))
       have yL := Lib.hid (xL.out.setCell (p := ⟨gu, 2, none⟩) (by dsimp only; omega) (.slice X6 xn6 xc6))
       have yV := Lib.hid (xV.out.far xU.out (thin_st _ _ _ _ _ _ _ _ _ _ _ _ _) (w' := w6.setCell ⟨gu, 2, none⟩ (.slice X6 xn6 xc6)) (fun k hk => Below.heap_setCell _ _ _ _ hk))
       clear xU xZ xP xL xV
       generalize w6.setCell ⟨gu, 2, none⟩ (.slice X6 xn6 xc6) = w7 at yU yZ yP yL yV ⊢
       obtain ⟨x0, x1, x2, x3, x4⟩ := (show _ ∧ _ ∧ _ ∧ _ ∧ _ from ⟨yU.out.cell 0 rfl, yU.out.cell 1 rfl, yU.out.cell 2 rfl, yU.out.cell 3 rfl, yU.out.cell 4 rfl⟩)
       obtain ⟨y0, y1, y2, y3, y4⟩ := (show _ ∧ _ ∧ _ ∧ _ ∧ _ from ⟨yZ.out.cell 0 rfl, yZ.out.cell 1 rfl, yZ.out.cell 2 rfl, yZ.out.cell 3 rfl, yZ.out.cell 4 rfl⟩)
       obtain ⟨f0, f1, f2, f3, f4⟩ := (show _ ∧ _ ∧ _ ∧ _ ∧ _ from ⟨yZ.out.loose 0, yZ.out.loose 1, yZ.out.loose 2, yZ.out.loose 3, yZ.out.loose 4⟩)
       obtain ⟨z0, z1⟩ := (show _ ∧ _ from ⟨yP.out.cell 0 rfl, yP.out.cell 1 rfl⟩)
       obtain ⟨e0, e1⟩ := (show _ ∧ _ from ⟨yP.out.loose 0, yP.out.loose 1⟩)
       go_wp2
       have P6 := st_other yP.out (show w.heap.size + 1 + 1 ≠ w.heap.size + 1 + 1 + 1 by omega) (.slice A3 n3 c3) (.slice B3 q3 d3) (.slice X6 xn6 xc6) (.slice Y3 yn3 yc3) (.int .i64 t3)
       have HT2 := rp_other (st_put yZ.out rfl (.slice A3 n3 c3) (.slice B3 q3 d3) (.slice X6 xn6 xc6) (.slice Y3 yn3 yc3) (.int .i64 t3)) (show w.heap.size + 1 + 1 + 1 ≠ w.heap.size + 1 + 1 by omega) (.int .i64 10) (.int .i64 0)
       have HT3 := rp_put P6 rfl (.int .i64 10) (.int .i64 0)
       have HTV := sk_rp (sk_zero yV.out yZ.out (.slice A3 n3 c3) (.slice B3 q3 d3) (.slice X6 xn6 xc6) (.slice Y3 yn3 yc3) (.int .i64 t3)) P6 (.int .i64 10) (.int .i64 0)
       have HTB := rp_below (st_below yL.out (show base ≤ w.heap.size + 1 + 1 by omega) (.slice A3 n3 c3) (.slice B3 q3 d3) (.slice X6 xn6 xc6) (.slice Y3 yn3 yc3) (.int .i64 t3)) (show base ≤ w.heap.size + 1 + 1 + 1 by omega) (.int .i64 10) (.int .i64 0)
       refine bodyPost_ret (results_two (p := 4) (q := 5) (ty := 35) (tz := 46) rfl _ _ (w.heap.size + 1 + 1) (w.heap.size + 1 + 1 + 1) _ _ _ _ (0, 0) _ _ rfl HT2 Tryz.underlying35 rfl (by kernel_rfl) rfl HT3 Tryz.underlying46 rfl (by kernel_rfl)) rfl ?_
       exact ⟨⟨A3, n3, c3, B3, q3, d3, X6, xn6, xc6, Y3, yn3, yc3, t3⟩, rfl, HTV, HTB, fun p hp hq => ⟨(HNa.out p (fun b hb => hp b (by omega)) hq).1, (HNa.out p (fun b hb => hp b (by omega)) hq).2.1, fun b e => hp b (xI.out b e), (HNa.out p (fun b hb => hp b (by omega)) hq).2.2.2⟩⟩
 · have hev : errV E3 = eno E3 := by rw [errV, if_neg he]
   rw [hev] at HRS HFA
   rw [if_neg he]
   clear he hev HBG
   go_enter Tryz.func109, Tryz.ntmps109
   go_upto_region 1 with fail
   have al := (Below.refl w.heap.size w).alloc (Nat.le_refl _) (.cells #[.slice A0 n0 c0, .slice B0 q0 d0, .slice X0 xn0 xc0, .slice Y0 yn0 yc0, .int .i64 t0] 35)
   replace al := al.alloc (by simp; try omega) (.cells (rqC rk ro ra rb rm rl ru) 42)
   replace al := al.alloc (by simp; try omega) (.cells st0 35)
   replace al := al.alloc (by simp; try omega) (.cells rp0 46)
   have nb0 := (((Blk.new w 35 #[.slice A0 n0 c0, .slice B0 q0 d0, .slice X0 xn0 xc0, .slice Y0 yn0 yc0, .int .i64 t0]).more (.cells (rqC rk ro ra rb rm rl ru) 42)).more (.cells st0 35)).more (.cells rp0 46)
   have nb1 := ((Blk.new (w.alloc (.cells #[.slice A0 n0 c0, .slice B0 q0 d0, .slice X0 xn0 xc0, .slice Y0 yn0 yc0, .int .i64 t0] 35)) 42 (rqC rk ro ra rb rm rl ru)).more (.cells st0 35)).more (.cells rp0 46)
   rw [alloc_size] at nb1
   have nb2 := (Blk.new ((w.alloc (.cells #[.slice A0 n0 c0, .slice B0 q0 d0, .slice X0 xn0 xc0, .slice Y0 yn0 yc0, .int .i64 t0] 35)).alloc (.cells (rqC rk ro ra rb rm rl ru) 42)) 35 st0).more (.cells rp0 46)
   rw [alloc_size, alloc_size] at nb2
   have nb3 := Blk.new (((w.alloc (.cells #[.slice A0 n0 c0, .slice B0 q0 d0, .slice X0 xn0 xc0, .slice Y0 yn0 yc0, .int .i64 t0] 35)).alloc (.cells (rqC rk ro ra rb rm rl ru) 42)).alloc (.cells st0 35)) 46 rp0
   rw [alloc_size, alloc_size, alloc_size] at nb3
   have HL_1 := Lib.hid (HL_0.out.trans (al.mono HL_0.out.size))
   clear al HL_0
   have S_1 := Lib.hid (nb0)
   have R_1 := Lib.hid (nb1)
   have Z_1 := Lib.hid (nb2)
   have P_1 := Lib.hid (nb3)
   clear nb0 nb1 nb2 nb3
   generalize (((w.alloc (.cells #[.slice A0 n0 c0, .slice B0 q0 d0, .slice X0 xn0 xc0, .slice Y0 yn0 yc0, .int .i64 t0] 35)).alloc (.cells (rqC rk ro ra rb rm rl ru) 42)).alloc (.cells st0 35)).alloc (.cells rp0 46) = w1 at HL_1 S_1 R_1 Z_1 P_1 ⊢
   have hz1 : w.heap.size + 1 + 1 + 1 < w1.heap.size := P_1.out.lt
   obtain ⟨x0, x1, x2, x3, x4⟩ := (show _ ∧ _ ∧ _ ∧ _ ∧ _ from ⟨S_1.out.cell 0 rfl, S_1.out.cell 1 rfl, S_1.out.cell 2 rfl, S_1.out.cell 3 rfl, S_1.out.cell 4 rfl⟩)
   obtain ⟨r0, r1, r2, r3, r4, r5, r6⟩ := (show _ ∧ _ ∧ _ ∧ _ ∧ _ ∧ _ ∧ _ from ⟨R_1.out.cell 0 rfl, R_1.out.cell 1 rfl, R_1.out.cell 2 rfl, R_1.out.cell 3 rfl, R_1.out.cell 4 rfl, R_1.out.cell 5 rfl, R_1.out.cell 6 rfl⟩)
   go_upto_region 2 with (first
     | (go_at_call 102; refine (HRS.out _ HL_1.out).mono ?_; rintro _ w3 ⟨V3, rfl, hv, hb, hn, hap⟩
        obtain ⟨A3, n3, c3, B3, q3, d3, X3, xn3, xc3, Y3, yn3, yc3, t3⟩ := V3
        dsimp only at hv hn hap ⊢
        have HVa := Lib.hid hv
        have HXa := Lib.hid hb
        have HNa := Lib.hid hn
        have HAa := Lib.hid (hap base (by have := HL_1.out.size; omega) (HAP.out _ HL_1.out))
        clear hv hb hn hap x0 x1 x2 x3 x4 r0 r1 r2 r3 r4 r5 r6))
   have hsw2 := HL_1.out.size
   have HL_2 := Lib.hid (HL_1.out.trans (HXa.out.mono HL_1.out.size))
   have S_2 := Lib.hid (S_1.out.later HXa.out)
   have R_2 := Lib.hid (R_1.out.later HXa.out)
   have Z_2 := Lib.hid (Z_1.out.later HXa.out)
   have P_2 := Lib.hid (P_1.out.later HXa.out)
   clear HL_1 S_1 R_1 Z_1 P_1
   have HW_2 := Lib.hid (HVa.out)
   have AW_2 := Lib.hid (HAa.out)
   clear HVa HAa HXa HRS
   have hsw3 := HL_2.out.size
   have hz3 : w.heap.size + 1 + 1 + 1 < w3.heap.size := P_2.out.lt
   have al := (Below.refl w3.heap.size w3).alloc (Nat.le_refl _) (.cells #[.slice A3 n3 c3, .slice B3 q3 d3, .slice X3 xn3 xc3, .slice Y3 yn3 yc3, .int .i64 t3] 35)
   have nb0 := Blk.new w3 35 #[.slice A3 n3 c3, .slice B3 q3 d3, .slice X3 xn3 xc3, .slice Y3 yn3 yc3, .int .i64 t3]
   have HL_3 := Lib.hid (HL_2.out.trans (al.mono HL_2.out.size))
   have S_3 := Lib.hid (S_2.out.later al)
   have R_3 := Lib.hid (R_2.out.later al)
   have Z_3 := Lib.hid (Z_2.out.later al)
   have P_3 := Lib.hid (P_2.out.later al)
   have HW_3 := Lib.hid (HW_2.out.below al)
   have AW_3 := Lib.hid (AW_2.out.below al)
   clear al HL_2 S_2 R_2 Z_2 P_2 HW_2 AW_2
   have U_3 := Lib.hid (nb0)
   clear nb0
   generalize w3.alloc (.cells #[.slice A3 n3 c3, .slice B3 q3 d3, .slice X3 xn3 xc3, .slice Y3 yn3 yc3, .int .i64 t3] 35) = w4 at HL_3 S_3 R_3 Z_3 P_3 HW_3 AW_3 U_3 ⊢
   generalize w3.heap.size = gu at U_3 hsw3 hz3 ⊢
   have hsw4 := HL_3.out.size
   clear HW_3 AW_3 U_3
   go_upto_region 4 with (first
     | (go_at_call 107; refine (HFA.out _ HL_3.out).mono ?_; rintro _ w6 ⟨rfl, hb⟩
        have HXb := Lib.hid hb
        clear hb))
   have HL_4 := Lib.hid (HL_3.out.trans (HXb.out.mono HL_3.out.size))
   have S_4 := Lib.hid (S_3.out.later HXb.out)
   have R_4 := Lib.hid (R_3.out.later HXb.out)
   have Z_4 := Lib.hid (Z_3.out.later HXb.out)
   have P_4 := Lib.hid (P_3.out.later HXb.out)
   clear HL_3 S_3 R_3 Z_3 P_3
   clear HXb HFA
   have hsw6 := HL_4.out.size
   have hz6 : w.heap.size + 1 + 1 + 1 < w6.heap.size := P_4.out.lt
   have al := (Below.refl w6.heap.size w6).alloc (Nat.le_refl _) (.cells #[.int .i64 E3, .int .i64 0] 46)
   have nb0 := Blk.new w6 46 #[.int .i64 E3, .int .i64 0]
   have HL_5 := Lib.hid (HL_4.out.trans (al.mono HL_4.out.size))
   have S_5 := Lib.hid (S_4.out.later al)
   have R_5 := Lib.hid (R_4.out.later al)
   have Z_5 := Lib.hid (Z_4.out.later al)
   have P_5 := Lib.hid (P_4.out.later al)
   clear al HL_4 S_4 R_4 Z_4 P_4
   have Q_5 := Lib.hid (nb0)
   clear nb0
   generalize w6.alloc (.cells #[.int .i64 E3, .int .i64 0] 46) = w7 at HL_5 S_5 R_5 Z_5 P_5 Q_5 ⊢
   generalize w6.heap.size = gq at Q_5 hsw6 hz6 ⊢
   have hsw7 := HL_5.out.size
   refine wp_region_held_drew (S := fun w' => On (fun k => k < w7.heap.size ∧ k ≠ w.heap.size + 1 + 1 ∧ k ≠ w.heap.size + 1 + 1 + 1) w7 w') (by kernel_rfl) (On.refl _ w7).drew (fun hHeld => ?_)
   refine tk 0 19 (v := ?_) ?_ ?_
   rotate_left
   · intro w' hSw
     have hSw' := hSw
     (try dsimp only at hSw')
     obtain ⟨k0, k1, k2, k3, k4⟩ := (show _ ∧ _ ∧ _ ∧ _ ∧ _ from ⟨(Blk.on S_5.out hSw' ⟨S_5.out.lt, by omega, by omega⟩).cell 0 rfl, (Blk.on S_5.out hSw' ⟨S_5.out.lt, by omega, by omega⟩).cell 1 rfl, (Blk.on S_5.out hSw' ⟨S_5.out.lt, by omega, by omega⟩).cell 2 rfl, (Blk.on S_5.out hSw' ⟨S_5.out.lt, by omega, by omega⟩).cell 3 rfl, (Blk.on S_5.out hSw' ⟨S_5.out.lt, by omega, by omega⟩).cell 4 rfl⟩)
     go_simp
     (try with_reducible rfl)
   (try simp only [Act.put, sA, sB, sC])
   refine tk 1 20 (v := ?_) ?_ ?_
   rotate_left
   · intro w' hSw
     go_simp
     (try with_reducible rfl)
   (try simp only [Act.put, sA, sB, sC])
   refine tk 2 21 (v := ?_) ?_ ?_
   rotate_left
   · intro w' hSw
     have hSw' := hSw
     (try dsimp only at hSw')
     have j0 := (Blk.on R_5.out hSw' ⟨R_5.out.lt, by omega, by omega⟩).cell 0 rfl
     go_simp
     (try with_reducible rfl)
   (try simp only [Act.put, sA, sB, sC])
   refine tk 3 22 (v := ?_) ?_ ?_
   rotate_left
   · intro w' hSw
     have hSw' := hSw
     (try dsimp only at hSw')
     obtain ⟨j0, j1⟩ := (show _ ∧ _ from ⟨(Blk.on Q_5.out hSw' ⟨Q_5.out.lt, by omega, by omega⟩).cell 0 rfl, (Blk.on Q_5.out hSw' ⟨Q_5.out.lt, by omega, by omega⟩).cell 1 rfl⟩)
     go_simp
     (try with_reducible rfl)
   (try simp only [Act.put, sA, sB, sC])
   refine tk 5 24 (v := ?_) ?_ ?_
   rotate_left
   · intro w' hSw
     have hSw' := hSw
     (try dsimp only at hSw')
     obtain ⟨j0, j1⟩ := (show _ ∧ _ from ⟨(Blk.on Q_5.out hSw' ⟨Q_5.out.lt, by omega, by omega⟩).cell 0 rfl, (Blk.on Q_5.out hSw' ⟨Q_5.out.lt, by omega, by omega⟩).cell 1 rfl⟩)
     go_simp
     (try with_reducible rfl)
   (try simp only [Act.put, sA, sB, sC])
   have hbd : Below w7.heap.size w7 w7.drew := (Below.refl _ _).drew
   have HL_6 := Lib.hid (HL_5.out.trans (hbd.mono HL_5.out.size))
   have S_6 := Lib.hid (S_5.out.later hbd)
   have R_6 := Lib.hid (R_5.out.later hbd)
   have Z_6 := Lib.hid (Z_5.out.later hbd)
   have P_6 := Lib.hid (P_5.out.later hbd)
   have Q_6 := Lib.hid (Q_5.out.later hbd)
   clear HL_5 S_5 R_5 Z_5 P_5 Q_5
   clear hbd
   have hzd : w7.drew.heap.size = w7.heap.size := rfl
   have HZD := Lib.hid hzd
   clear hzd
   generalize w7.drew = wd at hHeld HZD HL_6 S_6 R_6 Z_6 P_6 Q_6 ⊢
   refine wpAnyH_ready (rs := [4]) (by kernel_rfl) (by simp) ?_
   refine AllReadyH.cons (i := 4) rfl (fun K0 hK => ?_) AllReadyH.nil
   go_simp
   go_at_call 110
   refine (HTD.out wd HL_6.out).mono ?_
   rintro _ w8 ⟨V5, rfl, hv, hb, hnw⟩
   obtain ⟨A5, n5, c5, B5, q5, d5, X5, xn5, xc5, Y5, yn5, yc5, t5⟩ := V5
   dsimp only at hv hnw ⊢
   have HV5 := Lib.hid hv
   have HNW := Lib.hid hnw
   have hH8 : On (fun k => k < w7.heap.size ∧ k ≠ w.heap.size + 1 + 1 ∧ k ≠ w.heap.size + 1 + 1 + 1) w7 w8 := hHeld.trans (On.of hb (fun k hk => by have := hk.1; have := HZD.out; omega))
   have hszd : wd.heap.size = w7.heap.size := HZD.out
   have HL_7 := Lib.hid (HL_6.out.trans (hb.mono HL_6.out.size))
   have S_7 := Lib.hid (S_6.out.later hb)
   have R_7 := Lib.hid (R_6.out.later hb)
   have Z_7 := Lib.hid (Z_6.out.later hb)
   have P_7 := Lib.hid (P_6.out.later hb)
   have Q_7 := Lib.hid (Q_6.out.later hb)
   clear HL_6 S_6 R_6 Z_6 P_6 Q_6
   clear hv hb hnw
   refine hK.out _ _ hH8 (fun hHeld => ?_)
   clear hK K0
   (try simp only [Act.put, sA, sB, sC])
   clear hH8
   obtain ⟨y0, y1, y2, y3, y4⟩ := (show _ ∧ _ ∧ _ ∧ _ ∧ _ from ⟨Z_7.out.cell 0 rfl, Z_7.out.cell 1 rfl, Z_7.out.cell 2 rfl, Z_7.out.cell 3 rfl, Z_7.out.cell 4 rfl⟩)
   obtain ⟨f0, f1, f2, f3, f4⟩ := (show _ ∧ _ ∧ _ ∧ _ ∧ _ from ⟨Z_7.out.loose 0, Z_7.out.loose 1, Z_7.out.loose 2, Z_7.out.loose 3, Z_7.out.loose 4⟩)
   refine wpAnyH_ready (rs := [6]) (by kernel_rfl) (by simp) ?_
   refine AllReadyH.cons (i := 6) rfl (fun K0 hK => ?_) AllReadyH.nil
   go_simp
   refine hK.out _ (((((w8.setCell ⟨w.heap.size + 1 + 1, 0, none⟩ (.slice A5 n5 c5)).setCell ⟨w.heap.size + 1 + 1, 1, none⟩ (.slice B5 q5 d5)).setCell ⟨w.heap.size + 1 + 1, 2, none⟩ (.slice X5 xn5 xc5)).setCell ⟨w.heap.size + 1 + 1, 3, none⟩ (.slice Y5 yn5 yc5)).setCell ⟨w.heap.size + 1 + 1, 4, none⟩ (.int .i64 t5)) (est_on hHeld (fun e => e.2.1 rfl) (.slice A5 n5 c5) (.slice B5 q5 d5) (.slice X5 xn5 xc5) (.slice Y5 yn5 yc5) (.int .i64 t5)) (fun hHeld => ?_)
   clear hK K0
   (try simp only [Act.put, sA, sB, sC])
   clear y0 y1 y2 y3 y4 f0 f1 f2 f3 f4
   have P6 := st_other P_7.out (show w.heap.size + 1 + 1 ≠ w.heap.size + 1 + 1 + 1 by omega) (.slice A5 n5 c5) (.slice B5 q5 d5) (.slice X5 xn5 xc5) (.slice Y5 yn5 yc5) (.int .i64 t5)
   obtain ⟨z0, z1⟩ := (show _ ∧ _ from ⟨P6.cell 0 rfl, P6.cell 1 rfl⟩)
   obtain ⟨e0, e1⟩ := (show _ ∧ _ from ⟨P6.loose 0, P6.loose 1⟩)
   refine wpAnyH_ready (rs := [7]) (by kernel_rfl) (by simp) ?_
   refine AllReadyH.cons (i := 7) rfl (fun K0 hK => ?_) AllReadyH.nil
   go_simp
   refine hK.out _ (((((((w8.setCell ⟨w.heap.size + 1 + 1, 0, none⟩ (.slice A5 n5 c5)).setCell ⟨w.heap.size + 1 + 1, 1, none⟩ (.slice B5 q5 d5)).setCell ⟨w.heap.size + 1 + 1, 2, none⟩ (.slice X5 xn5 xc5)).setCell ⟨w.heap.size + 1 + 1, 3, none⟩ (.slice Y5 yn5 yc5)).setCell ⟨w.heap.size + 1 + 1, 4, none⟩ (.int .i64 t5)).setCell ⟨w.heap.size + 1 + 1 + 1, 0, none⟩ (.int .i64 E3)).setCell ⟨w.heap.size + 1 + 1 + 1, 1, none⟩ (.int .i64 0)) (erp_on hHeld (fun e => e.2.2 rfl) _ _) (fun hHeld => ?_)
   clear hK K0
   (try simp only [Act.put, sA, sB, sC])
   refine wpAnyH_done (by kernel_rfl) ?_ _
   clear hHeld z0 z1 e0 e1
   go_wp2
   have HT2 := rp_other (st_put Z_7.out rfl (.slice A5 n5 c5) (.slice B5 q5 d5) (.slice X5 xn5 xc5) (.slice Y5 yn5 yc5) (.int .i64 t5)) (show w.heap.size + 1 + 1 + 1 ≠ w.heap.size + 1 + 1 by omega) (.int .i64 E3) (.int .i64 0)
   have HT3 := rp_put P6 rfl (.int .i64 E3) (.int .i64 0)
   have HTV := sk_rp (sk_zero HV5.out Z_7.out (.slice A5 n5 c5) (.slice B5 q5 d5) (.slice X5 xn5 xc5) (.slice Y5 yn5 yc5) (.int .i64 t5)) P6 (.int .i64 E3) (.int .i64 0)
   have HTB := rp_below (st_below (HL_7.out.mono hbase) (show base ≤ w.heap.size + 1 + 1 by omega) (.slice A5 n5 c5) (.slice B5 q5 d5) (.slice X5 xn5 xc5) (.slice Y5 yn5 yc5) (.int .i64 t5)) (show base ≤ w.heap.size + 1 + 1 + 1 by omega) (.int .i64 E3) (.int .i64 0)
   refine bodyPost_ret (results_two (p := 4) (q := 5) (ty := 35) (tz := 46) rfl _ _ (w.heap.size + 1 + 1) (w.heap.size + 1 + 1 + 1) _ _ _ _ (0, 0) _ _ rfl HT2 Tryz.underlying35 rfl (by kernel_rfl) rfl HT3 Tryz.underlying46 rfl (by kernel_rfl)) rfl ?_
   exact ⟨⟨A5, n5, c5, B5, q5, d5, X5, xn5, xc5, Y5, yn5, yc5, t5⟩, rfl, HTV, HTB, fun p hp hq => HNW.out p (fun b hb => hp b (by omega)) hq⟩
end Go.Proofs.YteifgmdaggiaaaaGreatDoor
