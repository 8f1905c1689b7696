/-
  A request is executed: the program's execute by its contract.
-/
import Derived.Test.YteifgmdaggiaaaaGreatDoorWBankTr
import Derived.Test.YteifgmdaggiaaaaGreatDoorWGrN
set_option linter.unusedSimpArgs false
namespace Go.Proofs.YteifgmdaggiaaaaGreatDoor
open Go Go.RowKit
set_option linter.unusedVariables false
/-- A state, a reply, so many answers used; nothing else below is turned. -/
def ExRes (w : World) (V : Sv) (g : Nat) (la : Option Addr) (ln lc : Nat) (ls : List Bool) (sl : List Sg) (kl : List Kn) (T : St) (E I : Int) (n : Nat) (e : Ending) (w' : World) : Prop :=
 ∃ V' : Sv, e = .returned (.tuple #[V'.val, .agg #[.int .i64 E, .int .i64 I]]) ∧ SkAt w' V' T sl kl ∧ AnsAt w' g la ln lc ls n ∧ On (fun k => k < w.heap.size ∧ k ≠ g) w w' ∧ V.new V' w.heap.size
set_option maxRecDepth 100000 in
set_option maxHeartbeats 4000000 in
theorem bexecute_any (V : Sv) (T : St) (sl : List Sg) (kl : List Kn) (r : Rq) (w : World) (g : Nat) (la : Option Addr) (ln lc : Nat) (ls : List Bool) (h : SkAt w V T sl kl) (hf : Fits T sl kl) (hh : HasErr w) (ha : AnsAt w g la ln lc ls 0) (hm : ln ≤ 9223372036854775806) (hr : isLong r → 0 ≤ r.legs ∧ r.legs ≤ 4) :
  Calls Tryz.prog 38 #[V.val, r.val, nxV g] w (ExRes w V g la ln lc ls sl kl (exeT T r ls) (exeE T r ls) (exeI T r ls) (exeN T r ls)) := by
 have HA := Lib.hid ha
 have HH := Lib.hid hh
 have hgl : g < w.heap.size := ha.blk.lt
 have HLO := Lib.hid (fun W => long_any r W)
 unfold BoolRes at HLO
 unfold exeT exeE exeI exeN
 by_cases hl : isLong r
 · simp only [if_pos hl]
   rw [decide_eq_true (show r.op = 2 ∧ 0 < r.legs from hl)] at HLO
   have HTR := Lib.hid (fun W (hb : Below w.heap.size w W) => btransfer_any V T sl kl r W g la ln lc ls (h.below hb) hf (ha.below hb) hm (hr hl))
   generalize trf T r ls = R at HTR ⊢
   obtain ⟨T1, E1, n1⟩ := R
   obtain ⟨A, n, c, B, q, d, X, xn, xc, Y, yn, yc, t⟩ := V
   obtain ⟨k, o, a, b, m, l, u⟩ := r
   obtain ⟨q1, q2, q3, q4, q5⟩ := d4_all w #[.slice A n c, .slice B q d, .slice X xn xc, .slice Y yn yc, .int .i64 t] (rqC k o a b m l u)
   have HB1 := Lib.hid q1
   have HBR := Lib.hid q2
   have HBZ := Lib.hid q3
   have HBP := Lib.hid q4
   have HBL := Lib.hid q5
   have HNB := Lib.hid (fun W (hx : HasErr W) => failed_any E1 W hx)
   unfold TrRes at HTR
   unfold Sv.val Sv.cells Rq.val at HTR ⊢
   unfold Rq.val at HLO
   dsimp only at HTR HLO ⊢
   generalize errV E1 = ev at HTR HNB
   clear h hf hh ha hm hr q1 q2 q3 q4 q5 hl
   go_enter Tryz.func38, Tryz.ntmps38
   go_upto_region 1 with fail
   generalize ((((w.alloc (.cells #[.slice A n c, .slice B q d, .slice X xn xc, .slice Y yn yc, .int .i64 t] 35)).alloc (.cells (rqC k o a b m l u) 42)).alloc (.cells st0 35)).alloc (.cells rp0 46)) = w4 at HB1 HBR HBZ HBP HBL ⊢
   obtain ⟨r0, r1, r2, r3, r4, r5, r6⟩ := (show _ ∧ _ ∧ _ ∧ _ ∧ _ ∧ _ ∧ _ from ⟨HBR.out.cell 0 rfl, HBR.out.cell 1 rfl, HBR.out.cell 2 rfl, HBR.out.cell 3 rfl, HBR.out.cell 4 rfl, HBR.out.cell 5 rfl, HBR.out.cell 6 rfl⟩)
   go_upto_region 3 with (first | (go_at_call 74; refine (HLO.out _).mono ?_; rintro _ w5 ⟨rfl, hb5⟩))
   have HL5 := Lib.hid (HBL.out.trans (hb5.mono HBL.out.size))
   have HB5 := Lib.hid (HB1.out.later hb5)
   have HR5 := Lib.hid (HBR.out.later hb5)
   have HZ5 := Lib.hid (HBZ.out.later hb5)
   have HP5 := Lib.hid (HBP.out.later hb5)
   have hz5 : w.heap.size + 1 + 1 + 1 < w5.heap.size := HP5.out.lt
   clear hb5 r0 r1 r2 r3 r4 r5 r6 HB1 HBR HBZ HBP HBL HLO
   obtain ⟨x0, x1, x2, x3, x4⟩ := (show _ ∧ _ ∧ _ ∧ _ ∧ _ from ⟨HB5.out.cell 0 rfl, HB5.out.cell 1 rfl, HB5.out.cell 2 rfl, HB5.out.cell 3 rfl, HB5.out.cell 4 rfl⟩)
   obtain ⟨r0, r1, r2, r3, r4, r5, r6⟩ := (show _ ∧ _ ∧ _ ∧ _ ∧ _ ∧ _ ∧ _ from ⟨HR5.out.cell 0 rfl, HR5.out.cell 1 rfl, HR5.out.cell 2 rfl, HR5.out.cell 3 rfl, HR5.out.cell 4 rfl, HR5.out.cell 5 rfl, HR5.out.cell 6 rfl⟩)
   go_upto_region 4 with (first
     | (go_at_call 76; refine (HTR.out _ HL5.out).mono ?_; rintro _ w6 ⟨V6, rfl, hv6, ha6, ho6, hn6⟩
        obtain ⟨A6, n6, c6, B6, q6, d6, X6, xn6, xc6, Y6, yn6, yc6, t6⟩ := V6
        dsimp only at hv6 ⊢
        have HV6 := Lib.hid hv6
        have HA6 := Lib.hid ha6
        have HN6 := Lib.hid hn6
        have HY6 := Lib.hid ho6
        clear hv6 ha6 ho6 hn6 x0 x1 x2 x3 x4 r0 r1 r2 r3 r4 r5 r6))
   have HZ6 := Lib.hid (Blk.on HZ5.out HY6.out ⟨HZ5.out.lt, by omega⟩)
   have HP6 := Lib.hid (Blk.on HP5.out HY6.out ⟨HP5.out.lt, by omega⟩)
   have HO6 := Lib.hid ((On.of (F := fun k => k < w.heap.size ∧ k ≠ g) HL5.out (fun k hk => hk.1)).trans (On.of_on HY6.out (fun k hk => ⟨by have := hk.1; omega, hk.2⟩)))
   have hz6 := HY6.out.size
   have HZ7 := Lib.hid (HZ6.out.more (.cells #[.slice A6 n6 c6, .slice B6 q6 d6, .slice X6 xn6 xc6, .slice Y6 yn6 yc6, .int .i64 t6] 35))
   have HP7 := Lib.hid (HP6.out.more (.cells #[.slice A6 n6 c6, .slice B6 q6 d6, .slice X6 xn6 xc6, .slice Y6 yn6 yc6, .int .i64 t6] 35))
   have HN7 := Lib.hid (Blk.new w6 35 #[.slice A6 n6 c6, .slice B6 q6 d6, .slice X6 xn6 xc6, .slice Y6 yn6 yc6, .int .i64 t6])
   have al7 := (Below.refl w6.heap.size w6).alloc (Nat.le_refl _) (.cells #[.slice A6 n6 c6, .slice B6 q6 d6, .slice X6 xn6 xc6, .slice Y6 yn6 yc6, .int .i64 t6] 35)
   have HV7 := Lib.hid (HV6.out.below al7)
   have HA7 := Lib.hid (HA6.out.below al7)
   have HO7 := Lib.hid (HO6.out.same al7 (fun k hk => by have := hk.1; omega))
   clear al7 HZ5 HP5 HB5 HR5 HY6 HL5 HZ6 HP6 HV6 HA6 HO6 HTR
   generalize w6.alloc (.cells #[.slice A6 n6 c6, .slice B6 q6 d6, .slice X6 xn6 xc6, .slice Y6 yn6 yc6, .int .i64 t6] 35) = w7 at HZ7 HP7 HN7 HV7 HA7 HO7 ⊢
   generalize w6.heap.size = g8 at HN7 hz6 ⊢
   have HH7 := Lib.hid (HH.out.on HA.out HO7.out)
   refine wp_region_held_drew (S := fun w' => Blk w' g8 35 #[.slice A6 n6 c6, .slice B6 q6 d6, .slice X6 xn6 xc6, .slice Y6 yn6 yc6, .int .i64 t6]) (by kernel_rfl) HN7.out.drew (fun hHeld => ?_)
   refine tk 0 25 (v := ?_) ?_ ?_
   rotate_left
   · intro w' hSw
     have hSw' := hSw
     (try dsimp only at hSw')
     obtain ⟨k0, k1, k2, k3, k4⟩ := (show _ ∧ _ ∧ _ ∧ _ ∧ _ from ⟨hSw'.cell 0 rfl, hSw'.cell 1 rfl, hSw'.cell 2 rfl, hSw'.cell 3 rfl, hSw'.cell 4 rfl⟩)
     go_simp
     (try with_reducible rfl)
   (try simp only [Act.put, sA, sB, sC])
   refine tk 1 26 (v := ?_) ?_ ?_
   rotate_left
   · intro w' hSw
     go_simp
     (try with_reducible rfl)
   (try simp only [Act.put, sA, sB, sC])
   refine wpAnyH_ready (rs := [2]) (by kernel_rfl) (by simp) ?_
   refine AllReadyH.cons (i := 2) rfl (fun K hK => ?_) AllReadyH.nil
   go_simp
   go_at_call 37
   refine (HNB.out _ (show HasErr w7.drew from HH7.out)).mono ?_
   rintro _ w8 ⟨rfl, hb8⟩
   have hb8' : Below w7.heap.size w7 w8 := (Below.refl w7.heap.size w7).drew.trans hb8
   have HZ8 := Lib.hid (HZ7.out.later hb8')
   have HP8 := Lib.hid (HP7.out.later hb8')
   have HN8 := Lib.hid (HN7.out.later hb8')
   have HV8 := Lib.hid (HV7.out.below hb8')
   have HA8 := Lib.hid (HA7.out.below hb8')
   have HO8 := Lib.hid (HO7.out.same hb8' (fun k hk => by have := hk.1; have := HO7.out.size; omega))
   refine hK.out _ _ HN8.out (fun hHeld => ?_)
   clear hK K hb8 hb8' HZ7 HP7 HN7 HV7 HA7 HO7 HH7
   (try simp only [Act.put, sA, sB, sC])
   obtain ⟨y0, y1, y2, y3, y4⟩ := (show _ ∧ _ ∧ _ ∧ _ ∧ _ from ⟨HZ8.out.cell 0 rfl, HZ8.out.cell 1 rfl, HZ8.out.cell 2 rfl, HZ8.out.cell 3 rfl, HZ8.out.cell 4 rfl⟩)
   obtain ⟨f0, f1, f2, f3, f4⟩ := (show _ ∧ _ ∧ _ ∧ _ ∧ _ from ⟨HZ8.out.loose 0, HZ8.out.loose 1, HZ8.out.loose 2, HZ8.out.loose 3, HZ8.out.loose 4⟩)
   refine wpAnyH_ready (rs := [3]) (by kernel_rfl) (by simp) ?_
   refine AllReadyH.cons (i := 3) rfl (fun K hK => ?_) AllReadyH.nil
   go_simp
   refine hK.out _ (((((w8.setCell ⟨w.heap.size + 1 + 1, 0, none⟩ (.slice A6 n6 c6)).setCell ⟨w.heap.size + 1 + 1, 1, none⟩ (.slice B6 q6 d6)).setCell ⟨w.heap.size + 1 + 1, 2, none⟩ (.slice X6 xn6 xc6)).setCell ⟨w.heap.size + 1 + 1, 3, none⟩ (.slice Y6 yn6 yc6)).setCell ⟨w.heap.size + 1 + 1, 4, none⟩ (.int .i64 t6)) (st_other HN8.out (by omega) (.slice A6 n6 c6) (.slice B6 q6 d6) (.slice X6 xn6 xc6) (.slice Y6 yn6 yc6) (.int .i64 t6)) (fun hHeld => ?_)
   clear hK K
   (try simp only [Act.put, sA, sB, sC])
   clear y0 y1 y2 y3 y4 f0 f1 f2 f3 f4
   have hp9 := st_other HP8.out (show w.heap.size + 1 + 1 ≠ w.heap.size + 1 + 1 + 1 by omega) (.slice A6 n6 c6) (.slice B6 q6 d6) (.slice X6 xn6 xc6) (.slice Y6 yn6 yc6) (.int .i64 t6)
   obtain ⟨z0, z1⟩ := (show _ ∧ _ from ⟨hp9.cell 0 rfl, hp9.cell 1 rfl⟩)
   obtain ⟨e0, e1⟩ := (show _ ∧ _ from ⟨hp9.loose 0, hp9.loose 1⟩)
   clear hp9
   refine wpAnyH_ready (rs := [4]) (by kernel_rfl) (by simp) ?_
   refine AllReadyH.cons (i := 4) rfl (fun K hK => ?_) AllReadyH.nil
   go_simp
   refine hK.out _ (((((((w8.setCell ⟨w.heap.size + 1 + 1, 0, none⟩ (.slice A6 n6 c6)).setCell ⟨w.heap.size + 1 + 1, 1, none⟩ (.slice B6 q6 d6)).setCell ⟨w.heap.size + 1 + 1, 2, none⟩ (.slice X6 xn6 xc6)).setCell ⟨w.heap.size + 1 + 1, 3, none⟩ (.slice Y6 yn6 yc6)).setCell ⟨w.heap.size + 1 + 1, 4, none⟩ (.int .i64 t6)).setCell ⟨w.heap.size + 1 + 1 + 1, 0, none⟩ (.int .i64 E1)).setCell ⟨w.heap.size + 1 + 1 + 1, 1, none⟩ (.int .i64 0)) (rp_other (st_other HN8.out (by omega) (.slice A6 n6 c6) (.slice B6 q6 d6) (.slice X6 xn6 xc6) (.slice Y6 yn6 yc6) (.int .i64 t6)) (by omega) _ _) (fun hHeld => ?_)
   clear hK K
   (try simp only [Act.put, sA, sB, sC])
   refine wpAnyH_done (by kernel_rfl) ?_ _
   go_wp2
   have HP := told_at HZ8.out HP8.out rfl rfl (by omega) (.slice A6 n6 c6) (.slice B6 q6 d6) (.slice X6 xn6 xc6) (.slice Y6 yn6 yc6) (.int .i64 t6) (.int .i64 E1) (.int .i64 0)
   have HPV := sk_rp (sk_zero HV8.out HZ8.out (.slice A6 n6 c6) (.slice B6 q6 d6) (.slice X6 xn6 xc6) (.slice Y6 yn6 yc6) (.int .i64 t6)) (st_other HP8.out (by omega) (.slice A6 n6 c6) (.slice B6 q6 d6) (.slice X6 xn6 xc6) (.slice Y6 yn6 yc6) (.int .i64 t6)) (.int .i64 E1) (.int .i64 0)
   have HPA := (HA8.out.st HZ8.out (by omega) (.slice A6 n6 c6) (.slice B6 q6 d6) (.slice X6 xn6 xc6) (.slice Y6 yn6 yc6) (.int .i64 t6)).rp (st_other HP8.out (by omega) (.slice A6 n6 c6) (.slice B6 q6 d6) (.slice X6 xn6 xc6) (.slice Y6 yn6 yc6) (.int .i64 t6)) (by omega) (.int .i64 E1) (.int .i64 0)
   have HPO := rp_on (st_on HO8.out (g := w.heap.size + 1 + 1) (by omega) (.slice A6 n6 c6) (.slice B6 q6 d6) (.slice X6 xn6 xc6) (.slice Y6 yn6 yc6) (.int .i64 t6)) (g := w.heap.size + 1 + 1 + 1) (by omega) (.int .i64 E1) (.int .i64 0)
   refine bodyPost_ret (results_two (p := 6) (q := 7) (ty := 35) (tz := 46) rfl _ _ (w.heap.size + 1 + 1) (w.heap.size + 1 + 1 + 1) _ _ _ _ (0, 0) _ _ rfl HP.1 Tryz.underlying35 rfl (by kernel_rfl) rfl HP.2 Tryz.underlying46 rfl (by kernel_rfl)) rfl ?_
   exact ⟨⟨A6, n6, c6, B6, q6, d6, X6, xn6, xc6, Y6, yn6, yc6, t6⟩, rfl, HPV, HPA, HPO, fun p hp hq => HN6.out p (fun b hb => hp b (by omega)) hq⟩
 · simp only [if_neg hl]
   rw [decide_eq_false (show ¬ (r.op = 2 ∧ 0 < r.legs) from hl)] at HLO
   have HDO := Lib.hid (fun W (hb : Below w.heap.size w W) => sk_do V T sl kl r W (h.below hb) (hh.below hb) hf.rt hf.q hf.sl hf.kl)
   generalize opS T r = T1 at HDO ⊢
   generalize opE T r = E1 at HDO ⊢
   generalize opI T r = I1 at HDO ⊢
   obtain ⟨A, n, c, B, q, d, X, xn, xc, Y, yn, yc, t⟩ := V
   obtain ⟨k, o, a, b, m, l, u⟩ := r
   obtain ⟨q1, q2, q3, q4, q5⟩ := d4_all w #[.slice A n c, .slice B q d, .slice X xn xc, .slice Y yn yc, .int .i64 t] (rqC k o a b m l u)
   have HB1 := Lib.hid q1
   have HBR := Lib.hid q2
   have HBZ := Lib.hid q3
   have HBP := Lib.hid q4
   have HBL := Lib.hid q5
   unfold Sv.val Sv.cells Rq.val at HDO ⊢
   unfold Rq.val at HLO
   dsimp only at HDO HLO ⊢
   clear h hf hh ha hm hr q1 q2 q3 q4 q5 hl
   go_enter Tryz.func38, Tryz.ntmps38
   go_upto_region 1 with fail
   generalize ((((w.alloc (.cells #[.slice A n c, .slice B q d, .slice X xn xc, .slice Y yn yc, .int .i64 t] 35)).alloc (.cells (rqC k o a b m l u) 42)).alloc (.cells st0 35)).alloc (.cells rp0 46)) = w4 at HB1 HBR HBZ HBP HBL ⊢
   obtain ⟨r0, r1, r2, r3, r4, r5, r6⟩ := (show _ ∧ _ ∧ _ ∧ _ ∧ _ ∧ _ ∧ _ from ⟨HBR.out.cell 0 rfl, HBR.out.cell 1 rfl, HBR.out.cell 2 rfl, HBR.out.cell 3 rfl, HBR.out.cell 4 rfl, HBR.out.cell 5 rfl, HBR.out.cell 6 rfl⟩)
   go_upto_region 2 with (first | (go_at_call 74; refine (HLO.out _).mono ?_; rintro _ w5 ⟨rfl, hb5⟩))
   have HL5 := Lib.hid (HBL.out.trans (hb5.mono HBL.out.size))
   have HB5 := Lib.hid (HB1.out.later hb5)
   have HR5 := Lib.hid (HBR.out.later hb5)
   have HZ5 := Lib.hid (HBZ.out.later hb5)
   have HP5 := Lib.hid (HBP.out.later hb5)
   have hz5 : w.heap.size + 1 + 1 + 1 < w5.heap.size := HP5.out.lt
   clear hb5 r0 r1 r2 r3 r4 r5 r6 HB1 HBR HBZ HBP HBL HLO
   obtain ⟨x0, x1, x2, x3, x4⟩ := (show _ ∧ _ ∧ _ ∧ _ ∧ _ from ⟨HB5.out.cell 0 rfl, HB5.out.cell 1 rfl, HB5.out.cell 2 rfl, HB5.out.cell 3 rfl, HB5.out.cell 4 rfl⟩)
   obtain ⟨r0, r1, r2, r3, r4, r5, r6⟩ := (show _ ∧ _ ∧ _ ∧ _ ∧ _ ∧ _ ∧ _ from ⟨HR5.out.cell 0 rfl, HR5.out.cell 1 rfl, HR5.out.cell 2 rfl, HR5.out.cell 3 rfl, HR5.out.cell 4 rfl, HR5.out.cell 5 rfl, HR5.out.cell 6 rfl⟩)
   go_wp2_with (first
     | (go_at_call 75; refine (HDO.out _ HL5.out).mono ?_; rintro _ w6 ⟨V6, rfl, hv6, hb6, hn6⟩
        obtain ⟨A6, n6, c6, B6, q6, d6, X6, xn6, xc6, Y6, yn6, yc6, t6⟩ := V6
        dsimp only at hv6 ⊢
        have HV8 := Lib.hid hv6
        have HN6 := Lib.hid hn6
        have HZ8 := Lib.hid (HZ5.out.later hb6)
        have HP8 := Lib.hid (HP5.out.later hb6)
        have HL8 := Lib.hid (HL5.out.trans (hb6.mono HL5.out.size))
        have hp9 := HP8.out
        clear hv6 hb6 hn6 x0 x1 x2 x3 x4 r0 r1 r2 r3 r4 r5 r6
        obtain ⟨y0, y1, y2, y3, y4⟩ := (show _ ∧ _ ∧ _ ∧ _ ∧ _ from ⟨HZ8.out.cell 0 rfl, HZ8.out.cell 1 rfl, HZ8.out.cell 2 rfl, HZ8.out.cell 3 rfl, HZ8.out.cell 4 rfl⟩)
        obtain ⟨f0, f1, f2, f3, f4⟩ := (show _ ∧ _ ∧ _ ∧ _ ∧ _ from ⟨HZ8.out.loose 0, HZ8.out.loose 1, HZ8.out.loose 2, HZ8.out.loose 3, HZ8.out.loose 4⟩)
        obtain ⟨z0, z1⟩ := (show _ ∧ _ from ⟨hp9.cell 0 rfl, hp9.cell 1 rfl⟩)
        obtain ⟨e0, e1⟩ := (show _ ∧ _ from ⟨hp9.loose 0, hp9.loose 1⟩)))
   have HA8 := Lib.hid (HA.out.below HL8.out)
   have HO8 := Lib.hid (On.of (F := fun k => k < w.heap.size ∧ k ≠ g) HL8.out (fun k hk => hk.1))
   have HP := told_at HZ8.out HP8.out rfl rfl (by omega) (.slice A6 n6 c6) (.slice B6 q6 d6) (.slice X6 xn6 xc6) (.slice Y6 yn6 yc6) (.int .i64 t6) (.int .i64 E1) (.int .i64 I1)
   have HPV := sk_rp (sk_zero HV8.out HZ8.out (.slice A6 n6 c6) (.slice B6 q6 d6) (.slice X6 xn6 xc6) (.slice Y6 yn6 yc6) (.int .i64 t6)) (st_other HP8.out (by omega) (.slice A6 n6 c6) (.slice B6 q6 d6) (.slice X6 xn6 xc6) (.slice Y6 yn6 yc6) (.int .i64 t6)) (.int .i64 E1) (.int .i64 I1)
   have HPA := (HA8.out.st HZ8.out (by omega) (.slice A6 n6 c6) (.slice B6 q6 d6) (.slice X6 xn6 xc6) (.slice Y6 yn6 yc6) (.int .i64 t6)).rp (st_other HP8.out (by omega) (.slice A6 n6 c6) (.slice B6 q6 d6) (.slice X6 xn6 xc6) (.slice Y6 yn6 yc6) (.int .i64 t6)) (by omega) (.int .i64 E1) (.int .i64 I1)
   have HPO := rp_on (st_on HO8.out (g := w.heap.size + 1 + 1) (by omega) (.slice A6 n6 c6) (.slice B6 q6 d6) (.slice X6 xn6 xc6) (.slice Y6 yn6 yc6) (.int .i64 t6)) (g := w.heap.size + 1 + 1 + 1) (by omega) (.int .i64 E1) (.int .i64 I1)
   refine bodyPost_ret (results_two (p := 6) (q := 7) (ty := 35) (tz := 46) rfl _ _ (w.heap.size + 1 + 1) (w.heap.size + 1 + 1 + 1) _ _ _ _ (0, 0) _ _ rfl HP.1 Tryz.underlying35 rfl (by kernel_rfl) rfl HP.2 Tryz.underlying46 rfl (by kernel_rfl)) rfl ?_
   exact ⟨⟨A6, n6, c6, B6, q6, d6, X6, xn6, xc6, Y6, yn6, yc6, t6⟩, rfl, HPV, HPA, HPO, fun p hp hq => HN6.out p (fun b hb => hp b (by omega)) hq⟩
end Go.Proofs.YteifgmdaggiaaaaGreatDoor
