/-
  What a bank does of a request: the program's Do by its contract.
-/
import Derived.Test.YteifgmdaggiaaaaGreatDoorWBankEx
import Derived.Test.YteifgmdaggiaaaaGreatDoorWBankWith
import Derived.Test.YteifgmdaggiaaaaGreatDoorWGrN
set_option linter.unusedSimpArgs false
namespace Go.Proofs.YteifgmdaggiaaaaGreatDoor
open Go Go.RowKit
set_option linter.unusedVariables false
/-- Two structs and one more value that are told. -/
theorem results_two1 {P : Program} {fn : Func} {p q x : Tmp} {ty tz : TypeId} (h : fn.results = #[.cell p ty, .cell q tz, .tmp x]) (tmps : Array Value) (w : World) (g b : Nat) (t u : TypeId) (cs ds : Array Value) (fr : Nat × Nat) (d e : TypeDesc)
  (hp : tmps.getD p undef = .pointer (some ⟨g, 0, none⟩)) (hg : w.heap[g]? = some (.cells cs t fr))
  (hu : P.underlying ty = some d) (hd : (match d with | .struct _ | .array _ _ => true | _ => false) = true) (hi : (P.info? ty).map (·.size) = some cs.size)
  (hq : tmps.getD q undef = .pointer (some ⟨b, 0, none⟩)) (hb : w.heap[b]? = some (.cells ds u fr))
  (hv : P.underlying tz = some e) (he : (match e with | .struct _ | .array _ _ => true | _ => false) = true) (hj : (P.info? tz).map (·.size) = some ds.size) :
  (results fn tmps).run P w = .ok (.tuple #[.agg cs, .agg ds, tmps.getD x undef]) w := by
 have hp' : tmps[p]?.getD undef = .pointer (some ⟨g, 0, none⟩) := by simpa using hp
 have hq' : tmps[q]?.getD undef = .pointer (some ⟨b, 0, none⟩) := by simpa using hq
 simp [results, h, hp', hq', asAddr, run_loadVar_row w g t ty cs fr d hg hu hd hi, run_loadVar_row w b u tz ds fr e hb hv he hj, Result.andThen]
theorem may_long {r : Rq} (h : r.may) (hl : isLong r) : 0 ≤ r.legs ∧ r.legs ≤ 4 := by
 have h2 := h.2.1
 unfold legsOk at h2
 rw [if_pos hl.1] at h2
 exact h2
/-- A state, a reply, so many answers used; nothing below is turned. -/
def BkRes (w : World) (V : Sv) (sl : List Sg) (X : Bo) (e : Ending) (w' : World) : Prop :=
 ∃ V' : Sv, e = .returned (.tuple #[V'.val, .agg #[.int .i64 X.E, .int .i64 X.I], .int .i64 (X.n : Int)]) ∧ SkAt w' V' X.T sl X.kl ∧ Below w.heap.size w w' ∧ V.new V' w.heap.size
set_option maxRecDepth 100000 in
set_option maxHeartbeats 4000000 in
theorem bdo_any (V : Sv) (T : St) (sl : List Sg) (kl : List Kn) (r : Rq) (w : World) (la : Option Addr) (ln lc : Nat) (ls : List Bool) (h : SkAt w V T sl kl) (hf : Fits T sl kl) (hh : HasErr w) (hl : RdS flags w la ls) (hln : ls.length = ln) (hm : ln ≤ 9223372036854775806) (hkf : kl.length ≤ 1000000) :
  Calls Tryz.prog 12 #[V.val, r.val, .slice la ln lc] w (BkRes w V sl (bkO T kl r ls)) := by
 have HV0 := Lib.hid h
 have HF := Lib.hid hf
 have HFL := Lib.hid hl
 have HFN := Lib.hid hln
 have HH0 := Lib.hid hh
 have HM := Lib.hid hm
 have HMA := Lib.hid (fun W => rmay_any r W)
 unfold BoolRes at HMA
 have hkn : kl.length = V.yn := h.yn
 have hyn : V.yn ≤ 1000000 := by omega
 have HNIL : Hid (V.Y = none → V.yn = 0 ∧ V.yc = 0) := Lib.hid h.sy.nil
 have HASK := Lib.hid (fun W (hb : Below w.heap.size w W) => kask_any V.Y V.yn V.yc kl r W hkn (h.kn.below hb) (by omega))
 have HPUT := Lib.hid (fun W (hb : Below w.heap.size w W) => kput_any V.Y V.yn V.yc kl r W hkn (h.kn.below hb) (by omega) HNIL.out)
 unfold AskTold at HASK
 unfold KeyRes at HPUT
 unfold bkO
 have HTK := Lib.hid (fun (hp : kputE kl r = 0) e i => put_told hp e i)
 have HEXE := Lib.hid (fun (hmy : r.may) W V7 gA kl2 (hx : kl2.length ≤ 2000000) (h7 : SkAt W V7 T sl kl2) (hh7 : HasErr W) (ha7 : AnsAt W gA la ln lc ls 0) => bexecute_any V7 T sl kl2 r W gA la ln lc ls h7 ⟨HF.out.rt, HF.out.q, HF.out.sl, hx⟩ hh7 ha7 HM.out (may_long hmy))
 have HWIT := Lib.hid (fun W (hv : SkAt W V T sl kl) K kn kc kl2 (h1 : RdS known W K kl2) (h2 : kl2.length = kn) (h3 : Sl K kn kc) => bwith_any V T sl kl kl2 K kn kc W hv HF.out h1 h2 h3)
 have HRK := Lib.hid (show r.key = r.key from rfl)
 unfold ExRes at HEXE
 by_cases hmy : r.may
 · rw [if_pos hmy]
   rw [decide_eq_true hmy] at HMA
   have HMY := Lib.hid hmy
   clear hmy
   generalize hRR : askR kl r = R at HASK ⊢
   obtain ⟨R1, R2, R3⟩ := R
   dsimp only at HASK ⊢
   by_cases hR3 : R3 = true
   · subst hR3
     rw [if_pos rfl]
     clear hRR HPUT HTK HEXE HWIT
     obtain ⟨A, n, c, B, q, d, X, xn, xc, Y, yn, yc, t⟩ := V
     obtain ⟨rk, ro, ra, rb, rm, rl, ru⟩ := r
     obtain ⟨q1, q2, q3, q4, q5⟩ := d4_all w #[.slice A n c, .slice B q d, .slice X xn xc, .slice Y yn yc, .int .i64 t] (rqC rk ro ra rb rm rl ru)
     have HS4 := Lib.hid q1
     have HR4 := Lib.hid q2
     have HZ4 := Lib.hid q3
     have HP4 := Lib.hid q4
     have HL4 := Lib.hid q5
     unfold Sv.val Sv.cells Rq.val
     unfold Rq.val at HMA
     dsimp only at HMA ⊢
     clear h hf hh hl hln hm q1 q2 q3 q4 q5 hkn
     go_enter Tryz.func12, Tryz.ntmps12
     go_upto_region 1 with fail
     generalize ((((w.alloc (.cells #[.slice A n c, .slice B q d, .slice X xn xc, .slice Y yn yc, .int .i64 t] 35)).alloc (.cells (rqC rk ro ra rb rm rl ru) 42)).alloc (.cells st0 35)).alloc (.cells rp0 46)) = w4 at HS4 HR4 HZ4 HP4 HL4 ⊢
     obtain ⟨r0, r1, r2, r3, r4, r5, r6⟩ := (show _ ∧ _ ∧ _ ∧ _ ∧ _ ∧ _ ∧ _ from ⟨HR4.out.cell 0 rfl, HR4.out.cell 1 rfl, HR4.out.cell 2 rfl, HR4.out.cell 3 rfl, HR4.out.cell 4 rfl, HR4.out.cell 5 rfl, HR4.out.cell 6 rfl⟩)
     go_upto_region 3 with (first | (go_at_call 35; refine (HMA.out _).mono ?_; rintro _ w5 ⟨rfl, hb5⟩))
     have HL5 := Lib.hid (HL4.out.trans (hb5.mono HL4.out.size))
     have HS5 := Lib.hid (HS4.out.later hb5)
     have HR5 := Lib.hid (HR4.out.later hb5)
     have HZ5 := Lib.hid (HZ4.out.later hb5)
     have HP5 := Lib.hid (HP4.out.later hb5)
     have hz5 : w.heap.size + 1 + 1 + 1 < w5.heap.size := HP5.out.lt
     clear hb5 HS4 HR4 HZ4 HP4 HL4 HMA
     clear r0 r1 r2 r3 r4 r5 r6
     obtain ⟨x0, x1, x2, x3, x4⟩ := (show _ ∧ _ ∧ _ ∧ _ ∧ _ from ⟨HS5.out.cell 0 rfl, HS5.out.cell 1 rfl, HS5.out.cell 2 rfl, HS5.out.cell 3 rfl, HS5.out.cell 4 rfl⟩)
     obtain ⟨r0, r1, r2, r3, r4, r5, r6⟩ := (show _ ∧ _ ∧ _ ∧ _ ∧ _ ∧ _ ∧ _ from ⟨HR5.out.cell 0 rfl, HR5.out.cell 1 rfl, HR5.out.cell 2 rfl, HR5.out.cell 3 rfl, HR5.out.cell 4 rfl, HR5.out.cell 5 rfl, HR5.out.cell 6 rfl⟩)
     go_upto_region 4 with (first | (go_at_call 20; refine (HASK.out _ HL5.out).mono ?_; rintro _ w6 ⟨rfl, hb6⟩
                                     have HX6 := Lib.hid hb6
                                     clear hb6))
     have HL6 := Lib.hid (HL5.out.trans (HX6.out.mono HL5.out.size))
     have HS7 := Lib.hid ((HS5.out.later HX6.out).more (.cells #[.int .i64 R1, .int .i64 R2] 46))
     have HR7 := Lib.hid ((HR5.out.later HX6.out).more (.cells #[.int .i64 R1, .int .i64 R2] 46))
     have HZ7 := Lib.hid ((HZ5.out.later HX6.out).more (.cells #[.int .i64 R1, .int .i64 R2] 46))
     have HP7 := Lib.hid ((HP5.out.later HX6.out).more (.cells #[.int .i64 R1, .int .i64 R2] 46))
     have HN7 := Lib.hid (Blk.new w6 46 #[.int .i64 R1, .int .i64 R2])
     have HL7 := Lib.hid (HL6.out.alloc HL6.out.size (.cells #[.int .i64 R1, .int .i64 R2] 46))
     have hz7 := HX6.out.size
     clear HX6 HL6 HS5 HR5 HZ5 HP5 HL5 HASK
     clear x0 x1 x2 x3 x4 r0 r1 r2 r3 r4 r5 r6
     generalize w6.alloc (.cells #[.int .i64 R1, .int .i64 R2] 46) = w7 at HS7 HR7 HZ7 HP7 HN7 HL7 ⊢
     generalize w6.heap.size = g9 at HN7 hz7 ⊢
     go_upto_region 5 with fail
     refine wp_region_held_drew (S := fun w' => Blk w' w.heap.size 35 #[.slice A n c, .slice B q d, .slice X xn xc, .slice Y yn yc, .int .i64 t] ∧ Blk w' g9 46 #[.int .i64 R1, .int .i64 R2]) (by kernel_rfl) ⟨HS7.out.drew, HN7.out.drew⟩ (fun hHeld => ?_)
     have HSd := Lib.hid HS7.out.drew
     have HNd := Lib.hid HN7.out.drew
     have HZd := Lib.hid HZ7.out.drew
     have HPd := Lib.hid HP7.out.drew
     have HLd := Lib.hid HL7.out.drew
     clear HS7 HN7 HZ7 HP7 HL7 HR7
     generalize w7.drew = wd at HSd HNd HZd HPd HLd hHeld ⊢
     refine tk 0 29 (v := ?_) ?_ ?_
     rotate_left
     · intro w' hSw
       have hSw' := hSw
       (try dsimp only at hSw')
       obtain ⟨k0, k1, k2, k3, k4⟩ := (show _ ∧ _ ∧ _ ∧ _ ∧ _ from ⟨hSw'.1.cell 0 rfl, hSw'.1.cell 1 rfl, hSw'.1.cell 2 rfl, hSw'.1.cell 3 rfl, hSw'.1.cell 4 rfl⟩)
       go_simp
       (try with_reducible rfl)
     (try simp only [Act.put, sA, sB, sC])
     refine tk 1 30 (v := ?_) ?_ ?_
     rotate_left
     · intro w' hSw
       have hSw' := hSw
       (try dsimp only at hSw')
       obtain ⟨j0, j1⟩ := (show _ ∧ _ from ⟨hSw'.2.cell 0 rfl, hSw'.2.cell 1 rfl⟩)
       go_simp
       (try with_reducible rfl)
     (try simp only [Act.put, sA, sB, sC])
     obtain ⟨y0, y1, y2, y3, y4⟩ := (show _ ∧ _ ∧ _ ∧ _ ∧ _ from ⟨HZd.out.cell 0 rfl, HZd.out.cell 1 rfl, HZd.out.cell 2 rfl, HZd.out.cell 3 rfl, HZd.out.cell 4 rfl⟩)
     obtain ⟨f0, f1, f2, f3, f4⟩ := (show _ ∧ _ ∧ _ ∧ _ ∧ _ from ⟨HZd.out.loose 0, HZd.out.loose 1, HZd.out.loose 2, HZd.out.loose 3, HZd.out.loose 4⟩)
     refine wpAnyH_ready (rs := [2]) (by kernel_rfl) (by simp) ?_
     refine AllReadyH.cons (i := 2) rfl (fun K0 hK => ?_) AllReadyH.nil
     go_simp
     refine hK.out _ (((((wd.setCell ⟨w.heap.size + 1 + 1, 0, none⟩ (.slice A n c)).setCell ⟨w.heap.size + 1 + 1, 1, none⟩ (.slice B q d)).setCell ⟨w.heap.size + 1 + 1, 2, none⟩ (.slice X xn xc)).setCell ⟨w.heap.size + 1 + 1, 3, none⟩ (.slice Y yn yc)).setCell ⟨w.heap.size + 1 + 1, 4, none⟩ (.int .i64 t)) ⟨st_other HSd.out (by omega) (.slice A n c) (.slice B q d) (.slice X xn xc) (.slice Y yn yc) (.int .i64 t), st_other HNd.out (by omega) (.slice A n c) (.slice B q d) (.slice X xn xc) (.slice Y yn yc) (.int .i64 t)⟩ (fun hHeld => ?_)
     clear hK K0
     (try simp only [Act.put, sA, sB, sC])
     clear y0 y1 y2 y3 y4 f0 f1 f2 f3 f4
     have hp9 := st_other HPd.out (show w.heap.size + 1 + 1 ≠ w.heap.size + 1 + 1 + 1 by omega) (.slice A n c) (.slice B q d) (.slice X xn xc) (.slice Y yn yc) (.int .i64 t)
     obtain ⟨z0, z1⟩ := (show _ ∧ _ from ⟨hp9.cell 0 rfl, hp9.cell 1 rfl⟩)
     obtain ⟨e0, e1⟩ := (show _ ∧ _ from ⟨hp9.loose 0, hp9.loose 1⟩)
     clear hp9
     refine wpAnyH_ready (rs := [3]) (by kernel_rfl) (by simp) ?_
     refine AllReadyH.cons (i := 3) rfl (fun K0 hK => ?_) AllReadyH.nil
     go_simp
     refine hK.out _ (((((((wd.setCell ⟨w.heap.size + 1 + 1, 0, none⟩ (.slice A n c)).setCell ⟨w.heap.size + 1 + 1, 1, none⟩ (.slice B q d)).setCell ⟨w.heap.size + 1 + 1, 2, none⟩ (.slice X xn xc)).setCell ⟨w.heap.size + 1 + 1, 3, none⟩ (.slice Y yn yc)).setCell ⟨w.heap.size + 1 + 1, 4, none⟩ (.int .i64 t)).setCell ⟨w.heap.size + 1 + 1 + 1, 0, none⟩ (.int .i64 R1)).setCell ⟨w.heap.size + 1 + 1 + 1, 1, none⟩ (.int .i64 R2)) ⟨rp_other (st_other HSd.out (by omega) (.slice A n c) (.slice B q d) (.slice X xn xc) (.slice Y yn yc) (.int .i64 t)) (by omega) _ _, rp_other (st_other HNd.out (by omega) (.slice A n c) (.slice B q d) (.slice X xn xc) (.slice Y yn yc) (.int .i64 t)) (by omega) _ _⟩ (fun hHeld => ?_)
     clear hK K0
     (try simp only [Act.put, sA, sB, sC])
     clear z0 z1 e0 e1
     refine tk 4 8 (v := ?_) ?_ ?_
     rotate_left
     · intro w' hSw
       go_simp
       (try with_reducible rfl)
     (try simp only [Act.put, sA, sB, sC])
     refine wpAnyH_done (by kernel_rfl) ?_ _
     go_wp2
     have HP := told_at HZd.out HPd.out rfl rfl (by omega) (.slice A n c) (.slice B q d) (.slice X xn xc) (.slice Y yn yc) (.int .i64 t) (.int .i64 R1) (.int .i64 R2)
     have HPV := sk_rp (sk_zero (HV0.out.below HLd.out) HZd.out (.slice A n c) (.slice B q d) (.slice X xn xc) (.slice Y yn yc) (.int .i64 t)) (st_other HPd.out (by omega) (.slice A n c) (.slice B q d) (.slice X xn xc) (.slice Y yn yc) (.int .i64 t)) (.int .i64 R1) (.int .i64 R2)
     have HPB := told_below HLd.out (show w.heap.size ≤ w.heap.size + 1 + 1 by omega) (show w.heap.size ≤ w.heap.size + 1 + 1 + 1 by omega) (.slice A n c) (.slice B q d) (.slice X xn xc) (.slice Y yn yc) (.int .i64 t) (.int .i64 R1) (.int .i64 R2)
     refine bodyPost_ret (results_two1 (p := 6) (q := 7) (x := 8) (ty := 35) (tz := 46) rfl _ _ (w.heap.size + 1 + 1) (w.heap.size + 1 + 1 + 1) _ _ _ _ (0, 0) _ _ rfl HP.1 Tryz.underlying35 rfl (by kernel_rfl) rfl HP.2 Tryz.underlying46 rfl (by kernel_rfl)) rfl ?_
     exact ⟨⟨A, n, c, B, q, d, X, xn, xc, Y, yn, yc, t⟩, rfl, HPV, HPB, fun p _ hq => hq⟩
   · have hR : R3 = false := by simpa using hR3
     subst hR
     rw [if_neg (by simp)]
     clear hR3 hRR
     by_cases hp : kputE kl r = 0
     · rw [if_pos hp]
       rw [hp, show errV 0 = .nilIface from rfl] at HPUT
       have HTL := Lib.hid (fun e i => (HTK.out hp e i).2)
       have HKL : Hid ((putL kl r).length ≤ 1000001) := Lib.hid (by rw [(HTK.out hp 0 0).1]; simp; omega)
       generalize putL kl r = kl2 at HPUT HTL HKL
       clear hp HTK
       have HEX2 := Lib.hid (fun W V7 gA => HEXE.out HMY.out W V7 gA kl2 (by have := HKL.out; omega))
       generalize exeT T r ls = T8 at HEX2 ⊢
       generalize exeE T r ls = E8 at HEX2 ⊢
       generalize exeI T r ls = I8 at HEX2 ⊢
       generalize exeN T r ls = n8 at HEX2 ⊢
       clear HEXE
       obtain ⟨A, n, c, B, q, d, X, xn, xc, Y, yn, yc, t⟩ := V
       obtain ⟨rk, ro, ra, rb, rm, rl, ru⟩ := r
       obtain ⟨q1, q2, q3, q4, q5⟩ := d4_all w #[.slice A n c, .slice B q d, .slice X xn xc, .slice Y yn yc, .int .i64 t] (rqC rk ro ra rb rm rl ru)
       have HS4 := Lib.hid q1
       have HR4 := Lib.hid q2
       have HZ4 := Lib.hid q3
       have HP4 := Lib.hid q4
       have HL4 := Lib.hid q5
       unfold Sv.val Sv.cells Rq.val
       unfold Rq.val at HMA
       dsimp only at HMA ⊢
       clear h hf hh hl hln hm q1 q2 q3 q4 q5 hkn
       go_enter Tryz.func12, Tryz.ntmps12
       go_upto_region 1 with fail
       generalize ((((w.alloc (.cells #[.slice A n c, .slice B q d, .slice X xn xc, .slice Y yn yc, .int .i64 t] 35)).alloc (.cells (rqC rk ro ra rb rm rl ru) 42)).alloc (.cells st0 35)).alloc (.cells rp0 46)) = w4 at HS4 HR4 HZ4 HP4 HL4 ⊢
       obtain ⟨r0, r1, r2, r3, r4, r5, r6⟩ := (show _ ∧ _ ∧ _ ∧ _ ∧ _ ∧ _ ∧ _ from ⟨HR4.out.cell 0 rfl, HR4.out.cell 1 rfl, HR4.out.cell 2 rfl, HR4.out.cell 3 rfl, HR4.out.cell 4 rfl, HR4.out.cell 5 rfl, HR4.out.cell 6 rfl⟩)
       go_upto_region 3 with (first | (go_at_call 35; refine (HMA.out _).mono ?_; rintro _ w5 ⟨rfl, hb5⟩))
       have HL5 := Lib.hid (HL4.out.trans (hb5.mono HL4.out.size))
       have HS5 := Lib.hid (HS4.out.later hb5)
       have HR5 := Lib.hid (HR4.out.later hb5)
       have HZ5 := Lib.hid (HZ4.out.later hb5)
       have HP5 := Lib.hid (HP4.out.later hb5)
       have hz5 : w.heap.size + 1 + 1 + 1 < w5.heap.size := HP5.out.lt
       clear hb5 HS4 HR4 HZ4 HP4 HL4 HMA
       clear r0 r1 r2 r3 r4 r5 r6
       obtain ⟨x0, x1, x2, x3, x4⟩ := (show _ ∧ _ ∧ _ ∧ _ ∧ _ from ⟨HS5.out.cell 0 rfl, HS5.out.cell 1 rfl, HS5.out.cell 2 rfl, HS5.out.cell 3 rfl, HS5.out.cell 4 rfl⟩)
       obtain ⟨r0, r1, r2, r3, r4, r5, r6⟩ := (show _ ∧ _ ∧ _ ∧ _ ∧ _ ∧ _ ∧ _ from ⟨HR5.out.cell 0 rfl, HR5.out.cell 1 rfl, HR5.out.cell 2 rfl, HR5.out.cell 3 rfl, HR5.out.cell 4 rfl, HR5.out.cell 5 rfl, HR5.out.cell 6 rfl⟩)
       go_upto_region 4 with (first | (go_at_call 20; refine (HASK.out _ HL5.out).mono ?_; rintro _ w6 ⟨rfl, hb6⟩
                                       have HX6 := Lib.hid hb6
                                       clear hb6))
       have HL6 := Lib.hid (HL5.out.trans (HX6.out.mono HL5.out.size))
       have HS7 := Lib.hid ((HS5.out.later HX6.out).more (.cells #[.int .i64 R1, .int .i64 R2] 46))
       have HR7 := Lib.hid ((HR5.out.later HX6.out).more (.cells #[.int .i64 R1, .int .i64 R2] 46))
       have HZ7 := Lib.hid ((HZ5.out.later HX6.out).more (.cells #[.int .i64 R1, .int .i64 R2] 46))
       have HP7 := Lib.hid ((HP5.out.later HX6.out).more (.cells #[.int .i64 R1, .int .i64 R2] 46))
       have HN7 := Lib.hid (Blk.new w6 46 #[.int .i64 R1, .int .i64 R2])
       have HL7 := Lib.hid (HL6.out.alloc HL6.out.size (.cells #[.int .i64 R1, .int .i64 R2] 46))
       have hz7 := HX6.out.size
       clear HX6 HL6 HS5 HR5 HZ5 HP5 HL5 HASK
       clear x0 x1 x2 x3 x4 r0 r1 r2 r3 r4 r5 r6
       generalize w6.alloc (.cells #[.int .i64 R1, .int .i64 R2] 46) = w7 at HS7 HR7 HZ7 HP7 HN7 HL7 ⊢
       generalize w6.heap.size = g9 at HN7 hz7 ⊢
       obtain ⟨x0, x1, x2, x3, x4⟩ := (show _ ∧ _ ∧ _ ∧ _ ∧ _ from ⟨HS7.out.cell 0 rfl, HS7.out.cell 1 rfl, HS7.out.cell 2 rfl, HS7.out.cell 3 rfl, HS7.out.cell 4 rfl⟩)
       obtain ⟨r0, r1, r2, r3, r4, r5, r6⟩ := (show _ ∧ _ ∧ _ ∧ _ ∧ _ ∧ _ ∧ _ from ⟨HR7.out.cell 0 rfl, HR7.out.cell 1 rfl, HR7.out.cell 2 rfl, HR7.out.cell 3 rfl, HR7.out.cell 4 rfl, HR7.out.cell 5 rfl, HR7.out.cell 6 rfl⟩)
       go_upto_region 9 with (first | (go_at_call 36; refine (HPUT.out _ HL7.out).mono ?_; rintro _ w8 ⟨v8, rfl, ho8, hb8⟩
                                       have HO8 := Lib.hid ho8
                                       have HX8 := Lib.hid hb8
                                       clear ho8 hb8))
       have HL8 := Lib.hid (HL7.out.trans (HX8.out.mono HL7.out.size))
       have hw7 := HL7.out.size
       have HS8 := Lib.hid (HS7.out.later HX8.out)
       have HR8 := Lib.hid (HR7.out.later HX8.out)
       have HZ8 := Lib.hid (HZ7.out.later HX8.out)
       have HP8 := Lib.hid (HP7.out.later HX8.out)
       clear HS7 HR7 HZ7 HP7 HL7 HN7 hz7 HPUT HX8
       clear x0 x1 x2 x3 x4 r0 r1 r2 r3 r4 r5 r6
       obtain ⟨K, kc, rfl, hk1, hk2, hk3, hk4⟩ := HO8.out.form
       have HKF := Lib.hid (fun a (e : K = some a) => show w.heap.size ≤ a.block from by have := HO8.out.rowLt a.block (by rw [e]; rfl); omega)
       have hkl2 : kl2.length ≤ 1000001 := HKL.out
       obtain ⟨kn, hkn2⟩ : ∃ kn, kl2.length = kn := ⟨_, rfl⟩
       rw [hkn2] at hk2 hk4 ⊢
       go_upto_region 10 with fail
       have al9 := (Below.refl w8.heap.size w8).alloc (Nat.le_refl _) (.cells #[.slice la ln lc, .int .i64 0] 109)
       have HL9 := Lib.hid (HL8.out.trans (al9.mono HL8.out.size))
       have HS9 := Lib.hid (HS8.out.later al9)
       have HR9 := Lib.hid (HR8.out.later al9)
       have HZ9 := Lib.hid (HZ8.out.later al9)
       have HP9 := Lib.hid (HP8.out.later al9)
       have HK9 := Lib.hid (hk1.below al9)
       have HKS := Lib.hid (show Sl K kn kc from ⟨hk4, hk2, hk3⟩)
       have HA9 := Lib.hid (show AnsAt (w8.alloc (.cells #[.slice la ln lc, .int .i64 0] 109)) w8.heap.size la ln lc ls 0 from ⟨Blk.new w8 _ _, HFL.out.below HL9.out, HFN.out, Nat.zero_le _⟩)
       have HV9 := Lib.hid (HV0.out.below HL9.out)
       have HH9 := Lib.hid (HH0.out.below HL9.out)
       have HKN := Lib.hid hkn2
       have hz9 : w.heap.size + 1 + 1 + 1 < w8.heap.size := HP8.out.lt
       clear al9 HL8 HS8 HR8 HZ8 HP8 hk1 HO8
       generalize w8.alloc (.cells #[.slice la ln lc, .int .i64 0] 109) = w9 at HL9 HS9 HR9 HZ9 HP9 HK9 HA9 HV9 HH9 ⊢
       generalize w8.heap.size = gA at HA9 hz9 ⊢
       have hgA : gA < w9.heap.size := HA9.out.blk.lt
       have HWI := Lib.hid (fun W hv (h1 : RdS known W K kl2) => HWIT.out W hv K kn kc kl2 h1 HKN.out HKS.out)
       have HEX := Lib.hid (fun W V7 (h7 : SkAt W V7 T sl kl2) (hh7 : HasErr W) (ha7 : AnsAt W gA la ln lc ls 0) => HEX2.out W V7 gA h7 hh7 ha7)
       clear HWIT HEX2
       unfold Sv.val Sv.cells at HWI
       unfold Sv.val Sv.cells Rq.val at HEX
       dsimp only at HWI HEX
       go_cut [14, 15] from 45 to 53 (fun x14 x15 wx => ∃ (g14 g15 : Nat) (V8 : Sv), x14 = .pointer (some ⟨g14, 0, none⟩) ∧ x15 = .pointer (some ⟨g15, 0, none⟩) ∧ Blk wx g14 35 V8.cells ∧ Blk wx g15 46 #[.int .i64 E8, .int .i64 I8] ∧ SkAt wx V8 T8 sl kl2 ∧ AnsAt wx gA la ln lc ls n8 ∧ On (fun k => k < w9.heap.size ∧ k ≠ gA) w9 wx ∧ w9.heap.size ≤ g14 ∧ w9.heap.size ≤ g15 ∧ g14 ≠ g15 ∧ ∀ p : Nat → Prop, (∀ b, w9.heap.size ≤ b → p b) → (∀ a, K = some a → p a.block) → V8.in_ p)
       case first =>
        have HOz := Lib.hid ((On.refl (fun k => k < w9.heap.size ∧ k ≠ gA) w9).drew)
        have HAz := Lib.hid (HA9.out.below (Below.refl w9.heap.size w9).drew)
        refine wp_region_held_drew (S := fun w' => On (fun k => k < w9.heap.size ∧ k ≠ gA) w9 w') (by kernel_rfl) HOz.out (fun hHeld => ?_)
        refine tk 0 46 (v := ?_) ?_ ?_
        rotate_left
        · intro w' hSw
          have hSw' := hSw
          (try dsimp only at hSw')
          obtain ⟨k0, k1, k2, k3, k4⟩ := (show _ ∧ _ ∧ _ ∧ _ ∧ _ from ⟨(Blk.on HS9.out hSw' ⟨HS9.out.lt, by omega⟩).cell 0 rfl, (Blk.on HS9.out hSw' ⟨HS9.out.lt, by omega⟩).cell 1 rfl, (Blk.on HS9.out hSw' ⟨HS9.out.lt, by omega⟩).cell 2 rfl, (Blk.on HS9.out hSw' ⟨HS9.out.lt, by omega⟩).cell 3 rfl, (Blk.on HS9.out hSw' ⟨HS9.out.lt, by omega⟩).cell 4 rfl⟩)
          go_simp
          (try with_reducible rfl)
        (try simp only [Act.put, sA, sB, sC])
        refine tk 1 47 (v := ?_) ?_ ?_
        rotate_left
        · intro w' hSw
          go_simp
          (try with_reducible rfl)
        (try simp only [Act.put, sA, sB, sC])
        refine tk 3 49 (v := ?_) ?_ ?_
        rotate_left
        · intro w' hSw
          have hSw' := hSw
          (try dsimp only at hSw')
          obtain ⟨k0, k1, k2, k3, k4, k5, k6⟩ := (show _ ∧ _ ∧ _ ∧ _ ∧ _ ∧ _ ∧ _ from ⟨(Blk.on HR9.out hSw' ⟨HR9.out.lt, by omega⟩).cell 0 rfl, (Blk.on HR9.out hSw' ⟨HR9.out.lt, by omega⟩).cell 1 rfl, (Blk.on HR9.out hSw' ⟨HR9.out.lt, by omega⟩).cell 2 rfl, (Blk.on HR9.out hSw' ⟨HR9.out.lt, by omega⟩).cell 3 rfl, (Blk.on HR9.out hSw' ⟨HR9.out.lt, by omega⟩).cell 4 rfl, (Blk.on HR9.out hSw' ⟨HR9.out.lt, by omega⟩).cell 5 rfl, (Blk.on HR9.out hSw' ⟨HR9.out.lt, by omega⟩).cell 6 rfl⟩)
          go_simp
          (try with_reducible rfl)
        (try simp only [Act.put, sA, sB, sC])
        refine tk 4 50 (v := ?_) ?_ ?_
        rotate_left
        · intro w' hSw
          go_simp
          (try with_reducible rfl)
        (try simp only [Act.put, sA, sB, sC])
        generalize w9.drew = wz at HOz HAz hHeld ⊢
        refine wpAnyH_ready (rs := [2, 9, 10]) (by kernel_rfl) (by simp) ?_
        refine AllReadyH.cons (i := 2) rfl (fun K0 hK => ?_) (AllReadyH.cons (i := 9) rfl (fun K0 hK => ?_) (AllReadyH.cons (i := 10) rfl (fun K0 hK => ?_) AllReadyH.nil))
        · go_simp
          go_at_call 39
          refine (HWI.out _ (HV9.out.on HA9.out.blk (thin_an la ln lc _) HOz.out) (HK9.out.on (fun a => ⟨_, _, _, rfl, rfl, rfl⟩) HA9.out.blk (thin_an la ln lc _) HOz.out)).mono ?_
          rintro _ wq1 ⟨V7, rfl, hv7, hb7, hn7⟩
          obtain ⟨A7, n7, c7, B7, q7, d7, X7, xn7, xc7, Y7, yn7, yc7, t7⟩ := V7
          dsimp only at hv7 ⊢
          have HVq2 := Lib.hid hv7
          have HN7 := Lib.hid (fun (p : Nat → Prop) (hp : ∀ b, w9.heap.size ≤ b → p b) hK => hn7 p (fun b hb => hp b (by have := HOz.out.size; omega)) hK)
          have HOq2 := Lib.hid (HOz.out.same hb7 (fun k hk => by have := hk.1; have := HOz.out.size; omega))
          have HAq2 := Lib.hid (HAz.out.below hb7)
          clear hv7 hb7 hn7
          refine hK.out _ _ HOq2.out (fun hHeld => ?_)
          clear hK K0
          (try simp only [Act.put, sA, sB, sC])
          refine wpAnyH_ready (rs := [5, 9, 10]) (by kernel_rfl) (by simp) ?_
          refine AllReadyH.cons (i := 5) rfl (fun K0 hK => ?_) (AllReadyH.cons (i := 9) rfl (fun K0 hK => ?_) (AllReadyH.cons (i := 10) rfl (fun K0 hK => ?_) AllReadyH.nil))
          · go_simp
            go_at_call 38
            refine (HEX.out _ ⟨A7, n7, c7, B7, q7, d7, X7, xn7, xc7, Y7, yn7, yc7, t7⟩ HVq2.out (HH9.out.on HA9.out HOq2.out) HAq2.out).mono ?_
            rintro _ wq3 ⟨V8, rfl, hv8, ha8, ho8, hn8⟩
            obtain ⟨A8, n8', c8, B8, q8, d8, X8, xn8, xc8, Y8, yn8, yc8, t8⟩ := V8
            dsimp only at hv8 ⊢
            have HVq4 := Lib.hid hv8
            have HN8 := Lib.hid (fun (p : Nat → Prop) (hp : ∀ b, w9.heap.size ≤ b → p b) h7 => hn8 p (fun b hb => hp b (by have := HOq2.out.size; omega)) h7)
            have HAq4 := Lib.hid ha8
            have HOq4 := Lib.hid (HOq2.out.trans (On.of_on ho8 (fun k hk => ⟨by have := hk.1; have := HOq2.out.size; omega, hk.2⟩)))
            clear hv8 ha8 ho8 hn8
            refine hK.out _ _ HOq4.out (fun hHeld => ?_)
            clear hK K0
            (try simp only [Act.put, sA, sB, sC])
            refine tk 6 45 (v := ?_) ?_ ?_
            rotate_left
            · intro w' hSw
              go_simp
              (try with_reducible rfl)
            (try simp only [Act.put, sA, sB, sC])
            refine tk 7 52 (v := ?_) ?_ ?_
            rotate_left
            · intro w' hSw
              go_simp
              (try with_reducible rfl)
            (try simp only [Act.put, sA, sB, sC])
            refine tk 8 53 (v := ?_) ?_ ?_
            rotate_left
            · intro w' hSw
              go_simp
              (try with_reducible rfl)
            (try simp only [Act.put, sA, sB, sC])
            refine wpAnyH_ready (rs := [9, 10]) (by kernel_rfl) (by simp) ?_
            refine AllReadyH.cons (i := 9) rfl (fun K0 hK => ?_) (AllReadyH.cons (i := 10) rfl (fun K0 hK => ?_) AllReadyH.nil)
            · go_simp
              have al := (Below.refl wq3.heap.size wq3).alloc (Nat.le_refl _) (.cells st0 35)
              refine hK.out _ (wq3.alloc (.cells st0 35)) (HOq4.out.same al (fun k hk => by have := hk.1; have := HOq4.out.size; omega)) (fun hHeld => ?_)
              clear hK K0
              (try simp only [Act.put, sA, sB, sC])
              have HVq6 := Lib.hid (HVq4.out.below al)
              have HAq6 := Lib.hid (HAq4.out.below al)
              have HOq6 := Lib.hid (HOq4.out.same al (fun k hk => by have := hk.1; have := HOq4.out.size; omega))
              have HN14q6 := Lib.hid (Blk.new wq3 35 st0)
              have hgeq6 := HOq4.out.size
              (try clear hHeld)
              generalize wq3.alloc (.cells st0 35) = wq5 at HAq6 HOq6  HN14q6 HVq6 ⊢
              obtain ⟨g14, hgq6⟩ : ∃ g, g = wq3.heap.size := ⟨_, rfl⟩
              rw [← hgq6] at HN14q6 ⊢
              have hHeld := HOq6.out
              have hglg14 : w9.heap.size ≤ g14 := by omega
              clear al hgq6 hgeq6 
              refine wpAnyH_ready (rs := [10]) (by kernel_rfl) (by simp) ?_
              refine AllReadyH.cons (i := 10) rfl (fun K0 hK => ?_) AllReadyH.nil
              go_simp
              have al := (Below.refl wq5.heap.size wq5).alloc (Nat.le_refl _) (.cells rp0 46)
              refine hK.out _ (wq5.alloc (.cells rp0 46)) (HOq6.out.same al (fun k hk => by have := hk.1; have := HOq6.out.size; omega)) (fun hHeld => ?_)
              clear hK K0
              (try simp only [Act.put, sA, sB, sC])
              have HVq8 := Lib.hid (HVq6.out.below al)
              have HAq8 := Lib.hid (HAq6.out.below al)
              have HOq8 := Lib.hid (HOq6.out.same al (fun k hk => by have := hk.1; have := HOq6.out.size; omega))
              have HN14q8 := Lib.hid (HN14q6.out.later al)
              have hltq8g14 : g14 < wq5.heap.size := HN14q6.out.lt
              have HN15q8 := Lib.hid (Blk.new wq5 46 rp0)
              have hgeq8 := HOq6.out.size
              (try clear hHeld)
              generalize wq5.alloc (.cells rp0 46) = wq7 at HAq8 HOq8 HN14q8 HN15q8 HVq8 ⊢
              obtain ⟨g15, hgq8⟩ : ∃ g, g = wq5.heap.size := ⟨_, rfl⟩
              rw [← hgq8] at HN15q8 ⊢
              have hHeld := HOq8.out
              have hglg15 : w9.heap.size ≤ g15 := by omega
              have hgn : g14 ≠ g15 := by omega
              clear al hgq8 hgeq8 hltq8g14
              obtain ⟨y0, y1, y2, y3, y4⟩ := (show _ ∧ _ ∧ _ ∧ _ ∧ _ from ⟨HN14q8.out.cell 0 rfl, HN14q8.out.cell 1 rfl, HN14q8.out.cell 2 rfl, HN14q8.out.cell 3 rfl, HN14q8.out.cell 4 rfl⟩)
              obtain ⟨f0, f1, f2, f3, f4⟩ := (show _ ∧ _ ∧ _ ∧ _ ∧ _ from ⟨HN14q8.out.loose 0, HN14q8.out.loose 1, HN14q8.out.loose 2, HN14q8.out.loose 3, HN14q8.out.loose 4⟩)
              refine wpAnyH_ready (rs := [11]) (by kernel_rfl) (by simp) ?_
              refine AllReadyH.cons (i := 11) rfl (fun K0 hK => ?_) AllReadyH.nil
              go_simp
              refine hK.out _ (((((wq7.setCell ⟨g14, 0, none⟩ (.slice A8 n8' c8)).setCell ⟨g14, 1, none⟩ (.slice B8 q8 d8)).setCell ⟨g14, 2, none⟩ (.slice X8 xn8 xc8)).setCell ⟨g14, 3, none⟩ (.slice Y8 yn8 yc8)).setCell ⟨g14, 4, none⟩ (.int .i64 t8)) (st_on HOq8.out (by omega) (.slice A8 n8' c8) (.slice B8 q8 d8) (.slice X8 xn8 xc8) (.slice Y8 yn8 yc8) (.int .i64 t8)) (fun hHeld => ?_)
              clear hK K0
              (try simp only [Act.put, sA, sB, sC])
              clear y0 y1 y2 y3 y4 f0 f1 f2 f3 f4
              have hp9 := st_other HN15q8.out (show g14 ≠ g15 by omega) (.slice A8 n8' c8) (.slice B8 q8 d8) (.slice X8 xn8 xc8) (.slice Y8 yn8 yc8) (.int .i64 t8)
              obtain ⟨z0, z1⟩ := (show _ ∧ _ from ⟨hp9.cell 0 rfl, hp9.cell 1 rfl⟩)
              obtain ⟨e0, e1⟩ := (show _ ∧ _ from ⟨hp9.loose 0, hp9.loose 1⟩)
              clear hp9
              refine wpAnyH_ready (rs := [12]) (by kernel_rfl) (by simp) ?_
              refine AllReadyH.cons (i := 12) rfl (fun K0 hK => ?_) AllReadyH.nil
              go_simp
              refine hK.out _ (((((((wq7.setCell ⟨g14, 0, none⟩ (.slice A8 n8' c8)).setCell ⟨g14, 1, none⟩ (.slice B8 q8 d8)).setCell ⟨g14, 2, none⟩ (.slice X8 xn8 xc8)).setCell ⟨g14, 3, none⟩ (.slice Y8 yn8 yc8)).setCell ⟨g14, 4, none⟩ (.int .i64 t8)).setCell ⟨g15, 0, none⟩ (.int .i64 E8)).setCell ⟨g15, 1, none⟩ (.int .i64 I8)) (rp_on (st_on HOq8.out (by omega) (.slice A8 n8' c8) (.slice B8 q8 d8) (.slice X8 xn8 xc8) (.slice Y8 yn8 yc8) (.int .i64 t8)) (by omega) _ _) (fun hHeld => ?_)
              clear hK K0
              (try simp only [Act.put, sA, sB, sC])
              refine wpAnyH_done (by kernel_rfl) ?_ _
              go_wp2_with fail
              go_meet
              exact ⟨g14, g15, ⟨A8, n8', c8, B8, q8, d8, X8, xn8, xc8, Y8, yn8, yc8, t8⟩, rfl, rfl, rp_other (st_put HN14q8.out rfl (.slice A8 n8' c8) (.slice B8 q8 d8) (.slice X8 xn8 xc8) (.slice Y8 yn8 yc8) (.int .i64 t8)) (by omega) _ _, rp_put (st_other HN15q8.out (by omega) (.slice A8 n8' c8) (.slice B8 q8 d8) (.slice X8 xn8 xc8) (.slice Y8 yn8 yc8) (.int .i64 t8)) rfl (.int .i64 E8) (.int .i64 I8), sk_rp (sk_zero HVq8.out HN14q8.out (.slice A8 n8' c8) (.slice B8 q8 d8) (.slice X8 xn8 xc8) (.slice Y8 yn8 yc8) (.int .i64 t8)) (st_other HN15q8.out (by omega) (.slice A8 n8' c8) (.slice B8 q8 d8) (.slice X8 xn8 xc8) (.slice Y8 yn8 yc8) (.int .i64 t8)) (.int .i64 E8) (.int .i64 I8), (HAq8.out.st HN14q8.out (by omega) (.slice A8 n8' c8) (.slice B8 q8 d8) (.slice X8 xn8 xc8) (.slice Y8 yn8 yc8) (.int .i64 t8)).rp (st_other HN15q8.out (by omega) (.slice A8 n8' c8) (.slice B8 q8 d8) (.slice X8 xn8 xc8) (.slice Y8 yn8 yc8) (.int .i64 t8)) (by omega) (.int .i64 E8) (.int .i64 I8), rp_on (st_on HOq8.out (by omega) (.slice A8 n8' c8) (.slice B8 q8 d8) (.slice X8 xn8 xc8) (.slice Y8 yn8 yc8) (.int .i64 t8)) (by omega) _ _, by omega, by omega, by omega, fun p hp hK => HN8.out p hp (HN7.out p hp hK)⟩
            · go_simp
              have al := (Below.refl wq3.heap.size wq3).alloc (Nat.le_refl _) (.cells rp0 46)
              refine hK.out _ (wq3.alloc (.cells rp0 46)) (HOq4.out.same al (fun k hk => by have := hk.1; have := HOq4.out.size; omega)) (fun hHeld => ?_)
              clear hK K0
              (try simp only [Act.put, sA, sB, sC])
              have HVq10 := Lib.hid (HVq4.out.below al)
              have HAq10 := Lib.hid (HAq4.out.below al)
              have HOq10 := Lib.hid (HOq4.out.same al (fun k hk => by have := hk.1; have := HOq4.out.size; omega))
              have HN15q10 := Lib.hid (Blk.new wq3 46 rp0)
              have hgeq10 := HOq4.out.size
              (try clear hHeld)
              generalize wq3.alloc (.cells rp0 46) = wq9 at HAq10 HOq10  HN15q10 HVq10 ⊢
              obtain ⟨g15, hgq10⟩ : ∃ g, g = wq3.heap.size := ⟨_, rfl⟩
              rw [← hgq10] at HN15q10 ⊢
              have hHeld := HOq10.out
              have hglg15 : w9.heap.size ≤ g15 := by omega
              clear al hgq10 hgeq10 
              refine wpAnyH_ready (rs := [9]) (by kernel_rfl) (by simp) ?_
              refine AllReadyH.cons (i := 9) rfl (fun K0 hK => ?_) AllReadyH.nil
              go_simp
              have al := (Below.refl wq9.heap.size wq9).alloc (Nat.le_refl _) (.cells st0 35)
              refine hK.out _ (wq9.alloc (.cells st0 35)) (HOq10.out.same al (fun k hk => by have := hk.1; have := HOq10.out.size; omega)) (fun hHeld => ?_)
              clear hK K0
              (try simp only [Act.put, sA, sB, sC])
              have HVq12 := Lib.hid (HVq10.out.below al)
              have HAq12 := Lib.hid (HAq10.out.below al)
              have HOq12 := Lib.hid (HOq10.out.same al (fun k hk => by have := hk.1; have := HOq10.out.size; omega))
              have HN15q12 := Lib.hid (HN15q10.out.later al)
              have hltq12g15 : g15 < wq9.heap.size := HN15q10.out.lt
              have HN14q12 := Lib.hid (Blk.new wq9 35 st0)
              have hgeq12 := HOq10.out.size
              (try clear hHeld)
              generalize wq9.alloc (.cells st0 35) = wq11 at HAq12 HOq12 HN15q12 HN14q12 HVq12 ⊢
              obtain ⟨g14, hgq12⟩ : ∃ g, g = wq9.heap.size := ⟨_, rfl⟩
              rw [← hgq12] at HN14q12 ⊢
              have hHeld := HOq12.out
              have hglg14 : w9.heap.size ≤ g14 := by omega
              have hgn : g14 ≠ g15 := by omega
              clear al hgq12 hgeq12 hltq12g15
              obtain ⟨y0, y1, y2, y3, y4⟩ := (show _ ∧ _ ∧ _ ∧ _ ∧ _ from ⟨HN14q12.out.cell 0 rfl, HN14q12.out.cell 1 rfl, HN14q12.out.cell 2 rfl, HN14q12.out.cell 3 rfl, HN14q12.out.cell 4 rfl⟩)
              obtain ⟨f0, f1, f2, f3, f4⟩ := (show _ ∧ _ ∧ _ ∧ _ ∧ _ from ⟨HN14q12.out.loose 0, HN14q12.out.loose 1, HN14q12.out.loose 2, HN14q12.out.loose 3, HN14q12.out.loose 4⟩)
              refine wpAnyH_ready (rs := [11]) (by kernel_rfl) (by simp) ?_
              refine AllReadyH.cons (i := 11) rfl (fun K0 hK => ?_) AllReadyH.nil
              go_simp
              refine hK.out _ (((((wq11.setCell ⟨g14, 0, none⟩ (.slice A8 n8' c8)).setCell ⟨g14, 1, none⟩ (.slice B8 q8 d8)).setCell ⟨g14, 2, none⟩ (.slice X8 xn8 xc8)).setCell ⟨g14, 3, none⟩ (.slice Y8 yn8 yc8)).setCell ⟨g14, 4, none⟩ (.int .i64 t8)) (st_on HOq12.out (by omega) (.slice A8 n8' c8) (.slice B8 q8 d8) (.slice X8 xn8 xc8) (.slice Y8 yn8 yc8) (.int .i64 t8)) (fun hHeld => ?_)
              clear hK K0
              (try simp only [Act.put, sA, sB, sC])
              clear y0 y1 y2 y3 y4 f0 f1 f2 f3 f4
              have hp9 := st_other HN15q12.out (show g14 ≠ g15 by omega) (.slice A8 n8' c8) (.slice B8 q8 d8) (.slice X8 xn8 xc8) (.slice Y8 yn8 yc8) (.int .i64 t8)
              obtain ⟨z0, z1⟩ := (show _ ∧ _ from ⟨hp9.cell 0 rfl, hp9.cell 1 rfl⟩)
              obtain ⟨e0, e1⟩ := (show _ ∧ _ from ⟨hp9.loose 0, hp9.loose 1⟩)
              clear hp9
              refine wpAnyH_ready (rs := [12]) (by kernel_rfl) (by simp) ?_
              refine AllReadyH.cons (i := 12) rfl (fun K0 hK => ?_) AllReadyH.nil
              go_simp
              refine hK.out _ (((((((wq11.setCell ⟨g14, 0, none⟩ (.slice A8 n8' c8)).setCell ⟨g14, 1, none⟩ (.slice B8 q8 d8)).setCell ⟨g14, 2, none⟩ (.slice X8 xn8 xc8)).setCell ⟨g14, 3, none⟩ (.slice Y8 yn8 yc8)).setCell ⟨g14, 4, none⟩ (.int .i64 t8)).setCell ⟨g15, 0, none⟩ (.int .i64 E8)).setCell ⟨g15, 1, none⟩ (.int .i64 I8)) (rp_on (st_on HOq12.out (by omega) (.slice A8 n8' c8) (.slice B8 q8 d8) (.slice X8 xn8 xc8) (.slice Y8 yn8 yc8) (.int .i64 t8)) (by omega) _ _) (fun hHeld => ?_)
              clear hK K0
              (try simp only [Act.put, sA, sB, sC])
              refine wpAnyH_done (by kernel_rfl) ?_ _
              go_wp2_with fail
              go_meet
              exact ⟨g14, g15, ⟨A8, n8', c8, B8, q8, d8, X8, xn8, xc8, Y8, yn8, yc8, t8⟩, rfl, rfl, rp_other (st_put HN14q12.out rfl (.slice A8 n8' c8) (.slice B8 q8 d8) (.slice X8 xn8 xc8) (.slice Y8 yn8 yc8) (.int .i64 t8)) (by omega) _ _, rp_put (st_other HN15q12.out (by omega) (.slice A8 n8' c8) (.slice B8 q8 d8) (.slice X8 xn8 xc8) (.slice Y8 yn8 yc8) (.int .i64 t8)) rfl (.int .i64 E8) (.int .i64 I8), sk_rp (sk_zero HVq12.out HN14q12.out (.slice A8 n8' c8) (.slice B8 q8 d8) (.slice X8 xn8 xc8) (.slice Y8 yn8 yc8) (.int .i64 t8)) (st_other HN15q12.out (by omega) (.slice A8 n8' c8) (.slice B8 q8 d8) (.slice X8 xn8 xc8) (.slice Y8 yn8 yc8) (.int .i64 t8)) (.int .i64 E8) (.int .i64 I8), (HAq12.out.st HN14q12.out (by omega) (.slice A8 n8' c8) (.slice B8 q8 d8) (.slice X8 xn8 xc8) (.slice Y8 yn8 yc8) (.int .i64 t8)).rp (st_other HN15q12.out (by omega) (.slice A8 n8' c8) (.slice B8 q8 d8) (.slice X8 xn8 xc8) (.slice Y8 yn8 yc8) (.int .i64 t8)) (by omega) (.int .i64 E8) (.int .i64 I8), rp_on (st_on HOq12.out (by omega) (.slice A8 n8' c8) (.slice B8 q8 d8) (.slice X8 xn8 xc8) (.slice Y8 yn8 yc8) (.int .i64 t8)) (by omega) _ _, by omega, by omega, by omega, fun p hp hK => HN8.out p hp (HN7.out p hp hK)⟩
          · go_simp
            have al := (Below.refl wq1.heap.size wq1).alloc (Nat.le_refl _) (.cells st0 35)
            refine hK.out _ (wq1.alloc (.cells st0 35)) (HOq2.out.same al (fun k hk => by have := hk.1; have := HOq2.out.size; omega)) (fun hHeld => ?_)
            clear hK K0
            (try simp only [Act.put, sA, sB, sC])
            have HVq14 := Lib.hid (HVq2.out.below al)
            have HAq14 := Lib.hid (HAq2.out.below al)
            have HOq14 := Lib.hid (HOq2.out.same al (fun k hk => by have := hk.1; have := HOq2.out.size; omega))
            have HN14q14 := Lib.hid (Blk.new wq1 35 st0)
            have hgeq14 := HOq2.out.size
            (try clear hHeld)
            generalize wq1.alloc (.cells st0 35) = wq13 at HAq14 HOq14  HN14q14 HVq14 ⊢
            obtain ⟨g14, hgq14⟩ : ∃ g, g = wq1.heap.size := ⟨_, rfl⟩
            rw [← hgq14] at HN14q14 ⊢
            have hHeld := HOq14.out
            have hglg14 : w9.heap.size ≤ g14 := by omega
            clear al hgq14 hgeq14 
            refine wpAnyH_ready (rs := [5, 10]) (by kernel_rfl) (by simp) ?_
            refine AllReadyH.cons (i := 5) rfl (fun K0 hK => ?_) (AllReadyH.cons (i := 10) rfl (fun K0 hK => ?_) AllReadyH.nil)
            · go_simp
              go_at_call 38
              refine (HEX.out _ ⟨A7, n7, c7, B7, q7, d7, X7, xn7, xc7, Y7, yn7, yc7, t7⟩ HVq14.out (HH9.out.on HA9.out HOq14.out) HAq14.out).mono ?_
              rintro _ wq15 ⟨V8, rfl, hv8, ha8, ho8, hn8⟩
              obtain ⟨A8, n8', c8, B8, q8, d8, X8, xn8, xc8, Y8, yn8, yc8, t8⟩ := V8
              dsimp only at hv8 ⊢
              have HVq16 := Lib.hid hv8
              have HN8 := Lib.hid (fun (p : Nat → Prop) (hp : ∀ b, w9.heap.size ≤ b → p b) h7 => hn8 p (fun b hb => hp b (by have := HOq14.out.size; omega)) h7)
              have HAq16 := Lib.hid ha8
              have HOq16 := Lib.hid (HOq14.out.trans (On.of_on ho8 (fun k hk => ⟨by have := hk.1; have := HOq14.out.size; omega, hk.2⟩)))
              have HN14q16 := Lib.hid (Blk.on HN14q14.out ho8 ⟨HN14q14.out.lt, by omega⟩)
              clear hv8 ha8 ho8 hn8
              refine hK.out _ _ HOq16.out (fun hHeld => ?_)
              clear hK K0
              (try simp only [Act.put, sA, sB, sC])
              refine tk 6 45 (v := ?_) ?_ ?_
              rotate_left
              · intro w' hSw
                go_simp
                (try with_reducible rfl)
              (try simp only [Act.put, sA, sB, sC])
              refine tk 7 52 (v := ?_) ?_ ?_
              rotate_left
              · intro w' hSw
                go_simp
                (try with_reducible rfl)
              (try simp only [Act.put, sA, sB, sC])
              refine tk 8 53 (v := ?_) ?_ ?_
              rotate_left
              · intro w' hSw
                go_simp
                (try with_reducible rfl)
              (try simp only [Act.put, sA, sB, sC])
              refine wpAnyH_ready (rs := [10]) (by kernel_rfl) (by simp) ?_
              refine AllReadyH.cons (i := 10) rfl (fun K0 hK => ?_) AllReadyH.nil
              go_simp
              have al := (Below.refl wq15.heap.size wq15).alloc (Nat.le_refl _) (.cells rp0 46)
              refine hK.out _ (wq15.alloc (.cells rp0 46)) (HOq16.out.same al (fun k hk => by have := hk.1; have := HOq16.out.size; omega)) (fun hHeld => ?_)
              clear hK K0
              (try simp only [Act.put, sA, sB, sC])
              have HVq18 := Lib.hid (HVq16.out.below al)
              have HAq18 := Lib.hid (HAq16.out.below al)
              have HOq18 := Lib.hid (HOq16.out.same al (fun k hk => by have := hk.1; have := HOq16.out.size; omega))
              have HN14q18 := Lib.hid (HN14q16.out.later al)
              have hltq18g14 : g14 < wq15.heap.size := HN14q16.out.lt
              have HN15q18 := Lib.hid (Blk.new wq15 46 rp0)
              have hgeq18 := HOq16.out.size
              (try clear hHeld)
              generalize wq15.alloc (.cells rp0 46) = wq17 at HAq18 HOq18 HN14q18 HN15q18 HVq18 ⊢
              obtain ⟨g15, hgq18⟩ : ∃ g, g = wq15.heap.size := ⟨_, rfl⟩
              rw [← hgq18] at HN15q18 ⊢
              have hHeld := HOq18.out
              have hglg15 : w9.heap.size ≤ g15 := by omega
              have hgn : g14 ≠ g15 := by omega
              clear al hgq18 hgeq18 hltq18g14
              obtain ⟨y0, y1, y2, y3, y4⟩ := (show _ ∧ _ ∧ _ ∧ _ ∧ _ from ⟨HN14q18.out.cell 0 rfl, HN14q18.out.cell 1 rfl, HN14q18.out.cell 2 rfl, HN14q18.out.cell 3 rfl, HN14q18.out.cell 4 rfl⟩)
              obtain ⟨f0, f1, f2, f3, f4⟩ := (show _ ∧ _ ∧ _ ∧ _ ∧ _ from ⟨HN14q18.out.loose 0, HN14q18.out.loose 1, HN14q18.out.loose 2, HN14q18.out.loose 3, HN14q18.out.loose 4⟩)
              refine wpAnyH_ready (rs := [11]) (by kernel_rfl) (by simp) ?_
              refine AllReadyH.cons (i := 11) rfl (fun K0 hK => ?_) AllReadyH.nil
              go_simp
              refine hK.out _ (((((wq17.setCell ⟨g14, 0, none⟩ (.slice A8 n8' c8)).setCell ⟨g14, 1, none⟩ (.slice B8 q8 d8)).setCell ⟨g14, 2, none⟩ (.slice X8 xn8 xc8)).setCell ⟨g14, 3, none⟩ (.slice Y8 yn8 yc8)).setCell ⟨g14, 4, none⟩ (.int .i64 t8)) (st_on HOq18.out (by omega) (.slice A8 n8' c8) (.slice B8 q8 d8) (.slice X8 xn8 xc8) (.slice Y8 yn8 yc8) (.int .i64 t8)) (fun hHeld => ?_)
              clear hK K0
              (try simp only [Act.put, sA, sB, sC])
              clear y0 y1 y2 y3 y4 f0 f1 f2 f3 f4
              have hp9 := st_other HN15q18.out (show g14 ≠ g15 by omega) (.slice A8 n8' c8) (.slice B8 q8 d8) (.slice X8 xn8 xc8) (.slice Y8 yn8 yc8) (.int .i64 t8)
              obtain ⟨z0, z1⟩ := (show _ ∧ _ from ⟨hp9.cell 0 rfl, hp9.cell 1 rfl⟩)
              obtain ⟨e0, e1⟩ := (show _ ∧ _ from ⟨hp9.loose 0, hp9.loose 1⟩)
              clear hp9
              refine wpAnyH_ready (rs := [12]) (by kernel_rfl) (by simp) ?_
              refine AllReadyH.cons (i := 12) rfl (fun K0 hK => ?_) AllReadyH.nil
              go_simp
              refine hK.out _ (((((((wq17.setCell ⟨g14, 0, none⟩ (.slice A8 n8' c8)).setCell ⟨g14, 1, none⟩ (.slice B8 q8 d8)).setCell ⟨g14, 2, none⟩ (.slice X8 xn8 xc8)).setCell ⟨g14, 3, none⟩ (.slice Y8 yn8 yc8)).setCell ⟨g14, 4, none⟩ (.int .i64 t8)).setCell ⟨g15, 0, none⟩ (.int .i64 E8)).setCell ⟨g15, 1, none⟩ (.int .i64 I8)) (rp_on (st_on HOq18.out (by omega) (.slice A8 n8' c8) (.slice B8 q8 d8) (.slice X8 xn8 xc8) (.slice Y8 yn8 yc8) (.int .i64 t8)) (by omega) _ _) (fun hHeld => ?_)
              clear hK K0
              (try simp only [Act.put, sA, sB, sC])
              refine wpAnyH_done (by kernel_rfl) ?_ _
              go_wp2_with fail
              go_meet
              exact ⟨g14, g15, ⟨A8, n8', c8, B8, q8, d8, X8, xn8, xc8, Y8, yn8, yc8, t8⟩, rfl, rfl, rp_other (st_put HN14q18.out rfl (.slice A8 n8' c8) (.slice B8 q8 d8) (.slice X8 xn8 xc8) (.slice Y8 yn8 yc8) (.int .i64 t8)) (by omega) _ _, rp_put (st_other HN15q18.out (by omega) (.slice A8 n8' c8) (.slice B8 q8 d8) (.slice X8 xn8 xc8) (.slice Y8 yn8 yc8) (.int .i64 t8)) rfl (.int .i64 E8) (.int .i64 I8), sk_rp (sk_zero HVq18.out HN14q18.out (.slice A8 n8' c8) (.slice B8 q8 d8) (.slice X8 xn8 xc8) (.slice Y8 yn8 yc8) (.int .i64 t8)) (st_other HN15q18.out (by omega) (.slice A8 n8' c8) (.slice B8 q8 d8) (.slice X8 xn8 xc8) (.slice Y8 yn8 yc8) (.int .i64 t8)) (.int .i64 E8) (.int .i64 I8), (HAq18.out.st HN14q18.out (by omega) (.slice A8 n8' c8) (.slice B8 q8 d8) (.slice X8 xn8 xc8) (.slice Y8 yn8 yc8) (.int .i64 t8)).rp (st_other HN15q18.out (by omega) (.slice A8 n8' c8) (.slice B8 q8 d8) (.slice X8 xn8 xc8) (.slice Y8 yn8 yc8) (.int .i64 t8)) (by omega) (.int .i64 E8) (.int .i64 I8), rp_on (st_on HOq18.out (by omega) (.slice A8 n8' c8) (.slice B8 q8 d8) (.slice X8 xn8 xc8) (.slice Y8 yn8 yc8) (.int .i64 t8)) (by omega) _ _, by omega, by omega, by omega, fun p hp hK => HN8.out p hp (HN7.out p hp hK)⟩
            · go_simp
              have al := (Below.refl wq13.heap.size wq13).alloc (Nat.le_refl _) (.cells rp0 46)
              refine hK.out _ (wq13.alloc (.cells rp0 46)) (HOq14.out.same al (fun k hk => by have := hk.1; have := HOq14.out.size; omega)) (fun hHeld => ?_)
              clear hK K0
              (try simp only [Act.put, sA, sB, sC])
              have HVq20 := Lib.hid (HVq14.out.below al)
              have HAq20 := Lib.hid (HAq14.out.below al)
              have HOq20 := Lib.hid (HOq14.out.same al (fun k hk => by have := hk.1; have := HOq14.out.size; omega))
              have HN14q20 := Lib.hid (HN14q14.out.later al)
              have hltq20g14 : g14 < wq13.heap.size := HN14q14.out.lt
              have HN15q20 := Lib.hid (Blk.new wq13 46 rp0)
              have hgeq20 := HOq14.out.size
              (try clear hHeld)
              generalize wq13.alloc (.cells rp0 46) = wq19 at HAq20 HOq20 HN14q20 HN15q20 HVq20 ⊢
              obtain ⟨g15, hgq20⟩ : ∃ g, g = wq13.heap.size := ⟨_, rfl⟩
              rw [← hgq20] at HN15q20 ⊢
              have hHeld := HOq20.out
              have hglg15 : w9.heap.size ≤ g15 := by omega
              have hgn : g14 ≠ g15 := by omega
              clear al hgq20 hgeq20 hltq20g14
              refine wpAnyH_ready (rs := [5]) (by kernel_rfl) (by simp) ?_
              refine AllReadyH.cons (i := 5) rfl (fun K0 hK => ?_) AllReadyH.nil
              go_simp
              go_at_call 38
              refine (HEX.out _ ⟨A7, n7, c7, B7, q7, d7, X7, xn7, xc7, Y7, yn7, yc7, t7⟩ HVq20.out (HH9.out.on HA9.out HOq20.out) HAq20.out).mono ?_
              rintro _ wq21 ⟨V8, rfl, hv8, ha8, ho8, hn8⟩
              obtain ⟨A8, n8', c8, B8, q8, d8, X8, xn8, xc8, Y8, yn8, yc8, t8⟩ := V8
              dsimp only at hv8 ⊢
              have HVq22 := Lib.hid hv8
              have HN8 := Lib.hid (fun (p : Nat → Prop) (hp : ∀ b, w9.heap.size ≤ b → p b) h7 => hn8 p (fun b hb => hp b (by have := HOq20.out.size; omega)) h7)
              have HAq22 := Lib.hid ha8
              have HOq22 := Lib.hid (HOq20.out.trans (On.of_on ho8 (fun k hk => ⟨by have := hk.1; have := HOq20.out.size; omega, hk.2⟩)))
              have HN14q22 := Lib.hid (Blk.on HN14q20.out ho8 ⟨HN14q20.out.lt, by omega⟩)
              have HN15q22 := Lib.hid (Blk.on HN15q20.out ho8 ⟨HN15q20.out.lt, by omega⟩)
              clear hv8 ha8 ho8 hn8
              refine hK.out _ _ HOq22.out (fun hHeld => ?_)
              clear hK K0
              (try simp only [Act.put, sA, sB, sC])
              refine tk 6 45 (v := ?_) ?_ ?_
              rotate_left
              · intro w' hSw
                go_simp
                (try with_reducible rfl)
              (try simp only [Act.put, sA, sB, sC])
              refine tk 7 52 (v := ?_) ?_ ?_
              rotate_left
              · intro w' hSw
                go_simp
                (try with_reducible rfl)
              (try simp only [Act.put, sA, sB, sC])
              refine tk 8 53 (v := ?_) ?_ ?_
              rotate_left
              · intro w' hSw
                go_simp
                (try with_reducible rfl)
              (try simp only [Act.put, sA, sB, sC])
              obtain ⟨y0, y1, y2, y3, y4⟩ := (show _ ∧ _ ∧ _ ∧ _ ∧ _ from ⟨HN14q22.out.cell 0 rfl, HN14q22.out.cell 1 rfl, HN14q22.out.cell 2 rfl, HN14q22.out.cell 3 rfl, HN14q22.out.cell 4 rfl⟩)
              obtain ⟨f0, f1, f2, f3, f4⟩ := (show _ ∧ _ ∧ _ ∧ _ ∧ _ from ⟨HN14q22.out.loose 0, HN14q22.out.loose 1, HN14q22.out.loose 2, HN14q22.out.loose 3, HN14q22.out.loose 4⟩)
              refine wpAnyH_ready (rs := [11]) (by kernel_rfl) (by simp) ?_
              refine AllReadyH.cons (i := 11) rfl (fun K0 hK => ?_) AllReadyH.nil
              go_simp
              refine hK.out _ (((((wq21.setCell ⟨g14, 0, none⟩ (.slice A8 n8' c8)).setCell ⟨g14, 1, none⟩ (.slice B8 q8 d8)).setCell ⟨g14, 2, none⟩ (.slice X8 xn8 xc8)).setCell ⟨g14, 3, none⟩ (.slice Y8 yn8 yc8)).setCell ⟨g14, 4, none⟩ (.int .i64 t8)) (st_on HOq22.out (by omega) (.slice A8 n8' c8) (.slice B8 q8 d8) (.slice X8 xn8 xc8) (.slice Y8 yn8 yc8) (.int .i64 t8)) (fun hHeld => ?_)
              clear hK K0
              (try simp only [Act.put, sA, sB, sC])
              clear y0 y1 y2 y3 y4 f0 f1 f2 f3 f4
              have hp9 := st_other HN15q22.out (show g14 ≠ g15 by omega) (.slice A8 n8' c8) (.slice B8 q8 d8) (.slice X8 xn8 xc8) (.slice Y8 yn8 yc8) (.int .i64 t8)
              obtain ⟨z0, z1⟩ := (show _ ∧ _ from ⟨hp9.cell 0 rfl, hp9.cell 1 rfl⟩)
              obtain ⟨e0, e1⟩ := (show _ ∧ _ from ⟨hp9.loose 0, hp9.loose 1⟩)
              clear hp9
              refine wpAnyH_ready (rs := [12]) (by kernel_rfl) (by simp) ?_
              refine AllReadyH.cons (i := 12) rfl (fun K0 hK => ?_) AllReadyH.nil
              go_simp
              refine hK.out _ (((((((wq21.setCell ⟨g14, 0, none⟩ (.slice A8 n8' c8)).setCell ⟨g14, 1, none⟩ (.slice B8 q8 d8)).setCell ⟨g14, 2, none⟩ (.slice X8 xn8 xc8)).setCell ⟨g14, 3, none⟩ (.slice Y8 yn8 yc8)).setCell ⟨g14, 4, none⟩ (.int .i64 t8)).setCell ⟨g15, 0, none⟩ (.int .i64 E8)).setCell ⟨g15, 1, none⟩ (.int .i64 I8)) (rp_on (st_on HOq22.out (by omega) (.slice A8 n8' c8) (.slice B8 q8 d8) (.slice X8 xn8 xc8) (.slice Y8 yn8 yc8) (.int .i64 t8)) (by omega) _ _) (fun hHeld => ?_)
              clear hK K0
              (try simp only [Act.put, sA, sB, sC])
              refine wpAnyH_done (by kernel_rfl) ?_ _
              go_wp2_with fail
              go_meet
              exact ⟨g14, g15, ⟨A8, n8', c8, B8, q8, d8, X8, xn8, xc8, Y8, yn8, yc8, t8⟩, rfl, rfl, rp_other (st_put HN14q22.out rfl (.slice A8 n8' c8) (.slice B8 q8 d8) (.slice X8 xn8 xc8) (.slice Y8 yn8 yc8) (.int .i64 t8)) (by omega) _ _, rp_put (st_other HN15q22.out (by omega) (.slice A8 n8' c8) (.slice B8 q8 d8) (.slice X8 xn8 xc8) (.slice Y8 yn8 yc8) (.int .i64 t8)) rfl (.int .i64 E8) (.int .i64 I8), sk_rp (sk_zero HVq22.out HN14q22.out (.slice A8 n8' c8) (.slice B8 q8 d8) (.slice X8 xn8 xc8) (.slice Y8 yn8 yc8) (.int .i64 t8)) (st_other HN15q22.out (by omega) (.slice A8 n8' c8) (.slice B8 q8 d8) (.slice X8 xn8 xc8) (.slice Y8 yn8 yc8) (.int .i64 t8)) (.int .i64 E8) (.int .i64 I8), (HAq22.out.st HN14q22.out (by omega) (.slice A8 n8' c8) (.slice B8 q8 d8) (.slice X8 xn8 xc8) (.slice Y8 yn8 yc8) (.int .i64 t8)).rp (st_other HN15q22.out (by omega) (.slice A8 n8' c8) (.slice B8 q8 d8) (.slice X8 xn8 xc8) (.slice Y8 yn8 yc8) (.int .i64 t8)) (by omega) (.int .i64 E8) (.int .i64 I8), rp_on (st_on HOq22.out (by omega) (.slice A8 n8' c8) (.slice B8 q8 d8) (.slice X8 xn8 xc8) (.slice Y8 yn8 yc8) (.int .i64 t8)) (by omega) _ _, by omega, by omega, by omega, fun p hp hK => HN8.out p hp (HN7.out p hp hK)⟩
          · go_simp
            have al := (Below.refl wq1.heap.size wq1).alloc (Nat.le_refl _) (.cells rp0 46)
            refine hK.out _ (wq1.alloc (.cells rp0 46)) (HOq2.out.same al (fun k hk => by have := hk.1; have := HOq2.out.size; omega)) (fun hHeld => ?_)
            clear hK K0
            (try simp only [Act.put, sA, sB, sC])
            have HVq24 := Lib.hid (HVq2.out.below al)
            have HAq24 := Lib.hid (HAq2.out.below al)
            have HOq24 := Lib.hid (HOq2.out.same al (fun k hk => by have := hk.1; have := HOq2.out.size; omega))
            have HN15q24 := Lib.hid (Blk.new wq1 46 rp0)
            have hgeq24 := HOq2.out.size
            (try clear hHeld)
            generalize wq1.alloc (.cells rp0 46) = wq23 at HAq24 HOq24  HN15q24 HVq24 ⊢
            obtain ⟨g15, hgq24⟩ : ∃ g, g = wq1.heap.size := ⟨_, rfl⟩
            rw [← hgq24] at HN15q24 ⊢
            have hHeld := HOq24.out
            have hglg15 : w9.heap.size ≤ g15 := by omega
            clear al hgq24 hgeq24 
            refine wpAnyH_ready (rs := [5, 9]) (by kernel_rfl) (by simp) ?_
            refine AllReadyH.cons (i := 5) rfl (fun K0 hK => ?_) (AllReadyH.cons (i := 9) rfl (fun K0 hK => ?_) AllReadyH.nil)
            · go_simp
              go_at_call 38
              refine (HEX.out _ ⟨A7, n7, c7, B7, q7, d7, X7, xn7, xc7, Y7, yn7, yc7, t7⟩ HVq24.out (HH9.out.on HA9.out HOq24.out) HAq24.out).mono ?_
              rintro _ wq25 ⟨V8, rfl, hv8, ha8, ho8, hn8⟩
              obtain ⟨A8, n8', c8, B8, q8, d8, X8, xn8, xc8, Y8, yn8, yc8, t8⟩ := V8
              dsimp only at hv8 ⊢
              have HVq26 := Lib.hid hv8
              have HN8 := Lib.hid (fun (p : Nat → Prop) (hp : ∀ b, w9.heap.size ≤ b → p b) h7 => hn8 p (fun b hb => hp b (by have := HOq24.out.size; omega)) h7)
              have HAq26 := Lib.hid ha8
              have HOq26 := Lib.hid (HOq24.out.trans (On.of_on ho8 (fun k hk => ⟨by have := hk.1; have := HOq24.out.size; omega, hk.2⟩)))
              have HN15q26 := Lib.hid (Blk.on HN15q24.out ho8 ⟨HN15q24.out.lt, by omega⟩)
              clear hv8 ha8 ho8 hn8
              refine hK.out _ _ HOq26.out (fun hHeld => ?_)
              clear hK K0
              (try simp only [Act.put, sA, sB, sC])
              refine tk 6 45 (v := ?_) ?_ ?_
              rotate_left
              · intro w' hSw
                go_simp
                (try with_reducible rfl)
              (try simp only [Act.put, sA, sB, sC])
              refine tk 7 52 (v := ?_) ?_ ?_
              rotate_left
              · intro w' hSw
                go_simp
                (try with_reducible rfl)
              (try simp only [Act.put, sA, sB, sC])
              refine tk 8 53 (v := ?_) ?_ ?_
              rotate_left
              · intro w' hSw
                go_simp
                (try with_reducible rfl)
              (try simp only [Act.put, sA, sB, sC])
              refine wpAnyH_ready (rs := [9]) (by kernel_rfl) (by simp) ?_
              refine AllReadyH.cons (i := 9) rfl (fun K0 hK => ?_) AllReadyH.nil
              go_simp
              have al := (Below.refl wq25.heap.size wq25).alloc (Nat.le_refl _) (.cells st0 35)
              refine hK.out _ (wq25.alloc (.cells st0 35)) (HOq26.out.same al (fun k hk => by have := hk.1; have := HOq26.out.size; omega)) (fun hHeld => ?_)
              clear hK K0
              (try simp only [Act.put, sA, sB, sC])
              have HVq28 := Lib.hid (HVq26.out.below al)
              have HAq28 := Lib.hid (HAq26.out.below al)
              have HOq28 := Lib.hid (HOq26.out.same al (fun k hk => by have := hk.1; have := HOq26.out.size; omega))
              have HN15q28 := Lib.hid (HN15q26.out.later al)
              have hltq28g15 : g15 < wq25.heap.size := HN15q26.out.lt
              have HN14q28 := Lib.hid (Blk.new wq25 35 st0)
              have hgeq28 := HOq26.out.size
              (try clear hHeld)
              generalize wq25.alloc (.cells st0 35) = wq27 at HAq28 HOq28 HN15q28 HN14q28 HVq28 ⊢
              obtain ⟨g14, hgq28⟩ : ∃ g, g = wq25.heap.size := ⟨_, rfl⟩
              rw [← hgq28] at HN14q28 ⊢
              have hHeld := HOq28.out
              have hglg14 : w9.heap.size ≤ g14 := by omega
              have hgn : g14 ≠ g15 := by omega
              clear al hgq28 hgeq28 hltq28g15
              obtain ⟨y0, y1, y2, y3, y4⟩ := (show _ ∧ _ ∧ _ ∧ _ ∧ _ from ⟨HN14q28.out.cell 0 rfl, HN14q28.out.cell 1 rfl, HN14q28.out.cell 2 rfl, HN14q28.out.cell 3 rfl, HN14q28.out.cell 4 rfl⟩)
              obtain ⟨f0, f1, f2, f3, f4⟩ := (show _ ∧ _ ∧ _ ∧ _ ∧ _ from ⟨HN14q28.out.loose 0, HN14q28.out.loose 1, HN14q28.out.loose 2, HN14q28.out.loose 3, HN14q28.out.loose 4⟩)
              refine wpAnyH_ready (rs := [11]) (by kernel_rfl) (by simp) ?_
              refine AllReadyH.cons (i := 11) rfl (fun K0 hK => ?_) AllReadyH.nil
              go_simp
              refine hK.out _ (((((wq27.setCell ⟨g14, 0, none⟩ (.slice A8 n8' c8)).setCell ⟨g14, 1, none⟩ (.slice B8 q8 d8)).setCell ⟨g14, 2, none⟩ (.slice X8 xn8 xc8)).setCell ⟨g14, 3, none⟩ (.slice Y8 yn8 yc8)).setCell ⟨g14, 4, none⟩ (.int .i64 t8)) (st_on HOq28.out (by omega) (.slice A8 n8' c8) (.slice B8 q8 d8) (.slice X8 xn8 xc8) (.slice Y8 yn8 yc8) (.int .i64 t8)) (fun hHeld => ?_)
              clear hK K0
              (try simp only [Act.put, sA, sB, sC])
              clear y0 y1 y2 y3 y4 f0 f1 f2 f3 f4
              have hp9 := st_other HN15q28.out (show g14 ≠ g15 by omega) (.slice A8 n8' c8) (.slice B8 q8 d8) (.slice X8 xn8 xc8) (.slice Y8 yn8 yc8) (.int .i64 t8)
              obtain ⟨z0, z1⟩ := (show _ ∧ _ from ⟨hp9.cell 0 rfl, hp9.cell 1 rfl⟩)
              obtain ⟨e0, e1⟩ := (show _ ∧ _ from ⟨hp9.loose 0, hp9.loose 1⟩)
              clear hp9
              refine wpAnyH_ready (rs := [12]) (by kernel_rfl) (by simp) ?_
              refine AllReadyH.cons (i := 12) rfl (fun K0 hK => ?_) AllReadyH.nil
              go_simp
              refine hK.out _ (((((((wq27.setCell ⟨g14, 0, none⟩ (.slice A8 n8' c8)).setCell ⟨g14, 1, none⟩ (.slice B8 q8 d8)).setCell ⟨g14, 2, none⟩ (.slice X8 xn8 xc8)).setCell ⟨g14, 3, none⟩ (.slice Y8 yn8 yc8)).setCell ⟨g14, 4, none⟩ (.int .i64 t8)).setCell ⟨g15, 0, none⟩ (.int .i64 E8)).setCell ⟨g15, 1, none⟩ (.int .i64 I8)) (rp_on (st_on HOq28.out (by omega) (.slice A8 n8' c8) (.slice B8 q8 d8) (.slice X8 xn8 xc8) (.slice Y8 yn8 yc8) (.int .i64 t8)) (by omega) _ _) (fun hHeld => ?_)
              clear hK K0
              (try simp only [Act.put, sA, sB, sC])
              refine wpAnyH_done (by kernel_rfl) ?_ _
              go_wp2_with fail
              go_meet
              exact ⟨g14, g15, ⟨A8, n8', c8, B8, q8, d8, X8, xn8, xc8, Y8, yn8, yc8, t8⟩, rfl, rfl, rp_other (st_put HN14q28.out rfl (.slice A8 n8' c8) (.slice B8 q8 d8) (.slice X8 xn8 xc8) (.slice Y8 yn8 yc8) (.int .i64 t8)) (by omega) _ _, rp_put (st_other HN15q28.out (by omega) (.slice A8 n8' c8) (.slice B8 q8 d8) (.slice X8 xn8 xc8) (.slice Y8 yn8 yc8) (.int .i64 t8)) rfl (.int .i64 E8) (.int .i64 I8), sk_rp (sk_zero HVq28.out HN14q28.out (.slice A8 n8' c8) (.slice B8 q8 d8) (.slice X8 xn8 xc8) (.slice Y8 yn8 yc8) (.int .i64 t8)) (st_other HN15q28.out (by omega) (.slice A8 n8' c8) (.slice B8 q8 d8) (.slice X8 xn8 xc8) (.slice Y8 yn8 yc8) (.int .i64 t8)) (.int .i64 E8) (.int .i64 I8), (HAq28.out.st HN14q28.out (by omega) (.slice A8 n8' c8) (.slice B8 q8 d8) (.slice X8 xn8 xc8) (.slice Y8 yn8 yc8) (.int .i64 t8)).rp (st_other HN15q28.out (by omega) (.slice A8 n8' c8) (.slice B8 q8 d8) (.slice X8 xn8 xc8) (.slice Y8 yn8 yc8) (.int .i64 t8)) (by omega) (.int .i64 E8) (.int .i64 I8), rp_on (st_on HOq28.out (by omega) (.slice A8 n8' c8) (.slice B8 q8 d8) (.slice X8 xn8 xc8) (.slice Y8 yn8 yc8) (.int .i64 t8)) (by omega) _ _, by omega, by omega, by omega, fun p hp hK => HN8.out p hp (HN7.out p hp hK)⟩
            · go_simp
              have al := (Below.refl wq23.heap.size wq23).alloc (Nat.le_refl _) (.cells st0 35)
              refine hK.out _ (wq23.alloc (.cells st0 35)) (HOq24.out.same al (fun k hk => by have := hk.1; have := HOq24.out.size; omega)) (fun hHeld => ?_)
              clear hK K0
              (try simp only [Act.put, sA, sB, sC])
              have HVq30 := Lib.hid (HVq24.out.below al)
              have HAq30 := Lib.hid (HAq24.out.below al)
              have HOq30 := Lib.hid (HOq24.out.same al (fun k hk => by have := hk.1; have := HOq24.out.size; omega))
              have HN15q30 := Lib.hid (HN15q24.out.later al)
              have hltq30g15 : g15 < wq23.heap.size := HN15q24.out.lt
              have HN14q30 := Lib.hid (Blk.new wq23 35 st0)
              have hgeq30 := HOq24.out.size
              (try clear hHeld)
              generalize wq23.alloc (.cells st0 35) = wq29 at HAq30 HOq30 HN15q30 HN14q30 HVq30 ⊢
              obtain ⟨g14, hgq30⟩ : ∃ g, g = wq23.heap.size := ⟨_, rfl⟩
              rw [← hgq30] at HN14q30 ⊢
              have hHeld := HOq30.out
              have hglg14 : w9.heap.size ≤ g14 := by omega
              have hgn : g14 ≠ g15 := by omega
              clear al hgq30 hgeq30 hltq30g15
              refine wpAnyH_ready (rs := [5]) (by kernel_rfl) (by simp) ?_
              refine AllReadyH.cons (i := 5) rfl (fun K0 hK => ?_) AllReadyH.nil
              go_simp
              go_at_call 38
              refine (HEX.out _ ⟨A7, n7, c7, B7, q7, d7, X7, xn7, xc7, Y7, yn7, yc7, t7⟩ HVq30.out (HH9.out.on HA9.out HOq30.out) HAq30.out).mono ?_
              rintro _ wq31 ⟨V8, rfl, hv8, ha8, ho8, hn8⟩
              obtain ⟨A8, n8', c8, B8, q8, d8, X8, xn8, xc8, Y8, yn8, yc8, t8⟩ := V8
              dsimp only at hv8 ⊢
              have HVq32 := Lib.hid hv8
              have HN8 := Lib.hid (fun (p : Nat → Prop) (hp : ∀ b, w9.heap.size ≤ b → p b) h7 => hn8 p (fun b hb => hp b (by have := HOq30.out.size; omega)) h7)
              have HAq32 := Lib.hid ha8
              have HOq32 := Lib.hid (HOq30.out.trans (On.of_on ho8 (fun k hk => ⟨by have := hk.1; have := HOq30.out.size; omega, hk.2⟩)))
              have HN14q32 := Lib.hid (Blk.on HN14q30.out ho8 ⟨HN14q30.out.lt, by omega⟩)
              have HN15q32 := Lib.hid (Blk.on HN15q30.out ho8 ⟨HN15q30.out.lt, by omega⟩)
              clear hv8 ha8 ho8 hn8
              refine hK.out _ _ HOq32.out (fun hHeld => ?_)
              clear hK K0
              (try simp only [Act.put, sA, sB, sC])
              refine tk 6 45 (v := ?_) ?_ ?_
              rotate_left
              · intro w' hSw
                go_simp
                (try with_reducible rfl)
              (try simp only [Act.put, sA, sB, sC])
              refine tk 7 52 (v := ?_) ?_ ?_
              rotate_left
              · intro w' hSw
                go_simp
                (try with_reducible rfl)
              (try simp only [Act.put, sA, sB, sC])
              refine tk 8 53 (v := ?_) ?_ ?_
              rotate_left
              · intro w' hSw
                go_simp
                (try with_reducible rfl)
              (try simp only [Act.put, sA, sB, sC])
              obtain ⟨y0, y1, y2, y3, y4⟩ := (show _ ∧ _ ∧ _ ∧ _ ∧ _ from ⟨HN14q32.out.cell 0 rfl, HN14q32.out.cell 1 rfl, HN14q32.out.cell 2 rfl, HN14q32.out.cell 3 rfl, HN14q32.out.cell 4 rfl⟩)
              obtain ⟨f0, f1, f2, f3, f4⟩ := (show _ ∧ _ ∧ _ ∧ _ ∧ _ from ⟨HN14q32.out.loose 0, HN14q32.out.loose 1, HN14q32.out.loose 2, HN14q32.out.loose 3, HN14q32.out.loose 4⟩)
              refine wpAnyH_ready (rs := [11]) (by kernel_rfl) (by simp) ?_
              refine AllReadyH.cons (i := 11) rfl (fun K0 hK => ?_) AllReadyH.nil
              go_simp
              refine hK.out _ (((((wq31.setCell ⟨g14, 0, none⟩ (.slice A8 n8' c8)).setCell ⟨g14, 1, none⟩ (.slice B8 q8 d8)).setCell ⟨g14, 2, none⟩ (.slice X8 xn8 xc8)).setCell ⟨g14, 3, none⟩ (.slice Y8 yn8 yc8)).setCell ⟨g14, 4, none⟩ (.int .i64 t8)) (st_on HOq32.out (by omega) (.slice A8 n8' c8) (.slice B8 q8 d8) (.slice X8 xn8 xc8) (.slice Y8 yn8 yc8) (.int .i64 t8)) (fun hHeld => ?_)
              clear hK K0
              (try simp only [Act.put, sA, sB, sC])
              clear y0 y1 y2 y3 y4 f0 f1 f2 f3 f4
              have hp9 := st_other HN15q32.out (show g14 ≠ g15 by omega) (.slice A8 n8' c8) (.slice B8 q8 d8) (.slice X8 xn8 xc8) (.slice Y8 yn8 yc8) (.int .i64 t8)
              obtain ⟨z0, z1⟩ := (show _ ∧ _ from ⟨hp9.cell 0 rfl, hp9.cell 1 rfl⟩)
              obtain ⟨e0, e1⟩ := (show _ ∧ _ from ⟨hp9.loose 0, hp9.loose 1⟩)
              clear hp9
              refine wpAnyH_ready (rs := [12]) (by kernel_rfl) (by simp) ?_
              refine AllReadyH.cons (i := 12) rfl (fun K0 hK => ?_) AllReadyH.nil
              go_simp
              refine hK.out _ (((((((wq31.setCell ⟨g14, 0, none⟩ (.slice A8 n8' c8)).setCell ⟨g14, 1, none⟩ (.slice B8 q8 d8)).setCell ⟨g14, 2, none⟩ (.slice X8 xn8 xc8)).setCell ⟨g14, 3, none⟩ (.slice Y8 yn8 yc8)).setCell ⟨g14, 4, none⟩ (.int .i64 t8)).setCell ⟨g15, 0, none⟩ (.int .i64 E8)).setCell ⟨g15, 1, none⟩ (.int .i64 I8)) (rp_on (st_on HOq32.out (by omega) (.slice A8 n8' c8) (.slice B8 q8 d8) (.slice X8 xn8 xc8) (.slice Y8 yn8 yc8) (.int .i64 t8)) (by omega) _ _) (fun hHeld => ?_)
              clear hK K0
              (try simp only [Act.put, sA, sB, sC])
              refine wpAnyH_done (by kernel_rfl) ?_ _
              go_wp2_with fail
              go_meet
              exact ⟨g14, g15, ⟨A8, n8', c8, B8, q8, d8, X8, xn8, xc8, Y8, yn8, yc8, t8⟩, rfl, rfl, rp_other (st_put HN14q32.out rfl (.slice A8 n8' c8) (.slice B8 q8 d8) (.slice X8 xn8 xc8) (.slice Y8 yn8 yc8) (.int .i64 t8)) (by omega) _ _, rp_put (st_other HN15q32.out (by omega) (.slice A8 n8' c8) (.slice B8 q8 d8) (.slice X8 xn8 xc8) (.slice Y8 yn8 yc8) (.int .i64 t8)) rfl (.int .i64 E8) (.int .i64 I8), sk_rp (sk_zero HVq32.out HN14q32.out (.slice A8 n8' c8) (.slice B8 q8 d8) (.slice X8 xn8 xc8) (.slice Y8 yn8 yc8) (.int .i64 t8)) (st_other HN15q32.out (by omega) (.slice A8 n8' c8) (.slice B8 q8 d8) (.slice X8 xn8 xc8) (.slice Y8 yn8 yc8) (.int .i64 t8)) (.int .i64 E8) (.int .i64 I8), (HAq32.out.st HN14q32.out (by omega) (.slice A8 n8' c8) (.slice B8 q8 d8) (.slice X8 xn8 xc8) (.slice Y8 yn8 yc8) (.int .i64 t8)).rp (st_other HN15q32.out (by omega) (.slice A8 n8' c8) (.slice B8 q8 d8) (.slice X8 xn8 xc8) (.slice Y8 yn8 yc8) (.int .i64 t8)) (by omega) (.int .i64 E8) (.int .i64 I8), rp_on (st_on HOq32.out (by omega) (.slice A8 n8' c8) (.slice B8 q8 d8) (.slice X8 xn8 xc8) (.slice Y8 yn8 yc8) (.int .i64 t8)) (by omega) _ _, by omega, by omega, by omega, fun p hp hK => HN8.out p hp (HN7.out p hp hK)⟩
        · go_simp
          have al := (Below.refl wz.heap.size wz).alloc (Nat.le_refl _) (.cells st0 35)
          refine hK.out _ (wz.alloc (.cells st0 35)) (HOz.out.same al (fun k hk => by have := hk.1; have := HOz.out.size; omega)) (fun hHeld => ?_)
          clear hK K0
          (try simp only [Act.put, sA, sB, sC])
          have HAq34 := Lib.hid (HAz.out.below al)
          have HOq34 := Lib.hid (HOz.out.same al (fun k hk => by have := hk.1; have := HOz.out.size; omega))
          have HN14q34 := Lib.hid (Blk.new wz 35 st0)
          have hgeq34 := HOz.out.size
          (try clear hHeld)
          generalize wz.alloc (.cells st0 35) = wq33 at HAq34 HOq34  HN14q34  ⊢
          obtain ⟨g14, hgq34⟩ : ∃ g, g = wz.heap.size := ⟨_, rfl⟩
          rw [← hgq34] at HN14q34 ⊢
          have hHeld := HOq34.out
          have hglg14 : w9.heap.size ≤ g14 := by omega
          clear al hgq34 hgeq34 
          refine wpAnyH_ready (rs := [2, 10]) (by kernel_rfl) (by simp) ?_
          refine AllReadyH.cons (i := 2) rfl (fun K0 hK => ?_) (AllReadyH.cons (i := 10) rfl (fun K0 hK => ?_) AllReadyH.nil)
          · go_simp
            go_at_call 39
            refine (HWI.out _ (HV9.out.on HA9.out.blk (thin_an la ln lc _) HOq34.out) (HK9.out.on (fun a => ⟨_, _, _, rfl, rfl, rfl⟩) HA9.out.blk (thin_an la ln lc _) HOq34.out)).mono ?_
            rintro _ wq35 ⟨V7, rfl, hv7, hb7, hn7⟩
            obtain ⟨A7, n7, c7, B7, q7, d7, X7, xn7, xc7, Y7, yn7, yc7, t7⟩ := V7
            dsimp only at hv7 ⊢
            have HVq36 := Lib.hid hv7
            have HN7 := Lib.hid (fun (p : Nat → Prop) (hp : ∀ b, w9.heap.size ≤ b → p b) hK => hn7 p (fun b hb => hp b (by have := HOq34.out.size; omega)) hK)
            have HOq36 := Lib.hid (HOq34.out.same hb7 (fun k hk => by have := hk.1; have := HOq34.out.size; omega))
            have HAq36 := Lib.hid (HAq34.out.below hb7)
            have HN14q36 := Lib.hid (HN14q34.out.later hb7)
            clear hv7 hb7 hn7
            refine hK.out _ _ HOq36.out (fun hHeld => ?_)
            clear hK K0
            (try simp only [Act.put, sA, sB, sC])
            refine wpAnyH_ready (rs := [5, 10]) (by kernel_rfl) (by simp) ?_
            refine AllReadyH.cons (i := 5) rfl (fun K0 hK => ?_) (AllReadyH.cons (i := 10) rfl (fun K0 hK => ?_) AllReadyH.nil)
            · go_simp
              go_at_call 38
              refine (HEX.out _ ⟨A7, n7, c7, B7, q7, d7, X7, xn7, xc7, Y7, yn7, yc7, t7⟩ HVq36.out (HH9.out.on HA9.out HOq36.out) HAq36.out).mono ?_
              rintro _ wq37 ⟨V8, rfl, hv8, ha8, ho8, hn8⟩
              obtain ⟨A8, n8', c8, B8, q8, d8, X8, xn8, xc8, Y8, yn8, yc8, t8⟩ := V8
              dsimp only at hv8 ⊢
              have HVq38 := Lib.hid hv8
              have HN8 := Lib.hid (fun (p : Nat → Prop) (hp : ∀ b, w9.heap.size ≤ b → p b) h7 => hn8 p (fun b hb => hp b (by have := HOq36.out.size; omega)) h7)
              have HAq38 := Lib.hid ha8
              have HOq38 := Lib.hid (HOq36.out.trans (On.of_on ho8 (fun k hk => ⟨by have := hk.1; have := HOq36.out.size; omega, hk.2⟩)))
              have HN14q38 := Lib.hid (Blk.on HN14q36.out ho8 ⟨HN14q36.out.lt, by omega⟩)
              clear hv8 ha8 ho8 hn8
              refine hK.out _ _ HOq38.out (fun hHeld => ?_)
              clear hK K0
              (try simp only [Act.put, sA, sB, sC])
              refine tk 6 45 (v := ?_) ?_ ?_
              rotate_left
              · intro w' hSw
                go_simp
                (try with_reducible rfl)
              (try simp only [Act.put, sA, sB, sC])
              refine tk 7 52 (v := ?_) ?_ ?_
              rotate_left
              · intro w' hSw
                go_simp
                (try with_reducible rfl)
              (try simp only [Act.put, sA, sB, sC])
              refine tk 8 53 (v := ?_) ?_ ?_
              rotate_left
              · intro w' hSw
                go_simp
                (try with_reducible rfl)
              (try simp only [Act.put, sA, sB, sC])
              refine wpAnyH_ready (rs := [10]) (by kernel_rfl) (by simp) ?_
              refine AllReadyH.cons (i := 10) rfl (fun K0 hK => ?_) AllReadyH.nil
              go_simp
              have al := (Below.refl wq37.heap.size wq37).alloc (Nat.le_refl _) (.cells rp0 46)
              refine hK.out _ (wq37.alloc (.cells rp0 46)) (HOq38.out.same al (fun k hk => by have := hk.1; have := HOq38.out.size; omega)) (fun hHeld => ?_)
              clear hK K0
              (try simp only [Act.put, sA, sB, sC])
              have HVq40 := Lib.hid (HVq38.out.below al)
              have HAq40 := Lib.hid (HAq38.out.below al)
              have HOq40 := Lib.hid (HOq38.out.same al (fun k hk => by have := hk.1; have := HOq38.out.size; omega))
              have HN14q40 := Lib.hid (HN14q38.out.later al)
              have hltq40g14 : g14 < wq37.heap.size := HN14q38.out.lt
              have HN15q40 := Lib.hid (Blk.new wq37 46 rp0)
              have hgeq40 := HOq38.out.size
              (try clear hHeld)
              generalize wq37.alloc (.cells rp0 46) = wq39 at HAq40 HOq40 HN14q40 HN15q40 HVq40 ⊢
              obtain ⟨g15, hgq40⟩ : ∃ g, g = wq37.heap.size := ⟨_, rfl⟩
              rw [← hgq40] at HN15q40 ⊢
              have hHeld := HOq40.out
              have hglg15 : w9.heap.size ≤ g15 := by omega
              have hgn : g14 ≠ g15 := by omega
              clear al hgq40 hgeq40 hltq40g14
              obtain ⟨y0, y1, y2, y3, y4⟩ := (show _ ∧ _ ∧ _ ∧ _ ∧ _ from ⟨HN14q40.out.cell 0 rfl, HN14q40.out.cell 1 rfl, HN14q40.out.cell 2 rfl, HN14q40.out.cell 3 rfl, HN14q40.out.cell 4 rfl⟩)
              obtain ⟨f0, f1, f2, f3, f4⟩ := (show _ ∧ _ ∧ _ ∧ _ ∧ _ from ⟨HN14q40.out.loose 0, HN14q40.out.loose 1, HN14q40.out.loose 2, HN14q40.out.loose 3, HN14q40.out.loose 4⟩)
              refine wpAnyH_ready (rs := [11]) (by kernel_rfl) (by simp) ?_
              refine AllReadyH.cons (i := 11) rfl (fun K0 hK => ?_) AllReadyH.nil
              go_simp
              refine hK.out _ (((((wq39.setCell ⟨g14, 0, none⟩ (.slice A8 n8' c8)).setCell ⟨g14, 1, none⟩ (.slice B8 q8 d8)).setCell ⟨g14, 2, none⟩ (.slice X8 xn8 xc8)).setCell ⟨g14, 3, none⟩ (.slice Y8 yn8 yc8)).setCell ⟨g14, 4, none⟩ (.int .i64 t8)) (st_on HOq40.out (by omega) (.slice A8 n8' c8) (.slice B8 q8 d8) (.slice X8 xn8 xc8) (.slice Y8 yn8 yc8) (.int .i64 t8)) (fun hHeld => ?_)
              clear hK K0
              (try simp only [Act.put, sA, sB, sC])
              clear y0 y1 y2 y3 y4 f0 f1 f2 f3 f4
              have hp9 := st_other HN15q40.out (show g14 ≠ g15 by omega) (.slice A8 n8' c8) (.slice B8 q8 d8) (.slice X8 xn8 xc8) (.slice Y8 yn8 yc8) (.int .i64 t8)
              obtain ⟨z0, z1⟩ := (show _ ∧ _ from ⟨hp9.cell 0 rfl, hp9.cell 1 rfl⟩)
              obtain ⟨e0, e1⟩ := (show _ ∧ _ from ⟨hp9.loose 0, hp9.loose 1⟩)
              clear hp9
              refine wpAnyH_ready (rs := [12]) (by kernel_rfl) (by simp) ?_
              refine AllReadyH.cons (i := 12) rfl (fun K0 hK => ?_) AllReadyH.nil
              go_simp
              refine hK.out _ (((((((wq39.setCell ⟨g14, 0, none⟩ (.slice A8 n8' c8)).setCell ⟨g14, 1, none⟩ (.slice B8 q8 d8)).setCell ⟨g14, 2, none⟩ (.slice X8 xn8 xc8)).setCell ⟨g14, 3, none⟩ (.slice Y8 yn8 yc8)).setCell ⟨g14, 4, none⟩ (.int .i64 t8)).setCell ⟨g15, 0, none⟩ (.int .i64 E8)).setCell ⟨g15, 1, none⟩ (.int .i64 I8)) (rp_on (st_on HOq40.out (by omega) (.slice A8 n8' c8) (.slice B8 q8 d8) (.slice X8 xn8 xc8) (.slice Y8 yn8 yc8) (.int .i64 t8)) (by omega) _ _) (fun hHeld => ?_)
              clear hK K0
              (try simp only [Act.put, sA, sB, sC])
              refine wpAnyH_done (by kernel_rfl) ?_ _
              go_wp2_with fail
              go_meet
              exact ⟨g14, g15, ⟨A8, n8', c8, B8, q8, d8, X8, xn8, xc8, Y8, yn8, yc8, t8⟩, rfl, rfl, rp_other (st_put HN14q40.out rfl (.slice A8 n8' c8) (.slice B8 q8 d8) (.slice X8 xn8 xc8) (.slice Y8 yn8 yc8) (.int .i64 t8)) (by omega) _ _, rp_put (st_other HN15q40.out (by omega) (.slice A8 n8' c8) (.slice B8 q8 d8) (.slice X8 xn8 xc8) (.slice Y8 yn8 yc8) (.int .i64 t8)) rfl (.int .i64 E8) (.int .i64 I8), sk_rp (sk_zero HVq40.out HN14q40.out (.slice A8 n8' c8) (.slice B8 q8 d8) (.slice X8 xn8 xc8) (.slice Y8 yn8 yc8) (.int .i64 t8)) (st_other HN15q40.out (by omega) (.slice A8 n8' c8) (.slice B8 q8 d8) (.slice X8 xn8 xc8) (.slice Y8 yn8 yc8) (.int .i64 t8)) (.int .i64 E8) (.int .i64 I8), (HAq40.out.st HN14q40.out (by omega) (.slice A8 n8' c8) (.slice B8 q8 d8) (.slice X8 xn8 xc8) (.slice Y8 yn8 yc8) (.int .i64 t8)).rp (st_other HN15q40.out (by omega) (.slice A8 n8' c8) (.slice B8 q8 d8) (.slice X8 xn8 xc8) (.slice Y8 yn8 yc8) (.int .i64 t8)) (by omega) (.int .i64 E8) (.int .i64 I8), rp_on (st_on HOq40.out (by omega) (.slice A8 n8' c8) (.slice B8 q8 d8) (.slice X8 xn8 xc8) (.slice Y8 yn8 yc8) (.int .i64 t8)) (by omega) _ _, by omega, by omega, by omega, fun p hp hK => HN8.out p hp (HN7.out p hp hK)⟩
            · go_simp
              have al := (Below.refl wq35.heap.size wq35).alloc (Nat.le_refl _) (.cells rp0 46)
              refine hK.out _ (wq35.alloc (.cells rp0 46)) (HOq36.out.same al (fun k hk => by have := hk.1; have := HOq36.out.size; omega)) (fun hHeld => ?_)
              clear hK K0
              (try simp only [Act.put, sA, sB, sC])
              have HVq42 := Lib.hid (HVq36.out.below al)
              have HAq42 := Lib.hid (HAq36.out.below al)
              have HOq42 := Lib.hid (HOq36.out.same al (fun k hk => by have := hk.1; have := HOq36.out.size; omega))
              have HN14q42 := Lib.hid (HN14q36.out.later al)
              have hltq42g14 : g14 < wq35.heap.size := HN14q36.out.lt
              have HN15q42 := Lib.hid (Blk.new wq35 46 rp0)
              have hgeq42 := HOq36.out.size
              (try clear hHeld)
              generalize wq35.alloc (.cells rp0 46) = wq41 at HAq42 HOq42 HN14q42 HN15q42 HVq42 ⊢
              obtain ⟨g15, hgq42⟩ : ∃ g, g = wq35.heap.size := ⟨_, rfl⟩
              rw [← hgq42] at HN15q42 ⊢
              have hHeld := HOq42.out
              have hglg15 : w9.heap.size ≤ g15 := by omega
              have hgn : g14 ≠ g15 := by omega
              clear al hgq42 hgeq42 hltq42g14
              refine wpAnyH_ready (rs := [5]) (by kernel_rfl) (by simp) ?_
              refine AllReadyH.cons (i := 5) rfl (fun K0 hK => ?_) AllReadyH.nil
              go_simp
              go_at_call 38
              refine (HEX.out _ ⟨A7, n7, c7, B7, q7, d7, X7, xn7, xc7, Y7, yn7, yc7, t7⟩ HVq42.out (HH9.out.on HA9.out HOq42.out) HAq42.out).mono ?_
              rintro _ wq43 ⟨V8, rfl, hv8, ha8, ho8, hn8⟩
              obtain ⟨A8, n8', c8, B8, q8, d8, X8, xn8, xc8, Y8, yn8, yc8, t8⟩ := V8
              dsimp only at hv8 ⊢
              have HVq44 := Lib.hid hv8
              have HN8 := Lib.hid (fun (p : Nat → Prop) (hp : ∀ b, w9.heap.size ≤ b → p b) h7 => hn8 p (fun b hb => hp b (by have := HOq42.out.size; omega)) h7)
              have HAq44 := Lib.hid ha8
              have HOq44 := Lib.hid (HOq42.out.trans (On.of_on ho8 (fun k hk => ⟨by have := hk.1; have := HOq42.out.size; omega, hk.2⟩)))
              have HN14q44 := Lib.hid (Blk.on HN14q42.out ho8 ⟨HN14q42.out.lt, by omega⟩)
              have HN15q44 := Lib.hid (Blk.on HN15q42.out ho8 ⟨HN15q42.out.lt, by omega⟩)
              clear hv8 ha8 ho8 hn8
              refine hK.out _ _ HOq44.out (fun hHeld => ?_)
              clear hK K0
              (try simp only [Act.put, sA, sB, sC])
              refine tk 6 45 (v := ?_) ?_ ?_
              rotate_left
              · intro w' hSw
                go_simp
                (try with_reducible rfl)
              (try simp only [Act.put, sA, sB, sC])
              refine tk 7 52 (v := ?_) ?_ ?_
              rotate_left
              · intro w' hSw
                go_simp
                (try with_reducible rfl)
              (try simp only [Act.put, sA, sB, sC])
              refine tk 8 53 (v := ?_) ?_ ?_
              rotate_left
              · intro w' hSw
                go_simp
                (try with_reducible rfl)
              (try simp only [Act.put, sA, sB, sC])
              obtain ⟨y0, y1, y2, y3, y4⟩ := (show _ ∧ _ ∧ _ ∧ _ ∧ _ from ⟨HN14q44.out.cell 0 rfl, HN14q44.out.cell 1 rfl, HN14q44.out.cell 2 rfl, HN14q44.out.cell 3 rfl, HN14q44.out.cell 4 rfl⟩)
              obtain ⟨f0, f1, f2, f3, f4⟩ := (show _ ∧ _ ∧ _ ∧ _ ∧ _ from ⟨HN14q44.out.loose 0, HN14q44.out.loose 1, HN14q44.out.loose 2, HN14q44.out.loose 3, HN14q44.out.loose 4⟩)
              refine wpAnyH_ready (rs := [11]) (by kernel_rfl) (by simp) ?_
              refine AllReadyH.cons (i := 11) rfl (fun K0 hK => ?_) AllReadyH.nil
              go_simp
              refine hK.out _ (((((wq43.setCell ⟨g14, 0, none⟩ (.slice A8 n8' c8)).setCell ⟨g14, 1, none⟩ (.slice B8 q8 d8)).setCell ⟨g14, 2, none⟩ (.slice X8 xn8 xc8)).setCell ⟨g14, 3, none⟩ (.slice Y8 yn8 yc8)).setCell ⟨g14, 4, none⟩ (.int .i64 t8)) (st_on HOq44.out (by omega) (.slice A8 n8' c8) (.slice B8 q8 d8) (.slice X8 xn8 xc8) (.slice Y8 yn8 yc8) (.int .i64 t8)) (fun hHeld => ?_)
              clear hK K0
              (try simp only [Act.put, sA, sB, sC])
              clear y0 y1 y2 y3 y4 f0 f1 f2 f3 f4
              have hp9 := st_other HN15q44.out (show g14 ≠ g15 by omega) (.slice A8 n8' c8) (.slice B8 q8 d8) (.slice X8 xn8 xc8) (.slice Y8 yn8 yc8) (.int .i64 t8)
              obtain ⟨z0, z1⟩ := (show _ ∧ _ from ⟨hp9.cell 0 rfl, hp9.cell 1 rfl⟩)
              obtain ⟨e0, e1⟩ := (show _ ∧ _ from ⟨hp9.loose 0, hp9.loose 1⟩)
              clear hp9
              refine wpAnyH_ready (rs := [12]) (by kernel_rfl) (by simp) ?_
              refine AllReadyH.cons (i := 12) rfl (fun K0 hK => ?_) AllReadyH.nil
              go_simp
              refine hK.out _ (((((((wq43.setCell ⟨g14, 0, none⟩ (.slice A8 n8' c8)).setCell ⟨g14, 1, none⟩ (.slice B8 q8 d8)).setCell ⟨g14, 2, none⟩ (.slice X8 xn8 xc8)).setCell ⟨g14, 3, none⟩ (.slice Y8 yn8 yc8)).setCell ⟨g14, 4, none⟩ (.int .i64 t8)).setCell ⟨g15, 0, none⟩ (.int .i64 E8)).setCell ⟨g15, 1, none⟩ (.int .i64 I8)) (rp_on (st_on HOq44.out (by omega) (.slice A8 n8' c8) (.slice B8 q8 d8) (.slice X8 xn8 xc8) (.slice Y8 yn8 yc8) (.int .i64 t8)) (by omega) _ _) (fun hHeld => ?_)
              clear hK K0
              (try simp only [Act.put, sA, sB, sC])
              refine wpAnyH_done (by kernel_rfl) ?_ _
              go_wp2_with fail
              go_meet
              exact ⟨g14, g15, ⟨A8, n8', c8, B8, q8, d8, X8, xn8, xc8, Y8, yn8, yc8, t8⟩, rfl, rfl, rp_other (st_put HN14q44.out rfl (.slice A8 n8' c8) (.slice B8 q8 d8) (.slice X8 xn8 xc8) (.slice Y8 yn8 yc8) (.int .i64 t8)) (by omega) _ _, rp_put (st_other HN15q44.out (by omega) (.slice A8 n8' c8) (.slice B8 q8 d8) (.slice X8 xn8 xc8) (.slice Y8 yn8 yc8) (.int .i64 t8)) rfl (.int .i64 E8) (.int .i64 I8), sk_rp (sk_zero HVq44.out HN14q44.out (.slice A8 n8' c8) (.slice B8 q8 d8) (.slice X8 xn8 xc8) (.slice Y8 yn8 yc8) (.int .i64 t8)) (st_other HN15q44.out (by omega) (.slice A8 n8' c8) (.slice B8 q8 d8) (.slice X8 xn8 xc8) (.slice Y8 yn8 yc8) (.int .i64 t8)) (.int .i64 E8) (.int .i64 I8), (HAq44.out.st HN14q44.out (by omega) (.slice A8 n8' c8) (.slice B8 q8 d8) (.slice X8 xn8 xc8) (.slice Y8 yn8 yc8) (.int .i64 t8)).rp (st_other HN15q44.out (by omega) (.slice A8 n8' c8) (.slice B8 q8 d8) (.slice X8 xn8 xc8) (.slice Y8 yn8 yc8) (.int .i64 t8)) (by omega) (.int .i64 E8) (.int .i64 I8), rp_on (st_on HOq44.out (by omega) (.slice A8 n8' c8) (.slice B8 q8 d8) (.slice X8 xn8 xc8) (.slice Y8 yn8 yc8) (.int .i64 t8)) (by omega) _ _, by omega, by omega, by omega, fun p hp hK => HN8.out p hp (HN7.out p hp hK)⟩
          · go_simp
            have al := (Below.refl wq33.heap.size wq33).alloc (Nat.le_refl _) (.cells rp0 46)
            refine hK.out _ (wq33.alloc (.cells rp0 46)) (HOq34.out.same al (fun k hk => by have := hk.1; have := HOq34.out.size; omega)) (fun hHeld => ?_)
            clear hK K0
            (try simp only [Act.put, sA, sB, sC])
            have HAq46 := Lib.hid (HAq34.out.below al)
            have HOq46 := Lib.hid (HOq34.out.same al (fun k hk => by have := hk.1; have := HOq34.out.size; omega))
            have HN14q46 := Lib.hid (HN14q34.out.later al)
            have hltq46g14 : g14 < wq33.heap.size := HN14q34.out.lt
            have HN15q46 := Lib.hid (Blk.new wq33 46 rp0)
            have hgeq46 := HOq34.out.size
            (try clear hHeld)
            generalize wq33.alloc (.cells rp0 46) = wq45 at HAq46 HOq46 HN14q46 HN15q46  ⊢
            obtain ⟨g15, hgq46⟩ : ∃ g, g = wq33.heap.size := ⟨_, rfl⟩
            rw [← hgq46] at HN15q46 ⊢
            have hHeld := HOq46.out
            have hglg15 : w9.heap.size ≤ g15 := by omega
            have hgn : g14 ≠ g15 := by omega
            clear al hgq46 hgeq46 hltq46g14
            refine wpAnyH_ready (rs := [2]) (by kernel_rfl) (by simp) ?_
            refine AllReadyH.cons (i := 2) rfl (fun K0 hK => ?_) AllReadyH.nil
            go_simp
            go_at_call 39
            refine (HWI.out _ (HV9.out.on HA9.out.blk (thin_an la ln lc _) HOq46.out) (HK9.out.on (fun a => ⟨_, _, _, rfl, rfl, rfl⟩) HA9.out.blk (thin_an la ln lc _) HOq46.out)).mono ?_
            rintro _ wq47 ⟨V7, rfl, hv7, hb7, hn7⟩
            obtain ⟨A7, n7, c7, B7, q7, d7, X7, xn7, xc7, Y7, yn7, yc7, t7⟩ := V7
            dsimp only at hv7 ⊢
            have HVq48 := Lib.hid hv7
            have HN7 := Lib.hid (fun (p : Nat → Prop) (hp : ∀ b, w9.heap.size ≤ b → p b) hK => hn7 p (fun b hb => hp b (by have := HOq46.out.size; omega)) hK)
            have HOq48 := Lib.hid (HOq46.out.same hb7 (fun k hk => by have := hk.1; have := HOq46.out.size; omega))
            have HAq48 := Lib.hid (HAq46.out.below hb7)
            have HN14q48 := Lib.hid (HN14q46.out.later hb7)
            have HN15q48 := Lib.hid (HN15q46.out.later hb7)
            clear hv7 hb7 hn7
            refine hK.out _ _ HOq48.out (fun hHeld => ?_)
            clear hK K0
            (try simp only [Act.put, sA, sB, sC])
            refine wpAnyH_ready (rs := [5]) (by kernel_rfl) (by simp) ?_
            refine AllReadyH.cons (i := 5) rfl (fun K0 hK => ?_) AllReadyH.nil
            go_simp
            go_at_call 38
            refine (HEX.out _ ⟨A7, n7, c7, B7, q7, d7, X7, xn7, xc7, Y7, yn7, yc7, t7⟩ HVq48.out (HH9.out.on HA9.out HOq48.out) HAq48.out).mono ?_
            rintro _ wq49 ⟨V8, rfl, hv8, ha8, ho8, hn8⟩
            obtain ⟨A8, n8', c8, B8, q8, d8, X8, xn8, xc8, Y8, yn8, yc8, t8⟩ := V8
            dsimp only at hv8 ⊢
            have HVq50 := Lib.hid hv8
            have HN8 := Lib.hid (fun (p : Nat → Prop) (hp : ∀ b, w9.heap.size ≤ b → p b) h7 => hn8 p (fun b hb => hp b (by have := HOq48.out.size; omega)) h7)
            have HAq50 := Lib.hid ha8
            have HOq50 := Lib.hid (HOq48.out.trans (On.of_on ho8 (fun k hk => ⟨by have := hk.1; have := HOq48.out.size; omega, hk.2⟩)))
            have HN14q50 := Lib.hid (Blk.on HN14q48.out ho8 ⟨HN14q48.out.lt, by omega⟩)
            have HN15q50 := Lib.hid (Blk.on HN15q48.out ho8 ⟨HN15q48.out.lt, by omega⟩)
            clear hv8 ha8 ho8 hn8
            refine hK.out _ _ HOq50.out (fun hHeld => ?_)
            clear hK K0
            (try simp only [Act.put, sA, sB, sC])
            refine tk 6 45 (v := ?_) ?_ ?_
            rotate_left
            · intro w' hSw
              go_simp
              (try with_reducible rfl)
            (try simp only [Act.put, sA, sB, sC])
            refine tk 7 52 (v := ?_) ?_ ?_
            rotate_left
            · intro w' hSw
              go_simp
              (try with_reducible rfl)
            (try simp only [Act.put, sA, sB, sC])
            refine tk 8 53 (v := ?_) ?_ ?_
            rotate_left
            · intro w' hSw
              go_simp
              (try with_reducible rfl)
            (try simp only [Act.put, sA, sB, sC])
            obtain ⟨y0, y1, y2, y3, y4⟩ := (show _ ∧ _ ∧ _ ∧ _ ∧ _ from ⟨HN14q50.out.cell 0 rfl, HN14q50.out.cell 1 rfl, HN14q50.out.cell 2 rfl, HN14q50.out.cell 3 rfl, HN14q50.out.cell 4 rfl⟩)
            obtain ⟨f0, f1, f2, f3, f4⟩ := (show _ ∧ _ ∧ _ ∧ _ ∧ _ from ⟨HN14q50.out.loose 0, HN14q50.out.loose 1, HN14q50.out.loose 2, HN14q50.out.loose 3, HN14q50.out.loose 4⟩)
            refine wpAnyH_ready (rs := [11]) (by kernel_rfl) (by simp) ?_
            refine AllReadyH.cons (i := 11) rfl (fun K0 hK => ?_) AllReadyH.nil
            go_simp
            refine hK.out _ (((((wq49.setCell ⟨g14, 0, none⟩ (.slice A8 n8' c8)).setCell ⟨g14, 1, none⟩ (.slice B8 q8 d8)).setCell ⟨g14, 2, none⟩ (.slice X8 xn8 xc8)).setCell ⟨g14, 3, none⟩ (.slice Y8 yn8 yc8)).setCell ⟨g14, 4, none⟩ (.int .i64 t8)) (st_on HOq50.out (by omega) (.slice A8 n8' c8) (.slice B8 q8 d8) (.slice X8 xn8 xc8) (.slice Y8 yn8 yc8) (.int .i64 t8)) (fun hHeld => ?_)
            clear hK K0
            (try simp only [Act.put, sA, sB, sC])
            clear y0 y1 y2 y3 y4 f0 f1 f2 f3 f4
            have hp9 := st_other HN15q50.out (show g14 ≠ g15 by omega) (.slice A8 n8' c8) (.slice B8 q8 d8) (.slice X8 xn8 xc8) (.slice Y8 yn8 yc8) (.int .i64 t8)
            obtain ⟨z0, z1⟩ := (show _ ∧ _ from ⟨hp9.cell 0 rfl, hp9.cell 1 rfl⟩)
            obtain ⟨e0, e1⟩ := (show _ ∧ _ from ⟨hp9.loose 0, hp9.loose 1⟩)
            clear hp9
            refine wpAnyH_ready (rs := [12]) (by kernel_rfl) (by simp) ?_
            refine AllReadyH.cons (i := 12) rfl (fun K0 hK => ?_) AllReadyH.nil
            go_simp
            refine hK.out _ (((((((wq49.setCell ⟨g14, 0, none⟩ (.slice A8 n8' c8)).setCell ⟨g14, 1, none⟩ (.slice B8 q8 d8)).setCell ⟨g14, 2, none⟩ (.slice X8 xn8 xc8)).setCell ⟨g14, 3, none⟩ (.slice Y8 yn8 yc8)).setCell ⟨g14, 4, none⟩ (.int .i64 t8)).setCell ⟨g15, 0, none⟩ (.int .i64 E8)).setCell ⟨g15, 1, none⟩ (.int .i64 I8)) (rp_on (st_on HOq50.out (by omega) (.slice A8 n8' c8) (.slice B8 q8 d8) (.slice X8 xn8 xc8) (.slice Y8 yn8 yc8) (.int .i64 t8)) (by omega) _ _) (fun hHeld => ?_)
            clear hK K0
            (try simp only [Act.put, sA, sB, sC])
            refine wpAnyH_done (by kernel_rfl) ?_ _
            go_wp2_with fail
            go_meet
            exact ⟨g14, g15, ⟨A8, n8', c8, B8, q8, d8, X8, xn8, xc8, Y8, yn8, yc8, t8⟩, rfl, rfl, rp_other (st_put HN14q50.out rfl (.slice A8 n8' c8) (.slice B8 q8 d8) (.slice X8 xn8 xc8) (.slice Y8 yn8 yc8) (.int .i64 t8)) (by omega) _ _, rp_put (st_other HN15q50.out (by omega) (.slice A8 n8' c8) (.slice B8 q8 d8) (.slice X8 xn8 xc8) (.slice Y8 yn8 yc8) (.int .i64 t8)) rfl (.int .i64 E8) (.int .i64 I8), sk_rp (sk_zero HVq50.out HN14q50.out (.slice A8 n8' c8) (.slice B8 q8 d8) (.slice X8 xn8 xc8) (.slice Y8 yn8 yc8) (.int .i64 t8)) (st_other HN15q50.out (by omega) (.slice A8 n8' c8) (.slice B8 q8 d8) (.slice X8 xn8 xc8) (.slice Y8 yn8 yc8) (.int .i64 t8)) (.int .i64 E8) (.int .i64 I8), (HAq50.out.st HN14q50.out (by omega) (.slice A8 n8' c8) (.slice B8 q8 d8) (.slice X8 xn8 xc8) (.slice Y8 yn8 yc8) (.int .i64 t8)).rp (st_other HN15q50.out (by omega) (.slice A8 n8' c8) (.slice B8 q8 d8) (.slice X8 xn8 xc8) (.slice Y8 yn8 yc8) (.int .i64 t8)) (by omega) (.int .i64 E8) (.int .i64 I8), rp_on (st_on HOq50.out (by omega) (.slice A8 n8' c8) (.slice B8 q8 d8) (.slice X8 xn8 xc8) (.slice Y8 yn8 yc8) (.int .i64 t8)) (by omega) _ _, by omega, by omega, by omega, fun p hp hK => HN8.out p hp (HN7.out p hp hK)⟩
        · go_simp
          have al := (Below.refl wz.heap.size wz).alloc (Nat.le_refl _) (.cells rp0 46)
          refine hK.out _ (wz.alloc (.cells rp0 46)) (HOz.out.same al (fun k hk => by have := hk.1; have := HOz.out.size; omega)) (fun hHeld => ?_)
          clear hK K0
          (try simp only [Act.put, sA, sB, sC])
          have HAq52 := Lib.hid (HAz.out.below al)
          have HOq52 := Lib.hid (HOz.out.same al (fun k hk => by have := hk.1; have := HOz.out.size; omega))
          have HN15q52 := Lib.hid (Blk.new wz 46 rp0)
          have hgeq52 := HOz.out.size
          (try clear hHeld)
          generalize wz.alloc (.cells rp0 46) = wq51 at HAq52 HOq52  HN15q52  ⊢
          obtain ⟨g15, hgq52⟩ : ∃ g, g = wz.heap.size := ⟨_, rfl⟩
          rw [← hgq52] at HN15q52 ⊢
          have hHeld := HOq52.out
          have hglg15 : w9.heap.size ≤ g15 := by omega
          clear al hgq52 hgeq52 
          refine wpAnyH_ready (rs := [2, 9]) (by kernel_rfl) (by simp) ?_
          refine AllReadyH.cons (i := 2) rfl (fun K0 hK => ?_) (AllReadyH.cons (i := 9) rfl (fun K0 hK => ?_) AllReadyH.nil)
          · go_simp
            go_at_call 39
            refine (HWI.out _ (HV9.out.on HA9.out.blk (thin_an la ln lc _) HOq52.out) (HK9.out.on (fun a => ⟨_, _, _, rfl, rfl, rfl⟩) HA9.out.blk (thin_an la ln lc _) HOq52.out)).mono ?_
            rintro _ wq53 ⟨V7, rfl, hv7, hb7, hn7⟩
            obtain ⟨A7, n7, c7, B7, q7, d7, X7, xn7, xc7, Y7, yn7, yc7, t7⟩ := V7
            dsimp only at hv7 ⊢
            have HVq54 := Lib.hid hv7
            have HN7 := Lib.hid (fun (p : Nat → Prop) (hp : ∀ b, w9.heap.size ≤ b → p b) hK => hn7 p (fun b hb => hp b (by have := HOq52.out.size; omega)) hK)
            have HOq54 := Lib.hid (HOq52.out.same hb7 (fun k hk => by have := hk.1; have := HOq52.out.size; omega))
            have HAq54 := Lib.hid (HAq52.out.below hb7)
            have HN15q54 := Lib.hid (HN15q52.out.later hb7)
            clear hv7 hb7 hn7
            refine hK.out _ _ HOq54.out (fun hHeld => ?_)
            clear hK K0
            (try simp only [Act.put, sA, sB, sC])
            refine wpAnyH_ready (rs := [5, 9]) (by kernel_rfl) (by simp) ?_
            refine AllReadyH.cons (i := 5) rfl (fun K0 hK => ?_) (AllReadyH.cons (i := 9) rfl (fun K0 hK => ?_) AllReadyH.nil)
            · go_simp
              go_at_call 38
              refine (HEX.out _ ⟨A7, n7, c7, B7, q7, d7, X7, xn7, xc7, Y7, yn7, yc7, t7⟩ HVq54.out (HH9.out.on HA9.out HOq54.out) HAq54.out).mono ?_
              rintro _ wq55 ⟨V8, rfl, hv8, ha8, ho8, hn8⟩
              obtain ⟨A8, n8', c8, B8, q8, d8, X8, xn8, xc8, Y8, yn8, yc8, t8⟩ := V8
              dsimp only at hv8 ⊢
              have HVq56 := Lib.hid hv8
              have HN8 := Lib.hid (fun (p : Nat → Prop) (hp : ∀ b, w9.heap.size ≤ b → p b) h7 => hn8 p (fun b hb => hp b (by have := HOq54.out.size; omega)) h7)
              have HAq56 := Lib.hid ha8
              have HOq56 := Lib.hid (HOq54.out.trans (On.of_on ho8 (fun k hk => ⟨by have := hk.1; have := HOq54.out.size; omega, hk.2⟩)))
              have HN15q56 := Lib.hid (Blk.on HN15q54.out ho8 ⟨HN15q54.out.lt, by omega⟩)
              clear hv8 ha8 ho8 hn8
              refine hK.out _ _ HOq56.out (fun hHeld => ?_)
              clear hK K0
              (try simp only [Act.put, sA, sB, sC])
              refine tk 6 45 (v := ?_) ?_ ?_
              rotate_left
              · intro w' hSw
                go_simp
                (try with_reducible rfl)
              (try simp only [Act.put, sA, sB, sC])
              refine tk 7 52 (v := ?_) ?_ ?_
              rotate_left
              · intro w' hSw
                go_simp
                (try with_reducible rfl)
              (try simp only [Act.put, sA, sB, sC])
              refine tk 8 53 (v := ?_) ?_ ?_
              rotate_left
              · intro w' hSw
                go_simp
                (try with_reducible rfl)
              (try simp only [Act.put, sA, sB, sC])
              refine wpAnyH_ready (rs := [9]) (by kernel_rfl) (by simp) ?_
              refine AllReadyH.cons (i := 9) rfl (fun K0 hK => ?_) AllReadyH.nil
              go_simp
              have al := (Below.refl wq55.heap.size wq55).alloc (Nat.le_refl _) (.cells st0 35)
              refine hK.out _ (wq55.alloc (.cells st0 35)) (HOq56.out.same al (fun k hk => by have := hk.1; have := HOq56.out.size; omega)) (fun hHeld => ?_)
              clear hK K0
              (try simp only [Act.put, sA, sB, sC])
              have HVq58 := Lib.hid (HVq56.out.below al)
              have HAq58 := Lib.hid (HAq56.out.below al)
              have HOq58 := Lib.hid (HOq56.out.same al (fun k hk => by have := hk.1; have := HOq56.out.size; omega))
              have HN15q58 := Lib.hid (HN15q56.out.later al)
              have hltq58g15 : g15 < wq55.heap.size := HN15q56.out.lt
              have HN14q58 := Lib.hid (Blk.new wq55 35 st0)
              have hgeq58 := HOq56.out.size
              (try clear hHeld)
              generalize wq55.alloc (.cells st0 35) = wq57 at HAq58 HOq58 HN15q58 HN14q58 HVq58 ⊢
              obtain ⟨g14, hgq58⟩ : ∃ g, g = wq55.heap.size := ⟨_, rfl⟩
              rw [← hgq58] at HN14q58 ⊢
              have hHeld := HOq58.out
              have hglg14 : w9.heap.size ≤ g14 := by omega
              have hgn : g14 ≠ g15 := by omega
              clear al hgq58 hgeq58 hltq58g15
              obtain ⟨y0, y1, y2, y3, y4⟩ := (show _ ∧ _ ∧ _ ∧ _ ∧ _ from ⟨HN14q58.out.cell 0 rfl, HN14q58.out.cell 1 rfl, HN14q58.out.cell 2 rfl, HN14q58.out.cell 3 rfl, HN14q58.out.cell 4 rfl⟩)
              obtain ⟨f0, f1, f2, f3, f4⟩ := (show _ ∧ _ ∧ _ ∧ _ ∧ _ from ⟨HN14q58.out.loose 0, HN14q58.out.loose 1, HN14q58.out.loose 2, HN14q58.out.loose 3, HN14q58.out.loose 4⟩)
              refine wpAnyH_ready (rs := [11]) (by kernel_rfl) (by simp) ?_
              refine AllReadyH.cons (i := 11) rfl (fun K0 hK => ?_) AllReadyH.nil
              go_simp
              refine hK.out _ (((((wq57.setCell ⟨g14, 0, none⟩ (.slice A8 n8' c8)).setCell ⟨g14, 1, none⟩ (.slice B8 q8 d8)).setCell ⟨g14, 2, none⟩ (.slice X8 xn8 xc8)).setCell ⟨g14, 3, none⟩ (.slice Y8 yn8 yc8)).setCell ⟨g14, 4, none⟩ (.int .i64 t8)) (st_on HOq58.out (by omega) (.slice A8 n8' c8) (.slice B8 q8 d8) (.slice X8 xn8 xc8) (.slice Y8 yn8 yc8) (.int .i64 t8)) (fun hHeld => ?_)
              clear hK K0
              (try simp only [Act.put, sA, sB, sC])
              clear y0 y1 y2 y3 y4 f0 f1 f2 f3 f4
              have hp9 := st_other HN15q58.out (show g14 ≠ g15 by omega) (.slice A8 n8' c8) (.slice B8 q8 d8) (.slice X8 xn8 xc8) (.slice Y8 yn8 yc8) (.int .i64 t8)
              obtain ⟨z0, z1⟩ := (show _ ∧ _ from ⟨hp9.cell 0 rfl, hp9.cell 1 rfl⟩)
              obtain ⟨e0, e1⟩ := (show _ ∧ _ from ⟨hp9.loose 0, hp9.loose 1⟩)
              clear hp9
              refine wpAnyH_ready (rs := [12]) (by kernel_rfl) (by simp) ?_
              refine AllReadyH.cons (i := 12) rfl (fun K0 hK => ?_) AllReadyH.nil
              go_simp
              refine hK.out _ (((((((wq57.setCell ⟨g14, 0, none⟩ (.slice A8 n8' c8)).setCell ⟨g14, 1, none⟩ (.slice B8 q8 d8)).setCell ⟨g14, 2, none⟩ (.slice X8 xn8 xc8)).setCell ⟨g14, 3, none⟩ (.slice Y8 yn8 yc8)).setCell ⟨g14, 4, none⟩ (.int .i64 t8)).setCell ⟨g15, 0, none⟩ (.int .i64 E8)).setCell ⟨g15, 1, none⟩ (.int .i64 I8)) (rp_on (st_on HOq58.out (by omega) (.slice A8 n8' c8) (.slice B8 q8 d8) (.slice X8 xn8 xc8) (.slice Y8 yn8 yc8) (.int .i64 t8)) (by omega) _ _) (fun hHeld => ?_)
              clear hK K0
              (try simp only [Act.put, sA, sB, sC])
              refine wpAnyH_done (by kernel_rfl) ?_ _
              go_wp2_with fail
              go_meet
              exact ⟨g14, g15, ⟨A8, n8', c8, B8, q8, d8, X8, xn8, xc8, Y8, yn8, yc8, t8⟩, rfl, rfl, rp_other (st_put HN14q58.out rfl (.slice A8 n8' c8) (.slice B8 q8 d8) (.slice X8 xn8 xc8) (.slice Y8 yn8 yc8) (.int .i64 t8)) (by omega) _ _, rp_put (st_other HN15q58.out (by omega) (.slice A8 n8' c8) (.slice B8 q8 d8) (.slice X8 xn8 xc8) (.slice Y8 yn8 yc8) (.int .i64 t8)) rfl (.int .i64 E8) (.int .i64 I8), sk_rp (sk_zero HVq58.out HN14q58.out (.slice A8 n8' c8) (.slice B8 q8 d8) (.slice X8 xn8 xc8) (.slice Y8 yn8 yc8) (.int .i64 t8)) (st_other HN15q58.out (by omega) (.slice A8 n8' c8) (.slice B8 q8 d8) (.slice X8 xn8 xc8) (.slice Y8 yn8 yc8) (.int .i64 t8)) (.int .i64 E8) (.int .i64 I8), (HAq58.out.st HN14q58.out (by omega) (.slice A8 n8' c8) (.slice B8 q8 d8) (.slice X8 xn8 xc8) (.slice Y8 yn8 yc8) (.int .i64 t8)).rp (st_other HN15q58.out (by omega) (.slice A8 n8' c8) (.slice B8 q8 d8) (.slice X8 xn8 xc8) (.slice Y8 yn8 yc8) (.int .i64 t8)) (by omega) (.int .i64 E8) (.int .i64 I8), rp_on (st_on HOq58.out (by omega) (.slice A8 n8' c8) (.slice B8 q8 d8) (.slice X8 xn8 xc8) (.slice Y8 yn8 yc8) (.int .i64 t8)) (by omega) _ _, by omega, by omega, by omega, fun p hp hK => HN8.out p hp (HN7.out p hp hK)⟩
            · go_simp
              have al := (Below.refl wq53.heap.size wq53).alloc (Nat.le_refl _) (.cells st0 35)
              refine hK.out _ (wq53.alloc (.cells st0 35)) (HOq54.out.same al (fun k hk => by have := hk.1; have := HOq54.out.size; omega)) (fun hHeld => ?_)
              clear hK K0
              (try simp only [Act.put, sA, sB, sC])
              have HVq60 := Lib.hid (HVq54.out.below al)
              have HAq60 := Lib.hid (HAq54.out.below al)
              have HOq60 := Lib.hid (HOq54.out.same al (fun k hk => by have := hk.1; have := HOq54.out.size; omega))
              have HN15q60 := Lib.hid (HN15q54.out.later al)
              have hltq60g15 : g15 < wq53.heap.size := HN15q54.out.lt
              have HN14q60 := Lib.hid (Blk.new wq53 35 st0)
              have hgeq60 := HOq54.out.size
              (try clear hHeld)
              generalize wq53.alloc (.cells st0 35) = wq59 at HAq60 HOq60 HN15q60 HN14q60 HVq60 ⊢
              obtain ⟨g14, hgq60⟩ : ∃ g, g = wq53.heap.size := ⟨_, rfl⟩
              rw [← hgq60] at HN14q60 ⊢
              have hHeld := HOq60.out
              have hglg14 : w9.heap.size ≤ g14 := by omega
              have hgn : g14 ≠ g15 := by omega
              clear al hgq60 hgeq60 hltq60g15
              refine wpAnyH_ready (rs := [5]) (by kernel_rfl) (by simp) ?_
              refine AllReadyH.cons (i := 5) rfl (fun K0 hK => ?_) AllReadyH.nil
              go_simp
              go_at_call 38
              refine (HEX.out _ ⟨A7, n7, c7, B7, q7, d7, X7, xn7, xc7, Y7, yn7, yc7, t7⟩ HVq60.out (HH9.out.on HA9.out HOq60.out) HAq60.out).mono ?_
              rintro _ wq61 ⟨V8, rfl, hv8, ha8, ho8, hn8⟩
              obtain ⟨A8, n8', c8, B8, q8, d8, X8, xn8, xc8, Y8, yn8, yc8, t8⟩ := V8
              dsimp only at hv8 ⊢
              have HVq62 := Lib.hid hv8
              have HN8 := Lib.hid (fun (p : Nat → Prop) (hp : ∀ b, w9.heap.size ≤ b → p b) h7 => hn8 p (fun b hb => hp b (by have := HOq60.out.size; omega)) h7)
              have HAq62 := Lib.hid ha8
              have HOq62 := Lib.hid (HOq60.out.trans (On.of_on ho8 (fun k hk => ⟨by have := hk.1; have := HOq60.out.size; omega, hk.2⟩)))
              have HN14q62 := Lib.hid (Blk.on HN14q60.out ho8 ⟨HN14q60.out.lt, by omega⟩)
              have HN15q62 := Lib.hid (Blk.on HN15q60.out ho8 ⟨HN15q60.out.lt, by omega⟩)
              clear hv8 ha8 ho8 hn8
              refine hK.out _ _ HOq62.out (fun hHeld => ?_)
              clear hK K0
              (try simp only [Act.put, sA, sB, sC])
              refine tk 6 45 (v := ?_) ?_ ?_
              rotate_left
              · intro w' hSw
                go_simp
                (try with_reducible rfl)
              (try simp only [Act.put, sA, sB, sC])
              refine tk 7 52 (v := ?_) ?_ ?_
              rotate_left
              · intro w' hSw
                go_simp
                (try with_reducible rfl)
              (try simp only [Act.put, sA, sB, sC])
              refine tk 8 53 (v := ?_) ?_ ?_
              rotate_left
              · intro w' hSw
                go_simp
                (try with_reducible rfl)
              (try simp only [Act.put, sA, sB, sC])
              obtain ⟨y0, y1, y2, y3, y4⟩ := (show _ ∧ _ ∧ _ ∧ _ ∧ _ from ⟨HN14q62.out.cell 0 rfl, HN14q62.out.cell 1 rfl, HN14q62.out.cell 2 rfl, HN14q62.out.cell 3 rfl, HN14q62.out.cell 4 rfl⟩)
              obtain ⟨f0, f1, f2, f3, f4⟩ := (show _ ∧ _ ∧ _ ∧ _ ∧ _ from ⟨HN14q62.out.loose 0, HN14q62.out.loose 1, HN14q62.out.loose 2, HN14q62.out.loose 3, HN14q62.out.loose 4⟩)
              refine wpAnyH_ready (rs := [11]) (by kernel_rfl) (by simp) ?_
              refine AllReadyH.cons (i := 11) rfl (fun K0 hK => ?_) AllReadyH.nil
              go_simp
              refine hK.out _ (((((wq61.setCell ⟨g14, 0, none⟩ (.slice A8 n8' c8)).setCell ⟨g14, 1, none⟩ (.slice B8 q8 d8)).setCell ⟨g14, 2, none⟩ (.slice X8 xn8 xc8)).setCell ⟨g14, 3, none⟩ (.slice Y8 yn8 yc8)).setCell ⟨g14, 4, none⟩ (.int .i64 t8)) (st_on HOq62.out (by omega) (.slice A8 n8' c8) (.slice B8 q8 d8) (.slice X8 xn8 xc8) (.slice Y8 yn8 yc8) (.int .i64 t8)) (fun hHeld => ?_)
              clear hK K0
              (try simp only [Act.put, sA, sB, sC])
              clear y0 y1 y2 y3 y4 f0 f1 f2 f3 f4
              have hp9 := st_other HN15q62.out (show g14 ≠ g15 by omega) (.slice A8 n8' c8) (.slice B8 q8 d8) (.slice X8 xn8 xc8) (.slice Y8 yn8 yc8) (.int .i64 t8)
              obtain ⟨z0, z1⟩ := (show _ ∧ _ from ⟨hp9.cell 0 rfl, hp9.cell 1 rfl⟩)
              obtain ⟨e0, e1⟩ := (show _ ∧ _ from ⟨hp9.loose 0, hp9.loose 1⟩)
              clear hp9
              refine wpAnyH_ready (rs := [12]) (by kernel_rfl) (by simp) ?_
              refine AllReadyH.cons (i := 12) rfl (fun K0 hK => ?_) AllReadyH.nil
              go_simp
              refine hK.out _ (((((((wq61.setCell ⟨g14, 0, none⟩ (.slice A8 n8' c8)).setCell ⟨g14, 1, none⟩ (.slice B8 q8 d8)).setCell ⟨g14, 2, none⟩ (.slice X8 xn8 xc8)).setCell ⟨g14, 3, none⟩ (.slice Y8 yn8 yc8)).setCell ⟨g14, 4, none⟩ (.int .i64 t8)).setCell ⟨g15, 0, none⟩ (.int .i64 E8)).setCell ⟨g15, 1, none⟩ (.int .i64 I8)) (rp_on (st_on HOq62.out (by omega) (.slice A8 n8' c8) (.slice B8 q8 d8) (.slice X8 xn8 xc8) (.slice Y8 yn8 yc8) (.int .i64 t8)) (by omega) _ _) (fun hHeld => ?_)
              clear hK K0
              (try simp only [Act.put, sA, sB, sC])
              refine wpAnyH_done (by kernel_rfl) ?_ _
              go_wp2_with fail
              go_meet
              exact ⟨g14, g15, ⟨A8, n8', c8, B8, q8, d8, X8, xn8, xc8, Y8, yn8, yc8, t8⟩, rfl, rfl, rp_other (st_put HN14q62.out rfl (.slice A8 n8' c8) (.slice B8 q8 d8) (.slice X8 xn8 xc8) (.slice Y8 yn8 yc8) (.int .i64 t8)) (by omega) _ _, rp_put (st_other HN15q62.out (by omega) (.slice A8 n8' c8) (.slice B8 q8 d8) (.slice X8 xn8 xc8) (.slice Y8 yn8 yc8) (.int .i64 t8)) rfl (.int .i64 E8) (.int .i64 I8), sk_rp (sk_zero HVq62.out HN14q62.out (.slice A8 n8' c8) (.slice B8 q8 d8) (.slice X8 xn8 xc8) (.slice Y8 yn8 yc8) (.int .i64 t8)) (st_other HN15q62.out (by omega) (.slice A8 n8' c8) (.slice B8 q8 d8) (.slice X8 xn8 xc8) (.slice Y8 yn8 yc8) (.int .i64 t8)) (.int .i64 E8) (.int .i64 I8), (HAq62.out.st HN14q62.out (by omega) (.slice A8 n8' c8) (.slice B8 q8 d8) (.slice X8 xn8 xc8) (.slice Y8 yn8 yc8) (.int .i64 t8)).rp (st_other HN15q62.out (by omega) (.slice A8 n8' c8) (.slice B8 q8 d8) (.slice X8 xn8 xc8) (.slice Y8 yn8 yc8) (.int .i64 t8)) (by omega) (.int .i64 E8) (.int .i64 I8), rp_on (st_on HOq62.out (by omega) (.slice A8 n8' c8) (.slice B8 q8 d8) (.slice X8 xn8 xc8) (.slice Y8 yn8 yc8) (.int .i64 t8)) (by omega) _ _, by omega, by omega, by omega, fun p hp hK => HN8.out p hp (HN7.out p hp hK)⟩
          · go_simp
            have al := (Below.refl wq51.heap.size wq51).alloc (Nat.le_refl _) (.cells st0 35)
            refine hK.out _ (wq51.alloc (.cells st0 35)) (HOq52.out.same al (fun k hk => by have := hk.1; have := HOq52.out.size; omega)) (fun hHeld => ?_)
            clear hK K0
            (try simp only [Act.put, sA, sB, sC])
            have HAq64 := Lib.hid (HAq52.out.below al)
            have HOq64 := Lib.hid (HOq52.out.same al (fun k hk => by have := hk.1; have := HOq52.out.size; omega))
            have HN15q64 := Lib.hid (HN15q52.out.later al)
            have hltq64g15 : g15 < wq51.heap.size := HN15q52.out.lt
            have HN14q64 := Lib.hid (Blk.new wq51 35 st0)
            have hgeq64 := HOq52.out.size
            (try clear hHeld)
            generalize wq51.alloc (.cells st0 35) = wq63 at HAq64 HOq64 HN15q64 HN14q64  ⊢
            obtain ⟨g14, hgq64⟩ : ∃ g, g = wq51.heap.size := ⟨_, rfl⟩
            rw [← hgq64] at HN14q64 ⊢
            have hHeld := HOq64.out
            have hglg14 : w9.heap.size ≤ g14 := by omega
            have hgn : g14 ≠ g15 := by omega
            clear al hgq64 hgeq64 hltq64g15
            refine wpAnyH_ready (rs := [2]) (by kernel_rfl) (by simp) ?_
            refine AllReadyH.cons (i := 2) rfl (fun K0 hK => ?_) AllReadyH.nil
            go_simp
            go_at_call 39
            refine (HWI.out _ (HV9.out.on HA9.out.blk (thin_an la ln lc _) HOq64.out) (HK9.out.on (fun a => ⟨_, _, _, rfl, rfl, rfl⟩) HA9.out.blk (thin_an la ln lc _) HOq64.out)).mono ?_
            rintro _ wq65 ⟨V7, rfl, hv7, hb7, hn7⟩
            obtain ⟨A7, n7, c7, B7, q7, d7, X7, xn7, xc7, Y7, yn7, yc7, t7⟩ := V7
            dsimp only at hv7 ⊢
            have HVq66 := Lib.hid hv7
            have HN7 := Lib.hid (fun (p : Nat → Prop) (hp : ∀ b, w9.heap.size ≤ b → p b) hK => hn7 p (fun b hb => hp b (by have := HOq64.out.size; omega)) hK)
            have HOq66 := Lib.hid (HOq64.out.same hb7 (fun k hk => by have := hk.1; have := HOq64.out.size; omega))
            have HAq66 := Lib.hid (HAq64.out.below hb7)
            have HN14q66 := Lib.hid (HN14q64.out.later hb7)
            have HN15q66 := Lib.hid (HN15q64.out.later hb7)
            clear hv7 hb7 hn7
            refine hK.out _ _ HOq66.out (fun hHeld => ?_)
            clear hK K0
            (try simp only [Act.put, sA, sB, sC])
            refine wpAnyH_ready (rs := [5]) (by kernel_rfl) (by simp) ?_
            refine AllReadyH.cons (i := 5) rfl (fun K0 hK => ?_) AllReadyH.nil
            go_simp
            go_at_call 38
            refine (HEX.out _ ⟨A7, n7, c7, B7, q7, d7, X7, xn7, xc7, Y7, yn7, yc7, t7⟩ HVq66.out (HH9.out.on HA9.out HOq66.out) HAq66.out).mono ?_
            rintro _ wq67 ⟨V8, rfl, hv8, ha8, ho8, hn8⟩
            obtain ⟨A8, n8', c8, B8, q8, d8, X8, xn8, xc8, Y8, yn8, yc8, t8⟩ := V8
            dsimp only at hv8 ⊢
            have HVq68 := Lib.hid hv8
            have HN8 := Lib.hid (fun (p : Nat → Prop) (hp : ∀ b, w9.heap.size ≤ b → p b) h7 => hn8 p (fun b hb => hp b (by have := HOq66.out.size; omega)) h7)
            have HAq68 := Lib.hid ha8
            have HOq68 := Lib.hid (HOq66.out.trans (On.of_on ho8 (fun k hk => ⟨by have := hk.1; have := HOq66.out.size; omega, hk.2⟩)))
            have HN14q68 := Lib.hid (Blk.on HN14q66.out ho8 ⟨HN14q66.out.lt, by omega⟩)
            have HN15q68 := Lib.hid (Blk.on HN15q66.out ho8 ⟨HN15q66.out.lt, by omega⟩)
            clear hv8 ha8 ho8 hn8
            refine hK.out _ _ HOq68.out (fun hHeld => ?_)
            clear hK K0
            (try simp only [Act.put, sA, sB, sC])
            refine tk 6 45 (v := ?_) ?_ ?_
            rotate_left
            · intro w' hSw
              go_simp
              (try with_reducible rfl)
            (try simp only [Act.put, sA, sB, sC])
            refine tk 7 52 (v := ?_) ?_ ?_
            rotate_left
            · intro w' hSw
              go_simp
              (try with_reducible rfl)
            (try simp only [Act.put, sA, sB, sC])
            refine tk 8 53 (v := ?_) ?_ ?_
            rotate_left
            · intro w' hSw
              go_simp
              (try with_reducible rfl)
            (try simp only [Act.put, sA, sB, sC])
            obtain ⟨y0, y1, y2, y3, y4⟩ := (show _ ∧ _ ∧ _ ∧ _ ∧ _ from ⟨HN14q68.out.cell 0 rfl, HN14q68.out.cell 1 rfl, HN14q68.out.cell 2 rfl, HN14q68.out.cell 3 rfl, HN14q68.out.cell 4 rfl⟩)
            obtain ⟨f0, f1, f2, f3, f4⟩ := (show _ ∧ _ ∧ _ ∧ _ ∧ _ from ⟨HN14q68.out.loose 0, HN14q68.out.loose 1, HN14q68.out.loose 2, HN14q68.out.loose 3, HN14q68.out.loose 4⟩)
            refine wpAnyH_ready (rs := [11]) (by kernel_rfl) (by simp) ?_
            refine AllReadyH.cons (i := 11) rfl (fun K0 hK => ?_) AllReadyH.nil
            go_simp
            refine hK.out _ (((((wq67.setCell ⟨g14, 0, none⟩ (.slice A8 n8' c8)).setCell ⟨g14, 1, none⟩ (.slice B8 q8 d8)).setCell ⟨g14, 2, none⟩ (.slice X8 xn8 xc8)).setCell ⟨g14, 3, none⟩ (.slice Y8 yn8 yc8)).setCell ⟨g14, 4, none⟩ (.int .i64 t8)) (st_on HOq68.out (by omega) (.slice A8 n8' c8) (.slice B8 q8 d8) (.slice X8 xn8 xc8) (.slice Y8 yn8 yc8) (.int .i64 t8)) (fun hHeld => ?_)
            clear hK K0
            (try simp only [Act.put, sA, sB, sC])
            clear y0 y1 y2 y3 y4 f0 f1 f2 f3 f4
            have hp9 := st_other HN15q68.out (show g14 ≠ g15 by omega) (.slice A8 n8' c8) (.slice B8 q8 d8) (.slice X8 xn8 xc8) (.slice Y8 yn8 yc8) (.int .i64 t8)
            obtain ⟨z0, z1⟩ := (show _ ∧ _ from ⟨hp9.cell 0 rfl, hp9.cell 1 rfl⟩)
            obtain ⟨e0, e1⟩ := (show _ ∧ _ from ⟨hp9.loose 0, hp9.loose 1⟩)
            clear hp9
            refine wpAnyH_ready (rs := [12]) (by kernel_rfl) (by simp) ?_
            refine AllReadyH.cons (i := 12) rfl (fun K0 hK => ?_) AllReadyH.nil
            go_simp
            refine hK.out _ (((((((wq67.setCell ⟨g14, 0, none⟩ (.slice A8 n8' c8)).setCell ⟨g14, 1, none⟩ (.slice B8 q8 d8)).setCell ⟨g14, 2, none⟩ (.slice X8 xn8 xc8)).setCell ⟨g14, 3, none⟩ (.slice Y8 yn8 yc8)).setCell ⟨g14, 4, none⟩ (.int .i64 t8)).setCell ⟨g15, 0, none⟩ (.int .i64 E8)).setCell ⟨g15, 1, none⟩ (.int .i64 I8)) (rp_on (st_on HOq68.out (by omega) (.slice A8 n8' c8) (.slice B8 q8 d8) (.slice X8 xn8 xc8) (.slice Y8 yn8 yc8) (.int .i64 t8)) (by omega) _ _) (fun hHeld => ?_)
            clear hK K0
            (try simp only [Act.put, sA, sB, sC])
            refine wpAnyH_done (by kernel_rfl) ?_ _
            go_wp2_with fail
            go_meet
            exact ⟨g14, g15, ⟨A8, n8', c8, B8, q8, d8, X8, xn8, xc8, Y8, yn8, yc8, t8⟩, rfl, rfl, rp_other (st_put HN14q68.out rfl (.slice A8 n8' c8) (.slice B8 q8 d8) (.slice X8 xn8 xc8) (.slice Y8 yn8 yc8) (.int .i64 t8)) (by omega) _ _, rp_put (st_other HN15q68.out (by omega) (.slice A8 n8' c8) (.slice B8 q8 d8) (.slice X8 xn8 xc8) (.slice Y8 yn8 yc8) (.int .i64 t8)) rfl (.int .i64 E8) (.int .i64 I8), sk_rp (sk_zero HVq68.out HN14q68.out (.slice A8 n8' c8) (.slice B8 q8 d8) (.slice X8 xn8 xc8) (.slice Y8 yn8 yc8) (.int .i64 t8)) (st_other HN15q68.out (by omega) (.slice A8 n8' c8) (.slice B8 q8 d8) (.slice X8 xn8 xc8) (.slice Y8 yn8 yc8) (.int .i64 t8)) (.int .i64 E8) (.int .i64 I8), (HAq68.out.st HN14q68.out (by omega) (.slice A8 n8' c8) (.slice B8 q8 d8) (.slice X8 xn8 xc8) (.slice Y8 yn8 yc8) (.int .i64 t8)).rp (st_other HN15q68.out (by omega) (.slice A8 n8' c8) (.slice B8 q8 d8) (.slice X8 xn8 xc8) (.slice Y8 yn8 yc8) (.int .i64 t8)) (by omega) (.int .i64 E8) (.int .i64 I8), rp_on (st_on HOq68.out (by omega) (.slice A8 n8' c8) (.slice B8 q8 d8) (.slice X8 xn8 xc8) (.slice Y8 yn8 yc8) (.int .i64 t8)) (by omega) _ _, by omega, by omega, by omega, fun p hp hK => HN8.out p hp (HN7.out p hp hK)⟩
       case rest =>
        obtain ⟨g14, g15, V8, rfl, rfl, h14, h15, hv8, ha8, ho8, hg14, hg15, hgne, hn8⟩ := hcut
        have HNW := Lib.hid hn8
        clear hn8
        obtain ⟨A8, n8', c8, B8, q8, d8, X8, xn8, xc8, Y8, yn8, yc8, t8⟩ := V8
        unfold Sv.cells at h14
        dsimp only at h14
        have H14 := Lib.hid h14
        have H15 := Lib.hid h15
        have HV8 := Lib.hid hv8
        have HA8 := Lib.hid ha8
        have HO8 := Lib.hid ho8
        have HRx := Lib.hid (Blk.on HR9.out ho8 ⟨HR9.out.lt, by omega⟩)
        have HZx := Lib.hid (Blk.on HZ9.out ho8 ⟨HZ9.out.lt, by omega⟩)
        have HPx := Lib.hid (Blk.on HP9.out ho8 ⟨HP9.out.lt, by omega⟩)
        have HKx := Lib.hid (HK9.out.on (fun a => ⟨_, _, _, rfl, rfl, rfl⟩) HA9.out.blk (thin_an la ln lc _) ho8)
        have HLx := Lib.hid (HL9.out.trans (ho8.below (B := w.heap.size) (fun k hk => ⟨by have := HL9.out.size; omega, by omega⟩)))
        clear h14 h15 hv8 ha8 ho8 HR9 HZ9 HP9 HK9 HL9 HS9 HA9 HV9 HH9 HWI HEX
        have HTE := Lib.hid (fun W (hr : RdS known W K kl2) => ktell_any K kn kc kl2 rk E8 I8 W HKN.out hr (by omega) HKS.out.nil)
        unfold KeyRes at HTE
        rw [(HTL.out E8 I8).1, (HTL.out E8 I8).2, show errV 0 = .nilIface from rfl] at HTE
        have r0 := HRx.out.cell 0 rfl
        obtain ⟨z0, z1⟩ := (show _ ∧ _ from ⟨H15.out.cell 0 rfl, H15.out.cell 1 rfl⟩)
        go_upto_region 12 with (first | (go_at_call 41; refine (HTE.out _ HKx.out).mono ?_; rintro _ wy ⟨vy, rfl, hoy, hby⟩
                                         have HXy := Lib.hid hby
                                         obtain ⟨Yz, yz, rfl, hy1, hy2, hy3, hy4⟩ := hoy.form
                                         obtain ⟨m8, hm8⟩ : ∃ m, (kl ++ [(⟨⟨rk, ro, ra, rb, rm, rl, ru⟩, E8, I8, true⟩ : Kn)]).length = m := ⟨_, rfl⟩
                                         rw [hm8] at hy2 hy4 ⊢
                                         have HM8 := Lib.hid hm8
                                         have HY1 := Lib.hid hy1
                                         have HY4 := Lib.hid (show Sl Yz m8 yz from ⟨hy4, hy2, hy3⟩)
                                         have H14y := Lib.hid (H14.out.later hby)
                                         have k3 := H14y.out.cell 3 rfl
                                         have f3 := H14y.out.loose 3
                                         have HYF := Lib.hid (fun b e => hoy.rowLt b e)
                                         clear hoy hby hm8 hy1 hy2 hy3 hy4))
        have hzx : w9.heap.size ≤ _ := HO8.out.size
        have h14lt := H14.out.lt
        have h15lt := H15.out.lt
        have HVy := Lib.hid (HV8.out.below HXy.out)
        have H15y := Lib.hid (H15.out.later HXy.out)
        have HZy := Lib.hid (HZx.out.later HXy.out)
        have HPy := Lib.hid (HPx.out.later HXy.out)
        have HAy := Lib.hid (HA8.out.below HXy.out)
        have HLy := Lib.hid (HLx.out.trans (HXy.out.mono HLx.out.size))
        have hgz : w.heap.size + 1 + 1 + 1 < w9.heap.size := by omega
        have hv9 := HVy.out.far H14y.out (thin_st _ _ _ _ _ _ _ _ _ _ _ _ _) (w' := wy.setCell ⟨g14, 3, none⟩ (.slice Yz m8 yz)) (fun k hk => Below.heap_setCell _ _ _ _ hk)
        have hyk : RdS known (wy.setCell ⟨g14, 3, none⟩ (.slice Yz m8 yz)) Yz (kl ++ [(⟨⟨rk, ro, ra, rb, rm, rl, ru⟩, E8, I8, true⟩ : Kn)]) := HY1.out.thin (fun a => ⟨_, _, _, rfl, rfl, rfl⟩) H14y.out (thin_st _ _ _ _ _ _ _ _ _ _ _ _ _) (fun k hk => Below.heap_setCell _ _ _ _ hk)
        have HVw := Lib.hid (show SkAt (wy.setCell ⟨g14, 3, none⟩ (.slice Yz m8 yz)) ⟨A8, n8', c8, B8, q8, d8, X8, xn8, xc8, Yz, m8, yz, t8⟩ T8 sl (kl ++ [(⟨⟨rk, ro, ra, rb, rm, rl, ru⟩, E8, I8, true⟩ : Kn)]) from
          ⟨hv9.n, hv9.q, hv9.xn, HM8.out, hv9.t, hv9.accs, hv9.pays, hv9.sag, hyk, hv9.sa, hv9.sp, hv9.sx, HY4.out⟩)
        have H14w := Lib.hid (show Blk (wy.setCell ⟨g14, 3, none⟩ (.slice Yz m8 yz)) g14 35 #[.slice A8 n8' c8, .slice B8 q8 d8, .slice X8 xn8 xc8, .slice Yz m8 yz, .int .i64 t8] from H14y.out.set 3 _)
        have H15w := Lib.hid (H15y.out.setOther (b := g14) hgne 3 (.slice Yz m8 yz))
        have HZw := Lib.hid (HZy.out.setOther (b := g14) (by omega) 3 (.slice Yz m8 yz))
        have HPw := Lib.hid (HPy.out.setOther (b := g14) (by omega) 3 (.slice Yz m8 yz))
        have HAw := Lib.hid (HAy.out.blk.setOther (b := g14) (by omega) 3 (.slice Yz m8 yz))
        have HLw := Lib.hid (HLy.out.setCell (p := ⟨g14, 3, none⟩) (by dsimp only; omega) (.slice Yz m8 yz))
        clear hv9 hyk k3 f3 HY1 HY4 r0 z0 z1 HVy H14y H15y HZy HPy HAy HLy HXy HRx HZx HPx HLx HKx H14 H15 HV8 HA8 HO8 HTE
        generalize wy.setCell ⟨g14, 3, none⟩ (.slice Yz m8 yz) = ww at HVw H14w H15w HZw HPw HAw HLw ⊢
        refine wp_region_held_drew (S := fun w' => Blk w' g14 35 #[.slice A8 n8' c8, .slice B8 q8 d8, .slice X8 xn8 xc8, .slice Yz m8 yz, .int .i64 t8] ∧ Blk w' g15 46 #[.int .i64 E8, .int .i64 I8] ∧ Blk w' gA 109 #[.slice la ln lc, .int .i64 (n8 : Int)]) (by kernel_rfl) ⟨H14w.out.drew, H15w.out.drew, HAw.out.drew⟩ (fun hHeld => ?_)
        have H14d := Lib.hid H14w.out.drew
        have H15d := Lib.hid H15w.out.drew
        have HAd := Lib.hid HAw.out.drew
        have HZd := Lib.hid HZw.out.drew
        have HPd := Lib.hid HPw.out.drew
        have HLd := Lib.hid HLw.out.drew
        have HVd := Lib.hid (HVw.out.drewN 1)
        clear H14w H15w HAw HZw HPw HLw HVw
        simp only [show ww.drewN 1 = ww.drew from rfl] at HVd
        generalize ww.drew = wd at H14d H15d HAd HZd HPd HLd HVd hHeld ⊢
        refine tk 0 63 (v := ?_) ?_ ?_
        rotate_left
        · intro w' hSw
          have hSw' := hSw
          (try dsimp only at hSw')
          obtain ⟨k0, k1, k2, k3, k4⟩ := (show _ ∧ _ ∧ _ ∧ _ ∧ _ from ⟨hSw'.1.cell 0 rfl, hSw'.1.cell 1 rfl, hSw'.1.cell 2 rfl, hSw'.1.cell 3 rfl, hSw'.1.cell 4 rfl⟩)
          go_simp
          (try with_reducible rfl)
        (try simp only [Act.put, sA, sB, sC])
        refine tk 1 64 (v := ?_) ?_ ?_
        rotate_left
        · intro w' hSw
          have hSw' := hSw
          (try dsimp only at hSw')
          obtain ⟨j0, j1⟩ := (show _ ∧ _ from ⟨hSw'.2.1.cell 0 rfl, hSw'.2.1.cell 1 rfl⟩)
          go_simp
          (try with_reducible rfl)
        (try simp only [Act.put, sA, sB, sC])
        refine tk 2 65 (v := ?_) ?_ ?_
        rotate_left
        · intro w' hSw
          go_simp
          (try with_reducible rfl)
        (try simp only [Act.put, sA, sB, sC])
        refine tk 3 66 (v := ?_) ?_ ?_
        rotate_left
        · intro w' hSw
          have hSw' := hSw
          (try dsimp only at hSw')
          have j1 := hSw'.2.2.cell 1 rfl
          go_simp
          (try with_reducible rfl)
        (try simp only [Act.put, sA, sB, sC])
        obtain ⟨y0, y1, y2, y3, y4⟩ := (show _ ∧ _ ∧ _ ∧ _ ∧ _ from ⟨HZd.out.cell 0 rfl, HZd.out.cell 1 rfl, HZd.out.cell 2 rfl, HZd.out.cell 3 rfl, HZd.out.cell 4 rfl⟩)
        obtain ⟨f0, f1, f2, f3, f4⟩ := (show _ ∧ _ ∧ _ ∧ _ ∧ _ from ⟨HZd.out.loose 0, HZd.out.loose 1, HZd.out.loose 2, HZd.out.loose 3, HZd.out.loose 4⟩)
        refine wpAnyH_ready (rs := [4]) (by kernel_rfl) (by simp) ?_
        refine AllReadyH.cons (i := 4) rfl (fun K0 hK => ?_) AllReadyH.nil
        go_simp
        refine hK.out _ (((((wd.setCell ⟨w.heap.size + 1 + 1, 0, none⟩ (.slice A8 n8' c8)).setCell ⟨w.heap.size + 1 + 1, 1, none⟩ (.slice B8 q8 d8)).setCell ⟨w.heap.size + 1 + 1, 2, none⟩ (.slice X8 xn8 xc8)).setCell ⟨w.heap.size + 1 + 1, 3, none⟩ (.slice Yz m8 yz)).setCell ⟨w.heap.size + 1 + 1, 4, none⟩ (.int .i64 t8)) ⟨st_other H14d.out (by omega) (.slice A8 n8' c8) (.slice B8 q8 d8) (.slice X8 xn8 xc8) (.slice Yz m8 yz) (.int .i64 t8), st_other H15d.out (by omega) (.slice A8 n8' c8) (.slice B8 q8 d8) (.slice X8 xn8 xc8) (.slice Yz m8 yz) (.int .i64 t8), st_other HAd.out (by omega) (.slice A8 n8' c8) (.slice B8 q8 d8) (.slice X8 xn8 xc8) (.slice Yz m8 yz) (.int .i64 t8)⟩ (fun hHeld => ?_)
        clear hK K0
        (try simp only [Act.put, sA, sB, sC])
        clear y0 y1 y2 y3 y4 f0 f1 f2 f3 f4
        have hp9 := st_other HPd.out (show w.heap.size + 1 + 1 ≠ w.heap.size + 1 + 1 + 1 by omega) (.slice A8 n8' c8) (.slice B8 q8 d8) (.slice X8 xn8 xc8) (.slice Yz m8 yz) (.int .i64 t8)
        obtain ⟨z0, z1⟩ := (show _ ∧ _ from ⟨hp9.cell 0 rfl, hp9.cell 1 rfl⟩)
        obtain ⟨e0, e1⟩ := (show _ ∧ _ from ⟨hp9.loose 0, hp9.loose 1⟩)
        clear hp9
        refine wpAnyH_ready (rs := [5]) (by kernel_rfl) (by simp) ?_
        refine AllReadyH.cons (i := 5) rfl (fun K0 hK => ?_) AllReadyH.nil
        go_simp
        refine hK.out _ (((((((wd.setCell ⟨w.heap.size + 1 + 1, 0, none⟩ (.slice A8 n8' c8)).setCell ⟨w.heap.size + 1 + 1, 1, none⟩ (.slice B8 q8 d8)).setCell ⟨w.heap.size + 1 + 1, 2, none⟩ (.slice X8 xn8 xc8)).setCell ⟨w.heap.size + 1 + 1, 3, none⟩ (.slice Yz m8 yz)).setCell ⟨w.heap.size + 1 + 1, 4, none⟩ (.int .i64 t8)).setCell ⟨w.heap.size + 1 + 1 + 1, 0, none⟩ (.int .i64 E8)).setCell ⟨w.heap.size + 1 + 1 + 1, 1, none⟩ (.int .i64 I8)) ⟨rp_other (st_other H14d.out (by omega) (.slice A8 n8' c8) (.slice B8 q8 d8) (.slice X8 xn8 xc8) (.slice Yz m8 yz) (.int .i64 t8)) (by omega) _ _, rp_other (st_other H15d.out (by omega) (.slice A8 n8' c8) (.slice B8 q8 d8) (.slice X8 xn8 xc8) (.slice Yz m8 yz) (.int .i64 t8)) (by omega) _ _, rp_other (st_other HAd.out (by omega) (.slice A8 n8' c8) (.slice B8 q8 d8) (.slice X8 xn8 xc8) (.slice Yz m8 yz) (.int .i64 t8)) (by omega) _ _⟩ (fun hHeld => ?_)
        clear hK K0
        (try simp only [Act.put, sA, sB, sC])
        clear z0 z1 e0 e1
        refine tk 6 8 (v := ?_) ?_ ?_
        rotate_left
        · intro w' hSw
          go_simp
          (try with_reducible rfl)
        (try simp only [Act.put, sA, sB, sC])
        refine wpAnyH_done (by kernel_rfl) ?_ _
        go_wp2
        have HP := told_at HZd.out HPd.out rfl rfl (by omega) (.slice A8 n8' c8) (.slice B8 q8 d8) (.slice X8 xn8 xc8) (.slice Yz m8 yz) (.int .i64 t8) (.int .i64 E8) (.int .i64 I8)
        have HPV := sk_rp (sk_zero HVd.out HZd.out (.slice A8 n8' c8) (.slice B8 q8 d8) (.slice X8 xn8 xc8) (.slice Yz m8 yz) (.int .i64 t8)) (st_other HPd.out (by omega) (.slice A8 n8' c8) (.slice B8 q8 d8) (.slice X8 xn8 xc8) (.slice Yz m8 yz) (.int .i64 t8)) (.int .i64 E8) (.int .i64 I8)
        have HPB := told_below HLd.out (show w.heap.size ≤ w.heap.size + 1 + 1 by omega) (show w.heap.size ≤ w.heap.size + 1 + 1 + 1 by omega) (.slice A8 n8' c8) (.slice B8 q8 d8) (.slice X8 xn8 xc8) (.slice Yz m8 yz) (.int .i64 t8) (.int .i64 E8) (.int .i64 I8)
        refine bodyPost_ret (results_two1 (p := 6) (q := 7) (x := 8) (ty := 35) (tz := 46) rfl _ _ (w.heap.size + 1 + 1) (w.heap.size + 1 + 1 + 1) _ _ _ _ (0, 0) _ _ rfl HP.1 Tryz.underlying35 rfl (by kernel_rfl) rfl HP.2 Tryz.underlying46 rfl (by kernel_rfl)) rfl ?_
        exact ⟨⟨A8, n8', c8, B8, q8, d8, X8, xn8, xc8, Yz, m8, yz, t8⟩, rfl, HPV, HPB, fun p hp hq => ⟨(HNW.out p (fun b hb => hp b (by omega)) (fun a e => hp _ (HKF.out a e))).1, (HNW.out p (fun b hb => hp b (by omega)) (fun a e => hp _ (HKF.out a e))).2.1, (HNW.out p (fun b hb => hp b (by omega)) (fun a e => hp _ (HKF.out a e))).2.2.1, fun b e => hp b (by have := HYF.out b (by rw [HM8.out]; exact full_own e); omega)⟩⟩
     · rw [if_neg hp]
       have HE := Lib.hid (show errV (kputE kl r) = eno (kputE kl r) by rw [errV, if_neg hp])
       rw [HE.out] at HPUT
       generalize kputE kl r = E1 at HPUT HE ⊢
       clear hp
       obtain ⟨A, n, c, B, q, d, X, xn, xc, Y, yn, yc, t⟩ := V
       obtain ⟨rk, ro, ra, rb, rm, rl, ru⟩ := r
       obtain ⟨q1, q2, q3, q4, q5⟩ := d4_all w #[.slice A n c, .slice B q d, .slice X xn xc, .slice Y yn yc, .int .i64 t] (rqC rk ro ra rb rm rl ru)
       have HS4 := Lib.hid q1
       have HR4 := Lib.hid q2
       have HZ4 := Lib.hid q3
       have HP4 := Lib.hid q4
       have HL4 := Lib.hid q5
       unfold Sv.val Sv.cells Rq.val
       unfold Rq.val at HMA
       dsimp only at HMA ⊢
       clear h hf hh hl hln hm q1 q2 q3 q4 q5 hkn HTK HEXE HWIT
       have HNB := Lib.hid (fun W (hx : HasErr W) => failed_any E1 W hx)
       rw [HE.out] at HNB
       go_enter Tryz.func12, Tryz.ntmps12
       go_upto_region 1 with fail
       generalize ((((w.alloc (.cells #[.slice A n c, .slice B q d, .slice X xn xc, .slice Y yn yc, .int .i64 t] 35)).alloc (.cells (rqC rk ro ra rb rm rl ru) 42)).alloc (.cells st0 35)).alloc (.cells rp0 46)) = w4 at HS4 HR4 HZ4 HP4 HL4 ⊢
       obtain ⟨r0, r1, r2, r3, r4, r5, r6⟩ := (show _ ∧ _ ∧ _ ∧ _ ∧ _ ∧ _ ∧ _ from ⟨HR4.out.cell 0 rfl, HR4.out.cell 1 rfl, HR4.out.cell 2 rfl, HR4.out.cell 3 rfl, HR4.out.cell 4 rfl, HR4.out.cell 5 rfl, HR4.out.cell 6 rfl⟩)
       go_upto_region 3 with (first | (go_at_call 35; refine (HMA.out _).mono ?_; rintro _ w5 ⟨rfl, hb5⟩))
       have HL5 := Lib.hid (HL4.out.trans (hb5.mono HL4.out.size))
       have HS5 := Lib.hid (HS4.out.later hb5)
       have HR5 := Lib.hid (HR4.out.later hb5)
       have HZ5 := Lib.hid (HZ4.out.later hb5)
       have HP5 := Lib.hid (HP4.out.later hb5)
       have hz5 : w.heap.size + 1 + 1 + 1 < w5.heap.size := HP5.out.lt
       clear hb5 HS4 HR4 HZ4 HP4 HL4 HMA
       clear r0 r1 r2 r3 r4 r5 r6
       obtain ⟨x0, x1, x2, x3, x4⟩ := (show _ ∧ _ ∧ _ ∧ _ ∧ _ from ⟨HS5.out.cell 0 rfl, HS5.out.cell 1 rfl, HS5.out.cell 2 rfl, HS5.out.cell 3 rfl, HS5.out.cell 4 rfl⟩)
       obtain ⟨r0, r1, r2, r3, r4, r5, r6⟩ := (show _ ∧ _ ∧ _ ∧ _ ∧ _ ∧ _ ∧ _ from ⟨HR5.out.cell 0 rfl, HR5.out.cell 1 rfl, HR5.out.cell 2 rfl, HR5.out.cell 3 rfl, HR5.out.cell 4 rfl, HR5.out.cell 5 rfl, HR5.out.cell 6 rfl⟩)
       go_upto_region 4 with (first | (go_at_call 20; refine (HASK.out _ HL5.out).mono ?_; rintro _ w6 ⟨rfl, hb6⟩
                                       have HX6 := Lib.hid hb6
                                       clear hb6))
       have HL6 := Lib.hid (HL5.out.trans (HX6.out.mono HL5.out.size))
       have HS7 := Lib.hid ((HS5.out.later HX6.out).more (.cells #[.int .i64 R1, .int .i64 R2] 46))
       have HR7 := Lib.hid ((HR5.out.later HX6.out).more (.cells #[.int .i64 R1, .int .i64 R2] 46))
       have HZ7 := Lib.hid ((HZ5.out.later HX6.out).more (.cells #[.int .i64 R1, .int .i64 R2] 46))
       have HP7 := Lib.hid ((HP5.out.later HX6.out).more (.cells #[.int .i64 R1, .int .i64 R2] 46))
       have HN7 := Lib.hid (Blk.new w6 46 #[.int .i64 R1, .int .i64 R2])
       have HL7 := Lib.hid (HL6.out.alloc HL6.out.size (.cells #[.int .i64 R1, .int .i64 R2] 46))
       have hz7 := HX6.out.size
       clear HX6 HL6 HS5 HR5 HZ5 HP5 HL5 HASK
       clear x0 x1 x2 x3 x4 r0 r1 r2 r3 r4 r5 r6
       generalize w6.alloc (.cells #[.int .i64 R1, .int .i64 R2] 46) = w7 at HS7 HR7 HZ7 HP7 HN7 HL7 ⊢
       generalize w6.heap.size = g9 at HN7 hz7 ⊢
       obtain ⟨x0, x1, x2, x3, x4⟩ := (show _ ∧ _ ∧ _ ∧ _ ∧ _ from ⟨HS7.out.cell 0 rfl, HS7.out.cell 1 rfl, HS7.out.cell 2 rfl, HS7.out.cell 3 rfl, HS7.out.cell 4 rfl⟩)
       obtain ⟨r0, r1, r2, r3, r4, r5, r6⟩ := (show _ ∧ _ ∧ _ ∧ _ ∧ _ ∧ _ ∧ _ from ⟨HR7.out.cell 0 rfl, HR7.out.cell 1 rfl, HR7.out.cell 2 rfl, HR7.out.cell 3 rfl, HR7.out.cell 4 rfl, HR7.out.cell 5 rfl, HR7.out.cell 6 rfl⟩)
       go_upto_region 8 with (first | (go_at_call 36; refine (HPUT.out _ HL7.out).mono ?_; rintro _ w8 ⟨v8, rfl, ho8, hb8⟩
                                       have HO8 := Lib.hid ho8
                                       have HX8 := Lib.hid hb8
                                       clear ho8 hb8))
       have HL8 := Lib.hid (HL7.out.trans (HX8.out.mono HL7.out.size))
       have hw7 := HL7.out.size
       have HS8 := Lib.hid (HS7.out.later HX8.out)
       have HR8 := Lib.hid (HR7.out.later HX8.out)
       have HZ8 := Lib.hid (HZ7.out.later HX8.out)
       have HP8 := Lib.hid (HP7.out.later HX8.out)
       clear HS7 HR7 HZ7 HP7 HL7 HN7 hz7 HPUT HX8
       clear x0 x1 x2 x3 x4 r0 r1 r2 r3 r4 r5 r6
       have HH8 := Lib.hid (HH0.out.below HL8.out)
       refine wp_region_held_drew (S := fun w' => Blk w' w.heap.size 35 #[.slice A n c, .slice B q d, .slice X xn xc, .slice Y yn yc, .int .i64 t]) (by kernel_rfl) HS8.out.drew (fun hHeld => ?_)
       refine tk 0 40 (v := ?_) ?_ ?_
       rotate_left
       · intro w' hSw
         have hSw' := hSw
         (try dsimp only at hSw')
         obtain ⟨k0, k1, k2, k3, k4⟩ := (show _ ∧ _ ∧ _ ∧ _ ∧ _ from ⟨hSw'.cell 0 rfl, hSw'.cell 1 rfl, hSw'.cell 2 rfl, hSw'.cell 3 rfl, hSw'.cell 4 rfl⟩)
         go_simp
         (try with_reducible rfl)
       (try simp only [Act.put, sA, sB, sC])
       refine tk 1 41 (v := ?_) ?_ ?_
       rotate_left
       · intro w' hSw
         go_simp
         (try with_reducible rfl)
       (try simp only [Act.put, sA, sB, sC])
       refine wpAnyH_ready (rs := [2]) (by kernel_rfl) (by simp) ?_
       refine AllReadyH.cons (i := 2) rfl (fun K0 hK => ?_) AllReadyH.nil
       go_simp
       go_at_call 37
       refine (HNB.out _ (show HasErr w8.drew from HH8.out)).mono ?_
       rintro _ w9 ⟨rfl, hb9⟩
       have hb9' : Below w8.heap.size w8 w9 := (Below.refl w8.heap.size w8).drew.trans hb9
       have HS9 := Lib.hid (HS8.out.later hb9')
       have HZ9 := Lib.hid (HZ8.out.later hb9')
       have HP9 := Lib.hid (HP8.out.later hb9')
       have HL9 := Lib.hid (HL8.out.trans (hb9'.mono HL8.out.size))
       clear hb9 hb9' HZ8 HP8 HL8 HS8 HR8
       refine hK.out _ _ HS9.out (fun hHeld => ?_)
       clear hK K0
       (try simp only [Act.put, sA, sB, sC])
       obtain ⟨y0, y1, y2, y3, y4⟩ := (show _ ∧ _ ∧ _ ∧ _ ∧ _ from ⟨HZ9.out.cell 0 rfl, HZ9.out.cell 1 rfl, HZ9.out.cell 2 rfl, HZ9.out.cell 3 rfl, HZ9.out.cell 4 rfl⟩)
       obtain ⟨f0, f1, f2, f3, f4⟩ := (show _ ∧ _ ∧ _ ∧ _ ∧ _ from ⟨HZ9.out.loose 0, HZ9.out.loose 1, HZ9.out.loose 2, HZ9.out.loose 3, HZ9.out.loose 4⟩)
       refine wpAnyH_ready (rs := [3]) (by kernel_rfl) (by simp) ?_
       refine AllReadyH.cons (i := 3) rfl (fun K0 hK => ?_) AllReadyH.nil
       go_simp
       refine hK.out _ (((((w9.setCell ⟨w.heap.size + 1 + 1, 0, none⟩ (.slice A n c)).setCell ⟨w.heap.size + 1 + 1, 1, none⟩ (.slice B q d)).setCell ⟨w.heap.size + 1 + 1, 2, none⟩ (.slice X xn xc)).setCell ⟨w.heap.size + 1 + 1, 3, none⟩ (.slice Y yn yc)).setCell ⟨w.heap.size + 1 + 1, 4, none⟩ (.int .i64 t)) (st_other HS9.out (by omega) (.slice A n c) (.slice B q d) (.slice X xn xc) (.slice Y yn yc) (.int .i64 t)) (fun hHeld => ?_)
       clear hK K0
       (try simp only [Act.put, sA, sB, sC])
       clear y0 y1 y2 y3 y4 f0 f1 f2 f3 f4
       have hp9 := st_other HP9.out (show w.heap.size + 1 + 1 ≠ w.heap.size + 1 + 1 + 1 by omega) (.slice A n c) (.slice B q d) (.slice X xn xc) (.slice Y yn yc) (.int .i64 t)
       obtain ⟨z0, z1⟩ := (show _ ∧ _ from ⟨hp9.cell 0 rfl, hp9.cell 1 rfl⟩)
       obtain ⟨e0, e1⟩ := (show _ ∧ _ from ⟨hp9.loose 0, hp9.loose 1⟩)
       clear hp9
       refine wpAnyH_ready (rs := [4]) (by kernel_rfl) (by simp) ?_
       refine AllReadyH.cons (i := 4) rfl (fun K0 hK => ?_) AllReadyH.nil
       go_simp
       refine hK.out _ (((((((w9.setCell ⟨w.heap.size + 1 + 1, 0, none⟩ (.slice A n c)).setCell ⟨w.heap.size + 1 + 1, 1, none⟩ (.slice B q d)).setCell ⟨w.heap.size + 1 + 1, 2, none⟩ (.slice X xn xc)).setCell ⟨w.heap.size + 1 + 1, 3, none⟩ (.slice Y yn yc)).setCell ⟨w.heap.size + 1 + 1, 4, none⟩ (.int .i64 t)).setCell ⟨w.heap.size + 1 + 1 + 1, 0, none⟩ (.int .i64 E1)).setCell ⟨w.heap.size + 1 + 1 + 1, 1, none⟩ (.int .i64 0)) (rp_other (st_other HS9.out (by omega) (.slice A n c) (.slice B q d) (.slice X xn xc) (.slice Y yn yc) (.int .i64 t)) (by omega) _ _) (fun hHeld => ?_)
       clear hK K0
       (try simp only [Act.put, sA, sB, sC])
       clear z0 z1 e0 e1
       refine tk 5 8 (v := ?_) ?_ ?_
       rotate_left
       · intro w' hSw
         go_simp
         (try with_reducible rfl)
       (try simp only [Act.put, sA, sB, sC])
       refine wpAnyH_done (by kernel_rfl) ?_ _
       go_wp2
       have HP := told_at HZ9.out HP9.out rfl rfl (by omega) (.slice A n c) (.slice B q d) (.slice X xn xc) (.slice Y yn yc) (.int .i64 t) (.int .i64 E1) (.int .i64 0)
       have HPV := sk_rp (sk_zero (HV0.out.below HL9.out) HZ9.out (.slice A n c) (.slice B q d) (.slice X xn xc) (.slice Y yn yc) (.int .i64 t)) (st_other HP9.out (by omega) (.slice A n c) (.slice B q d) (.slice X xn xc) (.slice Y yn yc) (.int .i64 t)) (.int .i64 E1) (.int .i64 0)
       have HPB := told_below HL9.out (show w.heap.size ≤ w.heap.size + 1 + 1 by omega) (show w.heap.size ≤ w.heap.size + 1 + 1 + 1 by omega) (.slice A n c) (.slice B q d) (.slice X xn xc) (.slice Y yn yc) (.int .i64 t) (.int .i64 E1) (.int .i64 0)
       refine bodyPost_ret (results_two1 (p := 6) (q := 7) (x := 8) (ty := 35) (tz := 46) rfl _ _ (w.heap.size + 1 + 1) (w.heap.size + 1 + 1 + 1) _ _ _ _ (0, 0) _ _ rfl HP.1 Tryz.underlying35 rfl (by kernel_rfl) rfl HP.2 Tryz.underlying46 rfl (by kernel_rfl)) rfl ?_
       exact ⟨⟨A, n, c, B, q, d, X, xn, xc, Y, yn, yc, t⟩, rfl, HPV, HPB, fun p _ hq => hq⟩
 · rw [if_neg hmy]
   rw [decide_eq_false hmy] at HMA
   clear hmy HASK HPUT HTK HEXE HWIT
   obtain ⟨A, n, c, B, q, d, X, xn, xc, Y, yn, yc, t⟩ := V
   obtain ⟨rk, ro, ra, rb, rm, rl, ru⟩ := r
   obtain ⟨q1, q2, q3, q4, q5⟩ := d4_all w #[.slice A n c, .slice B q d, .slice X xn xc, .slice Y yn yc, .int .i64 t] (rqC rk ro ra rb rm rl ru)
   have HS4 := Lib.hid q1
   have HR4 := Lib.hid q2
   have HZ4 := Lib.hid q3
   have HP4 := Lib.hid q4
   have HL4 := Lib.hid q5
   unfold Sv.val Sv.cells Rq.val
   unfold Rq.val at HMA
   dsimp only at HMA ⊢
   clear h hf hh hl hln hm q1 q2 q3 q4 q5 hkn
   go_enter Tryz.func12, Tryz.ntmps12
   go_upto_region 1 with fail
   generalize ((((w.alloc (.cells #[.slice A n c, .slice B q d, .slice X xn xc, .slice Y yn yc, .int .i64 t] 35)).alloc (.cells (rqC rk ro ra rb rm rl ru) 42)).alloc (.cells st0 35)).alloc (.cells rp0 46)) = w4 at HS4 HR4 HZ4 HP4 HL4 ⊢
   obtain ⟨r0, r1, r2, r3, r4, r5, r6⟩ := (show _ ∧ _ ∧ _ ∧ _ ∧ _ ∧ _ ∧ _ from ⟨HR4.out.cell 0 rfl, HR4.out.cell 1 rfl, HR4.out.cell 2 rfl, HR4.out.cell 3 rfl, HR4.out.cell 4 rfl, HR4.out.cell 5 rfl, HR4.out.cell 6 rfl⟩)
   go_upto_region 2 with (first | (go_at_call 35; refine (HMA.out _).mono ?_; rintro _ w5 ⟨rfl, hb5⟩))
   have HL5 := Lib.hid (HL4.out.trans (hb5.mono HL4.out.size))
   have HS5 := Lib.hid (HS4.out.later hb5)
   have HR5 := Lib.hid (HR4.out.later hb5)
   have HZ5 := Lib.hid (HZ4.out.later hb5)
   have HP5 := Lib.hid (HP4.out.later hb5)
   have hz5 : w.heap.size + 1 + 1 + 1 < w5.heap.size := HP5.out.lt
   clear hb5 HS4 HR4 HZ4 HP4 HL4 HMA
   clear r0 r1 r2 r3 r4 r5 r6
   obtain ⟨x0, x1, x2, x3, x4⟩ := (show _ ∧ _ ∧ _ ∧ _ ∧ _ from ⟨HS5.out.cell 0 rfl, HS5.out.cell 1 rfl, HS5.out.cell 2 rfl, HS5.out.cell 3 rfl, HS5.out.cell 4 rfl⟩)
   obtain ⟨y0, y1, y2, y3, y4⟩ := (show _ ∧ _ ∧ _ ∧ _ ∧ _ from ⟨HZ5.out.cell 0 rfl, HZ5.out.cell 1 rfl, HZ5.out.cell 2 rfl, HZ5.out.cell 3 rfl, HZ5.out.cell 4 rfl⟩)
   obtain ⟨f0, f1, f2, f3, f4⟩ := (show _ ∧ _ ∧ _ ∧ _ ∧ _ from ⟨HZ5.out.loose 0, HZ5.out.loose 1, HZ5.out.loose 2, HZ5.out.loose 3, HZ5.out.loose 4⟩)
   have hp9 := HP5.out
   obtain ⟨z0, z1⟩ := (show _ ∧ _ from ⟨hp9.cell 0 rfl, hp9.cell 1 rfl⟩)
   obtain ⟨e0, e1⟩ := (show _ ∧ _ from ⟨hp9.loose 0, hp9.loose 1⟩)
   clear hp9
   go_wp2
   have HP := told_at HZ5.out HP5.out rfl rfl (by omega) (.slice A n c) (.slice B q d) (.slice X xn xc) (.slice Y yn yc) (.int .i64 t) (.int .i64 1) (.int .i64 0)
   have HPV := sk_rp (sk_zero (HV0.out.below HL5.out) HZ5.out (.slice A n c) (.slice B q d) (.slice X xn xc) (.slice Y yn yc) (.int .i64 t)) (st_other HP5.out (by omega) (.slice A n c) (.slice B q d) (.slice X xn xc) (.slice Y yn yc) (.int .i64 t)) (.int .i64 1) (.int .i64 0)
   have HPB := told_below HL5.out (show w.heap.size ≤ w.heap.size + 1 + 1 by omega) (show w.heap.size ≤ w.heap.size + 1 + 1 + 1 by omega) (.slice A n c) (.slice B q d) (.slice X xn xc) (.slice Y yn yc) (.int .i64 t) (.int .i64 1) (.int .i64 0)
   refine bodyPost_ret (results_two1 (p := 6) (q := 7) (x := 8) (ty := 35) (tz := 46) rfl _ _ (w.heap.size + 1 + 1) (w.heap.size + 1 + 1 + 1) _ _ _ _ (0, 0) _ _ rfl HP.1 Tryz.underlying35 rfl (by kernel_rfl) rfl HP.2 Tryz.underlying46 rfl (by kernel_rfl)) rfl ?_
   exact ⟨⟨A, n, c, B, q, d, X, xn, xc, Y, yn, yc, t⟩, rfl, HPV, HPB, fun p _ hq => hq⟩
end Go.Proofs.YteifgmdaggiaaaaGreatDoor
