/-
  The law BankBad: what is no request changes nothing; any other one is known then.
-/
import Derived.Test.YteiljppljlmcbaaGreatDoorBankAwake
import Derived.Test.YteiljppljlmcbaaGreatDoorBankOk
import Derived.Test.YteiljppljlmcbaaGreatDoorReqIn
namespace Go.Proofs.YteiljppljlmcbaaGreatDoor
open Go Go.RowKit
set_option linter.unusedVariables false

theorem bk_first {s : St} {r : Rq} {ls : List Bool} (h : r.may) : bkO s [] r ls = ⟨exeT s r ls, [⟨r, exeE s r ls, exeI s r ls, true⟩], exeE s r ls, exeI s r ls, exeN s r ls⟩ := by
  unfold bkO
  rw [if_pos h, if_neg (by unfold askR; rw [show findN [] r.key = none from rfl]; simp), if_pos (by unfold kputE; rw [show findN [] r.key = none from rfl]; simp)]
  rfl
theorem bk_not {s : St} {kl : List Kn} {r : Rq} {ls : List Bool} (h : ¬ r.may) : bkO s kl r ls = ⟨s, kl, 1, 0, 0⟩ := by unfold bkO; rw [if_neg h]
theorem ask_one (r : Rq) (e i : Int) : askR [⟨r, e, i, true⟩] r = (e, i, true) := by
  unfold askR
  rw [show findN [⟨r, e, i, true⟩] r.key = some 0 by unfold findN; simp]
  simp [knAt]

set_option maxRecDepth 100000 in
set_option maxHeartbeats 2000000 in
theorem bankBad_core (w : World) (b : Value) (hb : BookAt w b) (r : Rq) (la : Option Addr) (ln lc : Nat) (ls : List Bool) (hls : RdS flags w la ls) (hln : ls.length = ln) (hm : ln ≤ 9223372036854775806) (hh : HasErr w) :
    Calls Tryz.prog 5 #[b, r.val, .slice la ln lc] w fun e w' => e = .returned (.bool true) ∧ Below w.heap.size w w' := by
  have HST := Lib.hid (fun W (hW : Below w.heap.size w W) => state_any hb none 0 0 [] rfl 0 (by decide) (by decide) W hW RdS.nil (fun j z h => by simp at h))
  have HAW := Lib.hid (fun W (hW : Below w.heap.size w W) => bawake_ok W (hh.below hW))
  have HMA := Lib.hid (fun W => rmay_any r W)
  unfold BoolRes at HMA
  have HDO := Lib.hid (fun V s0 W (hW : Below w.heap.size w W) (hv : SkAt W V s0 [] []) (hok : Ok s0) => bdo_any V s0 [] [] r W la ln lc ls hv ⟨hok.right, hok.few, by decide, by decide⟩ (hh.below hW) (hls.below hW) hln hm (by decide))
  unfold BkRes at HDO
  have HR := Lib.hid (show r = r from rfl)
  have HSA := Lib.hid (fun V V' s0 W kl (hv : SkAt W V s0 [] kl) (hv' : SkAt W V' s0 [] kl) (hok : Ok s0) (hk : kl.length ≤ 2000000) => sk_same V V' s0 [] [] kl W hv hv' (right_len hok.right).2 hok.few hk)
  have HSO := Lib.hid (fun V V' s0 W kl kl' (hv : SkAt W V s0 [] kl) (hv' : SkAt W V' s0 [] kl') (hok : Ok s0) => sk_osame V V' s0 [] [] kl kl' W hv hv' (right_len hok.right).2 hok.few)
  obtain ⟨CA, HA, LA, cl, cc, hl', hc, ll, lc', cs, hs, ls', rfl, h1, h2, h3, h4, h5, h6, h7, h8, h9⟩ := hb.form
  have bl := ((Below.refl w.heap.size w).alloc (Nat.le_refl _) (.cells #[.slice CA cl cc, .slice HA hl' hc, .slice LA ll lc'] 25)).alloc (by simp) (.cells (rqC r.key r.op r.a r.b r.amt r.legs r.til) 42)
  have b1 := (Blk.new w 25 #[.slice CA cl cc, .slice HA hl' hc, .slice LA ll lc']).more (.cells (rqC r.key r.op r.a r.b r.amt r.legs r.til) 42)
  have b2 := Blk.new (w.alloc (.cells #[.slice CA cl cc, .slice HA hl' hc, .slice LA ll lc'] 25)) 42 (rqC r.key r.op r.a r.b r.amt r.legs r.til)
  rw [alloc_size] at b2
  have HBk := Lib.hid b1
  have HRq := Lib.hid b2
  have HL := Lib.hid bl
  unfold Sv.val Sv.cells at HST
  unfold Rq.val at HMA ⊢
  clear h1 h2 h3 h4 h5 h6 h7 h8 h9 hb hls hln hm hh b1 b2 bl
  go_enter Tryz.func5, Tryz.ntmps5
  go_upto_region 1 with fail
  generalize (w.alloc (.cells #[.slice CA cl cc, .slice HA hl' hc, .slice LA ll lc'] 25)).alloc (.cells (rqC r.key r.op r.a r.b r.amt r.legs r.til) 42) = w2 at HBk HRq HL ⊢
  go_wp2_with fail
  refine (HAW.out _ HL.out).mono ?_
  rintro _ w3 ⟨rfl, hb3⟩
  have HBk3 := Lib.hid (HBk.out.later hb3)
  have HRq3 := Lib.hid (HRq.out.later hb3)
  have HL3 := Lib.hid (HL.out.trans (hb3.mono HL.out.size))
  clear hb3 HBk HRq HL HAW
  obtain ⟨b0, b1, b2⟩ := (show _ ∧ _ ∧ _ from ⟨HBk3.out.cell 0 rfl, HBk3.out.cell 1 rfl, HBk3.out.cell 2 rfl⟩)
  go_wp2_with fail
  refine (HST.out _ HL3.out).mono ?_
  rintro _ w4 ⟨V4, s0, rfl, hv4, hmd, hb4⟩
  have HV4 := Lib.hid hv4.sk
  have OK := Lib.hid hmd.ok
  have HRq4 := Lib.hid (HRq3.out.later hb4)
  have HL4 := Lib.hid (HL3.out.trans (hb4.mono HL3.out.size))
  obtain ⟨A4, n4, c4, B4, q4, d4, X4, xn4, xc4, Y4, yn4, yc4, t4⟩ := V4
  dsimp only at HV4 ⊢
  clear hv4 hmd hb4 HST HBk3 HRq3 HL3 b0 b1 b2
  go_upto_region 4 with fail
  have al := (Below.refl w4.heap.size w4).alloc (Nat.le_refl _) (.cells #[.slice A4 n4 c4, .slice B4 q4 d4, .slice X4 xn4 xc4, .slice Y4 yn4 yc4, .int .i64 t4] 34)
  have G5 := Lib.hid (Blk.new w4 34 #[.slice A4 n4 c4, .slice B4 q4 d4, .slice X4 xn4 xc4, .slice Y4 yn4 yc4, .int .i64 t4])
  have HV5 := Lib.hid (HV4.out.below al)
  have HRq5 := Lib.hid (HRq4.out.later al)
  have HL5 := Lib.hid (HL4.out.trans (al.mono HL4.out.size))
  clear al HV4 HRq4 HL4
  generalize w4.alloc (.cells #[.slice A4 n4 c4, .slice B4 q4 d4, .slice X4 xn4 xc4, .slice Y4 yn4 yc4, .int .i64 t4] 34) = w5 at HV5 HRq5 HL5 G5 ⊢
  generalize w4.heap.size = g7 at G5 ⊢
  have D5 := Lib.hid (HDO.out ⟨A4, n4, c4, B4, q4, d4, X4, xn4, xc4, Y4, yn4, yc4, t4⟩ s0 w5 HL5.out HV5.out OK.out)
  by_cases hmy : r.may
  · rw [decide_eq_true hmy] at HMA
    rw [bk_first hmy] at D5
    have OKX := Lib.hid (exe_ok (ls := ls) OK.out hmy)
    have HERR := Lib.hid (fun h => exe_err (s := s0) (r := r) (ls := ls) OK.out.right h)
    have HAK := Lib.hid (fun W (Y : Option Addr) (yn yc : Nat) (e i : Int) (hl : [(⟨r, e, i, true⟩ : Kn)].length = yn) (hr : RdS known W Y [⟨r, e, i, true⟩]) => kask_any Y yn yc [⟨r, e, i, true⟩] r W hl hr (by rw [← hl, List.length_singleton]; omega))
    unfold AskTold at HAK
    simp only [ask_one] at HAK
    generalize exeT s0 r ls = T6 at D5 OKX HERR
    generalize exeE s0 r ls = E6 at D5 HERR
    generalize exeI s0 r ls = I6 at D5
    generalize exeN s0 r ls = n6' at D5
    unfold Sv.val Sv.cells Rq.val at D5
    unfold Rq.val at HAK
    dsimp only at D5 HAK
    clear HDO hmy
    obtain ⟨x0, x1, x2, x3, x4⟩ := (show _ ∧ _ ∧ _ ∧ _ ∧ _ from ⟨G5.out.cell 0 rfl, G5.out.cell 1 rfl, G5.out.cell 2 rfl, G5.out.cell 3 rfl, G5.out.cell 4 rfl⟩)
    obtain ⟨r0, r1, r2, r3, r4, r5, r6⟩ := (show _ ∧ _ ∧ _ ∧ _ ∧ _ ∧ _ ∧ _ from ⟨HRq5.out.cell 0 rfl, HRq5.out.cell 1 rfl, HRq5.out.cell 2 rfl, HRq5.out.cell 3 rfl, HRq5.out.cell 4 rfl, HRq5.out.cell 5 rfl, HRq5.out.cell 6 rfl⟩)
    go_upto_region 5 with (first
      | (go_at_call 13; refine D5.out.mono ?_; rintro _ w6 ⟨V6, rfl, hv6, hb6⟩
         obtain ⟨A6, n6, c6, B6, q6, d6, X6, xn6, xc6, Y6, yn6, yc6, t6⟩ := V6
         dsimp only at hv6 ⊢
         have HV6 := Lib.hid hv6
         have HX6 := Lib.hid hb6
         clear hv6 hb6 x0 x1 x2 x3 x4 r0 r1 r2 r3 r4 r5 r6))
    have HW6 := Lib.hid (HV5.out.below HX6.out)
    have G6 := Lib.hid (G5.out.later HX6.out)
    have HRq6 := Lib.hid (HRq5.out.later HX6.out)
    have HL6 := Lib.hid (HL5.out.trans (HX6.out.mono HL5.out.size))
    have hyn : yn6 = 1 := HV6.out.yn.symm
    subst hyn
    clear D5 HX6 HV5 G5 HRq5 HL5
    have al := ((Below.refl w6.heap.size w6).alloc (Nat.le_refl _) (.cells #[.slice A6 n6 c6, .slice B6 q6 d6, .slice X6 xn6 xc6, .slice Y6 1 yc6, .int .i64 t6] 34)).alloc (by simp) (.cells #[.int .i64 E6, .int .i64 I6] 50)
    have S7 := Lib.hid ((Blk.new w6 34 #[.slice A6 n6 c6, .slice B6 q6 d6, .slice X6 xn6 xc6, .slice Y6 1 yc6, .int .i64 t6]).more (.cells #[.int .i64 E6, .int .i64 I6] 50))
    have p7 := Blk.new (w6.alloc (.cells #[.slice A6 n6 c6, .slice B6 q6 d6, .slice X6 xn6 xc6, .slice Y6 1 yc6, .int .i64 t6] 34)) 50 #[.int .i64 E6, .int .i64 I6]
    rw [alloc_size] at p7
    have P7 := Lib.hid p7
    have HV7 := Lib.hid (HV6.out.below al)
    have HW7 := Lib.hid (HW6.out.below al)
    have G7 := Lib.hid (G6.out.later al)
    have HRq7 := Lib.hid (HRq6.out.later al)
    have HL7 := Lib.hid (HL6.out.trans (al.mono HL6.out.size))
    clear al p7 HV6 HW6 G6 HRq6 HL6
    generalize (w6.alloc (.cells #[.slice A6 n6 c6, .slice B6 q6 d6, .slice X6 xn6 xc6, .slice Y6 1 yc6, .int .i64 t6] 34)).alloc (.cells #[.int .i64 E6, .int .i64 I6] 50) = w7 at S7 P7 HV7 HW7 G7 HRq7 HL7 ⊢
    generalize w6.heap.size = g8 at S7 P7 ⊢
    obtain ⟨r0, r1, r2, r3, r4, r5, r6⟩ := (show _ ∧ _ ∧ _ ∧ _ ∧ _ ∧ _ ∧ _ from ⟨HRq7.out.cell 0 rfl, HRq7.out.cell 1 rfl, HRq7.out.cell 2 rfl, HRq7.out.cell 3 rfl, HRq7.out.cell 4 rfl, HRq7.out.cell 5 rfl, HRq7.out.cell 6 rfl⟩)
    go_wp2_with fail
    refine (HMA.out _).mono ?_
    rintro _ w8 ⟨rfl, hb8⟩
    have HV8 := Lib.hid (HV7.out.below hb8)
    have HW8 := Lib.hid (HW7.out.below hb8)
    have G8 := Lib.hid (G7.out.later hb8)
    have S8 := Lib.hid (S7.out.later hb8)
    have P8 := Lib.hid (P7.out.later hb8)
    have HRq8 := Lib.hid (HRq7.out.later hb8)
    have HL8 := Lib.hid (HL7.out.trans (hb8.mono HL7.out.size))
    clear hb8 HV7 HW7 G7 S7 P7 HRq7 HL7 HMA r0 r1 r2 r3 r4 r5 r6
    obtain ⟨x0, x1, x2, x3, x4⟩ := (show _ ∧ _ ∧ _ ∧ _ ∧ _ from ⟨S8.out.cell 0 rfl, S8.out.cell 1 rfl, S8.out.cell 2 rfl, S8.out.cell 3 rfl, S8.out.cell 4 rfl⟩)
    obtain ⟨r0, r1, r2, r3, r4, r5, r6⟩ := (show _ ∧ _ ∧ _ ∧ _ ∧ _ ∧ _ ∧ _ from ⟨HRq8.out.cell 0 rfl, HRq8.out.cell 1 rfl, HRq8.out.cell 2 rfl, HRq8.out.cell 3 rfl, HRq8.out.cell 4 rfl, HRq8.out.cell 5 rfl, HRq8.out.cell 6 rfl⟩)
    go_upto_region 8 with (first
      | (go_at_call 15; refine (HAK.out _ _ _ _ _ _ rfl HV8.out.kn).mono ?_; rintro _ w9 ⟨rfl, hb9⟩
         have HX9 := Lib.hid hb9
         clear hb9 x0 x1 x2 x3 x4 r0 r1 r2 r3 r4 r5 r6))
    have HV9 := Lib.hid (HV8.out.below HX9.out)
    have HW9 := Lib.hid (HW8.out.below HX9.out)
    have G9 := Lib.hid (G8.out.later HX9.out)
    have S9 := Lib.hid (S8.out.later HX9.out)
    have P9 := Lib.hid (P8.out.later HX9.out)
    have HL9 := Lib.hid (HL8.out.trans (HX9.out.mono HL8.out.size))
    clear HX9 HV8 HW8 G8 S8 P8 HRq8 HL8 HAK
    have al := (Below.refl w9.heap.size w9).alloc (Nat.le_refl _) (.cells #[.int .i64 E6, .int .i64 I6] 50)
    have Qa := Lib.hid (Blk.new w9 50 #[.int .i64 E6, .int .i64 I6])
    have HVa := Lib.hid (HV9.out.below al)
    have HWa := Lib.hid (HW9.out.below al)
    have Ga := Lib.hid (G9.out.later al)
    have Sa := Lib.hid (S9.out.later al)
    have Pa := Lib.hid (P9.out.later al)
    have HLa := Lib.hid (HL9.out.trans (al.mono HL9.out.size))
    clear al HV9 HW9 G9 S9 P9 HL9
    generalize w9.alloc (.cells #[.int .i64 E6, .int .i64 I6] 50) = wa at HVa HWa Ga Sa Pa HLa Qa ⊢
    generalize w9.heap.size = ga at Qa ⊢
    obtain ⟨x0, x1, x2, x3, x4⟩ := (show _ ∧ _ ∧ _ ∧ _ ∧ _ from ⟨Sa.out.cell 0 rfl, Sa.out.cell 1 rfl, Sa.out.cell 2 rfl, Sa.out.cell 3 rfl, Sa.out.cell 4 rfl⟩)
    obtain ⟨y0, y1, y2, y3, y4⟩ := (show _ ∧ _ ∧ _ ∧ _ ∧ _ from ⟨Ga.out.cell 0 rfl, Ga.out.cell 1 rfl, Ga.out.cell 2 rfl, Ga.out.cell 3 rfl, Ga.out.cell 4 rfl⟩)
    obtain ⟨p0, p1⟩ := (show _ ∧ _ from ⟨Pa.out.cell 0 rfl, Pa.out.cell 1 rfl⟩)
    obtain ⟨q0, q1⟩ := (show _ ∧ _ from ⟨Qa.out.cell 0 rfl, Qa.out.cell 1 rfl⟩)
    by_cases hE0 : E6 = 0
    · have qe := eqT hE0
      clear hE0
      go_wp2
      go_ret
      exact ⟨rfl, HLa.out⟩
    · have qe := eqF hE0
      have hT : T6 = s0 := HERR.out hE0
      subst hT
      have HS := Lib.hid (fun W (hW : Below wa.heap.size wa W) => HSO.out ⟨A4, n4, c4, B4, q4, d4, X4, xn4, xc4, Y4, yn4, yc4, t4⟩ ⟨A6, n6, c6, B6, q6, d6, X6, xn6, xc6, Y6, 1, yc6, t6⟩ T6 W _ _ (HWa.out.below hW) (HVa.out.below hW) OK.out)
      unfold BoolRes Sv.val Sv.cells at HS
      dsimp only at HS
      clear hE0
      go_wp2_with (go_at_call 16; refine (HS.out _ (Below.refl _ _)).mono ?_; rintro _ wb ⟨rfl, hbb⟩)
      go_ret
      exact ⟨rfl, HLa.out.trans (hbb.mono HLa.out.size)⟩
  · rw [decide_eq_false hmy] at HMA
    rw [bk_not hmy] at D5
    unfold Sv.val Sv.cells Rq.val at D5
    dsimp only at D5
    clear HDO hmy
    obtain ⟨x0, x1, x2, x3, x4⟩ := (show _ ∧ _ ∧ _ ∧ _ ∧ _ from ⟨G5.out.cell 0 rfl, G5.out.cell 1 rfl, G5.out.cell 2 rfl, G5.out.cell 3 rfl, G5.out.cell 4 rfl⟩)
    obtain ⟨r0, r1, r2, r3, r4, r5, r6⟩ := (show _ ∧ _ ∧ _ ∧ _ ∧ _ ∧ _ ∧ _ from ⟨HRq5.out.cell 0 rfl, HRq5.out.cell 1 rfl, HRq5.out.cell 2 rfl, HRq5.out.cell 3 rfl, HRq5.out.cell 4 rfl, HRq5.out.cell 5 rfl, HRq5.out.cell 6 rfl⟩)
    go_upto_region 5 with (first
      | (go_at_call 13; refine D5.out.mono ?_; rintro _ w6 ⟨V6, rfl, hv6, hb6⟩
         obtain ⟨A6, n6, c6, B6, q6, d6, X6, xn6, xc6, Y6, yn6, yc6, t6⟩ := V6
         dsimp only at hv6 ⊢
         have HV6 := Lib.hid hv6
         have HX6 := Lib.hid hb6
         clear hv6 hb6 x0 x1 x2 x3 x4 r0 r1 r2 r3 r4 r5 r6))
    have HW6 := Lib.hid (HV5.out.below HX6.out)
    have G6 := Lib.hid (G5.out.later HX6.out)
    have HRq6 := Lib.hid (HRq5.out.later HX6.out)
    have HL6 := Lib.hid (HL5.out.trans (HX6.out.mono HL5.out.size))
    clear D5 HX6 HV5 G5 HRq5 HL5
    have al := ((Below.refl w6.heap.size w6).alloc (Nat.le_refl _) (.cells #[.slice A6 n6 c6, .slice B6 q6 d6, .slice X6 xn6 xc6, .slice Y6 yn6 yc6, .int .i64 t6] 34)).alloc (by simp) (.cells #[.int .i64 1, .int .i64 0] 50)
    have S7 := Lib.hid ((Blk.new w6 34 #[.slice A6 n6 c6, .slice B6 q6 d6, .slice X6 xn6 xc6, .slice Y6 yn6 yc6, .int .i64 t6]).more (.cells #[.int .i64 1, .int .i64 0] 50))
    have p7 := Blk.new (w6.alloc (.cells #[.slice A6 n6 c6, .slice B6 q6 d6, .slice X6 xn6 xc6, .slice Y6 yn6 yc6, .int .i64 t6] 34)) 50 #[.int .i64 1, .int .i64 0]
    rw [alloc_size] at p7
    have P7 := Lib.hid p7
    have HV7 := Lib.hid (HV6.out.below al)
    have HW7 := Lib.hid (HW6.out.below al)
    have G7 := Lib.hid (G6.out.later al)
    have HRq7 := Lib.hid (HRq6.out.later al)
    have HL7 := Lib.hid (HL6.out.trans (al.mono HL6.out.size))
    clear al p7 HV6 HW6 G6 HRq6 HL6
    generalize (w6.alloc (.cells #[.slice A6 n6 c6, .slice B6 q6 d6, .slice X6 xn6 xc6, .slice Y6 yn6 yc6, .int .i64 t6] 34)).alloc (.cells #[.int .i64 1, .int .i64 0] 50) = w7 at S7 P7 HV7 HW7 G7 HRq7 HL7 ⊢
    generalize w6.heap.size = g8 at S7 P7 ⊢
    obtain ⟨r0, r1, r2, r3, r4, r5, r6⟩ := (show _ ∧ _ ∧ _ ∧ _ ∧ _ ∧ _ ∧ _ from ⟨HRq7.out.cell 0 rfl, HRq7.out.cell 1 rfl, HRq7.out.cell 2 rfl, HRq7.out.cell 3 rfl, HRq7.out.cell 4 rfl, HRq7.out.cell 5 rfl, HRq7.out.cell 6 rfl⟩)
    go_wp2_with fail
    refine (HMA.out _).mono ?_
    rintro _ w8 ⟨rfl, hb8⟩
    have HV8 := Lib.hid (HV7.out.below hb8)
    have HW8 := Lib.hid (HW7.out.below hb8)
    have G8 := Lib.hid (G7.out.later hb8)
    have S8 := Lib.hid (S7.out.later hb8)
    have P8 := Lib.hid (P7.out.later hb8)
    have HL8 := Lib.hid (HL7.out.trans (hb8.mono HL7.out.size))
    clear hb8 HV7 HW7 G7 S7 P7 HRq7 HL7 HMA r0 r1 r2 r3 r4 r5 r6
    obtain ⟨x0, x1, x2, x3, x4⟩ := (show _ ∧ _ ∧ _ ∧ _ ∧ _ from ⟨S8.out.cell 0 rfl, S8.out.cell 1 rfl, S8.out.cell 2 rfl, S8.out.cell 3 rfl, S8.out.cell 4 rfl⟩)
    obtain ⟨y0, y1, y2, y3, y4⟩ := (show _ ∧ _ ∧ _ ∧ _ ∧ _ from ⟨G8.out.cell 0 rfl, G8.out.cell 1 rfl, G8.out.cell 2 rfl, G8.out.cell 3 rfl, G8.out.cell 4 rfl⟩)
    obtain ⟨p0, p1⟩ := (show _ ∧ _ from ⟨P8.out.cell 0 rfl, P8.out.cell 1 rfl⟩)
    have HS := Lib.hid (HSA.out ⟨A6, n6, c6, B6, q6, d6, X6, xn6, xc6, Y6, yn6, yc6, t6⟩ ⟨A4, n4, c4, B4, q4, d4, X4, xn4, xc4, Y4, yn4, yc4, t4⟩ s0 w8 [] HV8.out HW8.out OK.out (by decide))
    unfold BoolRes Sv.val Sv.cells at HS
    dsimp only at HS
    go_wp2_with (go_at_call 12; refine HS.out.mono ?_; rintro _ wb ⟨rfl, hbb⟩)
    go_ret
    exact ⟨rfl, HL8.out.trans (hbb.mono HL8.out.size)⟩

theorem bankBad_walk (w : World) (v0 : Value) (w0 : BookAt w v0) (r : Rq) (w1 : r.fits) (a2 : Option Addr) (len2 cap2 : Nat) (w2 : IsRecs flags (fun _ => True) w a2 len2 cap2) (r2 : cap2 * 1 ≤ 140737488351232) (hh : HasErr w) :
    Calls Tryz.prog 5 #[v0, r.val, .slice a2 len2 cap2] w fun e w' => e = .returned (.bool true) ∧ Below w.heap.size w w' := by
  obtain ⟨zs, hl, hr, hf, hlc, hmx, _⟩ := recs_list w2
  exact bankBad_core w v0 w0 r a2 len2 cap2 zs hr hl (by omega) hh
end Go.Proofs.YteiljppljlmcbaaGreatDoor
