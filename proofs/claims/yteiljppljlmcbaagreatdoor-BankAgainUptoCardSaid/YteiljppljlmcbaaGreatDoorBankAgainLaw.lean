/-
  The law BankAgain: what is asked for again is told as at first, and changes nothing; the same key with another request is told so.
-/
import Derived.Test.YteiljppljlmcbaaGreatDoorBankAwake
import Derived.Test.YteiljppljlmcbaaGreatDoorBankHist
import Derived.Test.YteiljppljlmcbaaGreatDoorAskSlice
import Derived.Deep.CutRange
namespace Go.Proofs.YteiljppljlmcbaaGreatDoor
open Go Go.RowKit
set_option linter.unusedVariables false

theorem bools_slice : Tryz.prog.underlying 27 = some (.slice (Tryz.prog.elem 27)) := by kernel_rfl
theorem bools_size (W : World) : (sizeOf (Tryz.prog.elem 27)).run Tryz.prog W = .ok 1 W := by kernel_rfl
theorem run_backb (W : World) (A : Option Addr) (n c k : Nat) (hk : k ≤ n) : (Instr.sliceAt 27 (.slice A n c) (some (.int .i64 (k : Int))) none none).run Tryz.prog W = .ok (.slice (if c = k then A else A.map (·.add k)) (n - k) (c - k)) W := by
  rw [run_sliceAt_slice _ _ _ _ _ _ bools_slice, run_slice_l W _ _ _ _ bools_slice _ _ (by omega) (by omega), bools_size]
  simp [Result.andThen, sliced]
theorem flags_drop {w : World} {A : Option Addr} {ls : List Bool} {n c k : Nat} (h : RdS flags w A ls) (hn : ls.length = n) (hc : n ≤ c) (hk : k ≤ n) : RdS flags w (if c = k then A else A.map (·.add k)) (ls.drop k) := fun h0 => by
  rw [List.length_drop] at h0
  obtain ⟨ad, he, hx⟩ := h (by omega)
  rw [if_neg (by omega), he]
  refine ⟨ad.add k, rfl, fun j a hj i u hu => ?_⟩
  rw [List.getElem?_drop] at hj
  have := hx (k + j) a hj i u hu
  rw [show flags.size = 1 from rfl] at this ⊢
  rw [add_add, show k + (j * 1 + i) = (k + j) * 1 + i by omega]
  exact this

theorem sv_no_bool (V : Sv) (i : Nat) (b : Bool) : V.cells[i]? ≠ some (.bool b) := by
  unfold Sv.cells
  match i with
  | 0 | 1 | 2 | 3 | 4 => simp
  | k + 5 => simp
theorem flags_st {w : World} {A : Option Addr} {ls : List Bool} {g : Nat} {t : TypeId} {V0 : Sv} (h : RdS flags w A ls) (hg : Blk w g t V0.cells) (a b x y z : Value) :
    RdS flags (((((w.setCell ⟨g, 0, none⟩ a).setCell ⟨g, 1, none⟩ b).setCell ⟨g, 2, none⟩ x).setCell ⟨g, 3, none⟩ y).setCell ⟨g, 4, none⟩ z) A ls := flags_far h hg (sv_no_bool V0) fun k hk => st_heap w g a b x y z k hk

set_option maxRecDepth 100000 in
set_option maxHeartbeats 2000000 in
theorem bankAgain_core (w : World) (b : Value) (hb : BookAt w b) (a1 : Option Addr) (lz1 cz1 : Nat) (zs : List Pd) (hzl : zs.length = lz1) (hr : RdS paids w a1 zs) (hfit : ∀ (j : Nat) z, zs[j]? = some z → z.fits) (hl : lz1 ≤ 1900000)
    (ak : Option Addr) (lz3 cz3 : Nat) (zk : List Ak) (hkl : zk.length = lz3) (hk : RdS asks w ak zk) (hkf : ∀ (j : Nat) z, zk[j]? = some z → z.fits) (hl3 : lz3 ≤ 1900000)
    (la : Option Addr) (ln lc : Nat) (ls : List Bool) (hls : RdS flags w la ls) (hln : ls.length = ln) (hlc : ln ≤ lc) (hm : lc ≤ 1900000) (hh : HasErr w) :
    Calls Tryz.prog 4 #[b, .slice a1 lz1 cz1, .slice ak lz3 cz3, .slice la ln lc] w fun e w' => e = .returned (.bool true) ∧ Below w.heap.size w w' := by
  have HST := Lib.hid (fun W (hW : Below w.heap.size w W) => state_any hb a1 lz1 cz1 zs hzl 0 (by decide) hl W hW (hr.below hW) hfit)
  have HAW := Lib.hid (fun W (hW : Below w.heap.size w W) => bawake_ok W (hh.below hW))
  have HH := Lib.hid hh
  have HLS := Lib.hid hls
  have HLN := Lib.hid hln
  have HZK := Lib.hid hk
  have HKL := Lib.hid hkl
  have HKF := Lib.hid hkf
  obtain ⟨CA, HA, LA, cl, cc, hl', hc, ll, lc', cs, hs, ls', rfl, h1, h2, h3, h4, h5, h6, h7, h8, h9⟩ := hb.form
  unfold Sv.val Sv.cells at HST
  clear h1 h2 h3 h4 h5 h6 h7 h8 h9 hb hzl hr hfit hk hkl hkf hls hln hh
  go_enter Tryz.func4, Tryz.ntmps4
  go_wp2_with fail
  refine (HAW.out _ ((Below.refl w.heap.size w).alloc (Nat.le_refl _) (.cells #[.slice CA cl cc, .slice HA hl' hc, .slice LA ll lc'] 25))).mono ?_
  rintro _ wa ⟨rfl, hba⟩
  have HBk := Lib.hid ((Blk.new w 25 #[.slice CA cl cc, .slice HA hl' hc, .slice LA ll lc']).later hba)
  have HWA := Lib.hid (((Below.refl w.heap.size w).alloc (Nat.le_refl _) (.cells #[.slice CA cl cc, .slice HA hl' hc, .slice LA ll lc'] 25)).trans (hba.mono (by simp)))
  clear hba HAW
  obtain ⟨b0, b1, b2⟩ := (show _ ∧ _ ∧ _ from ⟨HBk.out.cell 0 rfl, HBk.out.cell 1 rfl, HBk.out.cell 2 rfl⟩)
  go_wp2_with fail
  refine (HST.out _ HWA.out).mono ?_
  rintro _ w1 ⟨V1, s0, rfl, hv1, hmd, hb1⟩
  have HL_0 := Lib.hid (HWA.out.trans (hb1.mono HWA.out.size))
  have OK0 := Lib.hid hmd.ok
  have HV_0 := Lib.hid hv1.sk
  obtain ⟨A1, n1, c1, B1, q1, d1, X1, xn1, xc1, Y1, yn1, yc1, t1⟩ := V1
  dsimp only at HV_0 ⊢
  clear hv1 hb1 hmd HST HWA HBk b0 b1 b2
  have hg : w.heap.size ≤ w1.heap.size := HL_0.out.size
  go_upto_region 4 with fail
  have al := (Below.refl w1.heap.size w1).alloc (Nat.le_refl _) (.cells #[.slice A1 n1 c1, .slice B1 q1 d1, .slice X1 xn1 xc1, .slice Y1 yn1 yc1, .int .i64 t1] 34)
  have nb0 := Blk.new w1 34 #[.slice A1 n1 c1, .slice B1 q1 d1, .slice X1 xn1 xc1, .slice Y1 yn1 yc1, .int .i64 t1]
  have HL_1 := Lib.hid (HL_0.out.trans (al.mono HL_0.out.size))
  have HV_1 := Lib.hid (HV_0.out.below al)
  clear al HL_0 HV_0
  have G_1 := Lib.hid (nb0)
  clear nb0
  generalize w1.alloc (.cells #[.slice A1 n1 c1, .slice B1 q1 d1, .slice X1 xn1 xc1, .slice Y1 yn1 yc1, .int .i64 t1] 34) = w2 at HL_1 HV_1 G_1 ⊢
  generalize w1.heap.size = g at G_1 hg ⊢
  go_wp2
  go_loopw [3, 30] (fun lv i wr => ∃ (k : Nat) (V : Sv) (s : St) (kl : List Kn) (la' : Option Addr) (ln' lc'' : Nat) (ls'' : List Bool), k ≤ lz3 ∧ i = .int .i64 (k : Int) ∧ lv = .slice la' ln' lc'' ∧ Blk wr g 34 V.cells ∧ SkAt wr V s [] kl ∧ Ok s ∧ Hist kl ∧ RdS flags wr la' ls'' ∧ ls''.length = ln' ∧ ln' ≤ lc'' ∧ lc'' ≤ 1900000 ∧ Below w.heap.size w wr) (fun _ i _ => lz3 - (intOf i).toNat)
  case atStart => exact ⟨0, ⟨A1, n1, c1, B1, q1, d1, X1, xn1, xc1, Y1, yn1, yc1, t1⟩, s0, [], la, ln, lc, ls, by omega, rfl, rfl, G_1.out, HV_1.out, OK0.out, Hist.nil, HLS.out.below HL_1.out, HLN.out, hlc, hm, HL_1.out⟩
  case round =>
    obtain ⟨k, V, s, kl, la', ln', lc'', ls'', hk, rfl, rfl, hG, hV, hOK, hHi, hF, hFn, hFc, hFm, hB⟩ := hrel
    obtain ⟨A3, n3, c3, B3, q3, d3, X3, xn3, xc3, Y3, yn3, yc3, t3⟩ := V
    unfold Sv.cells at hG
    dsimp only at hG
    have G_0 := Lib.hid hG
    have HV_0 := Lib.hid hV
    have HL_0 := Lib.hid hB
    have FL_0 := Lib.hid hF
    have OK3 := Lib.hid hOK
    have HI3 := Lib.hid hHi
    have FN := Lib.hid hFn
    clear hG hV hB hF hOK hHi hFn OK0 HV_1 G_1 HL_1
    by_cases hlt : k < lz3
    · obtain ⟨z, hz⟩ : ∃ z, zk[k]? = some z := ⟨_, List.getElem?_eq_getElem (by rw [HKL.out]; exact hlt)⟩
      obtain ⟨ad, rfl, hat⟩ := (HZK.out.below HL_0.out).at_ hz
      obtain ⟨p0, p1, p2, p3, p4, p5, p6⟩ := ask_cells hat
      have HAS := Lib.hid (fun W => ask_any z (HKF.out k z hz) W)
      have hfew := z.few (HKF.out k z hz)
      generalize z.req = r at HAS hfew
      obtain ⟨hh1, hh2, hh3⟩ := bk_again (s := s) (ls := ls'') HI3.out hfew
      have hble := bkO_le s kl r ls''
      have hok1 := bk_ok (kl := kl) (r := r) (ls := ls'') OK3.out
      have HB2 := bk_known (s := (bkO s kl r ls'').T) (ls := ls'') hfew.1 hh2
      have HB3 := bk_known (s := (bkO s kl r ls'').T) (ls := ls'') (Rq.far_may hfew.1) hh3
      generalize hX : bkO s kl r ls'' = X at hh1 hh2 hh3 hble hok1 HB2 HB3
      obtain ⟨T9, K9, E9, I9, N9⟩ := X
      dsimp only at hh1 hh2 hh3 hble hok1 HB2 HB3
      have HLE := Lib.hid hble
      have hx2 := hh1.len
      have HD1 := Lib.hid (fun W (h1 : SkAt W ⟨A3, n3, c3, B3, q3, d3, X3, xn3, xc3, Y3, yn3, yc3, t3⟩ s [] kl) (h2 : Below w.heap.size w W) (h3 : RdS flags W la' ls'') => bdo_any ⟨A3, n3, c3, B3, q3, d3, X3, xn3, xc3, Y3, yn3, yc3, t3⟩ s [] kl r W la' ln' lc'' ls'' h1 ⟨OK3.out.right, OK3.out.few, by decide, by have := HI3.out.len; omega⟩ (HH.out.below h2) h3 FN.out (by omega) (by have := HI3.out.len; omega))
      have HD2 := Lib.hid (fun W V (h1 : SkAt W V T9 [] K9) (h2 : Below w.heap.size w W) (h3 : RdS flags W la' ls'') => bdo_any V T9 [] K9 r W la' ln' lc'' ls'' h1 ⟨hok1.right, hok1.few, by decide, by omega⟩ (HH.out.below h2) h3 FN.out (by omega) (by omega))
      have HD3 := Lib.hid (fun W V (h1 : SkAt W V T9 [] K9) (h2 : Below w.heap.size w W) (h3 : RdS flags W la' ls'') => bdo_any V T9 [] K9 r.far W la' ln' lc'' ls'' h1 ⟨hok1.right, hok1.few, by decide, by omega⟩ (HH.out.below h2) h3 FN.out (by omega) (by omega))
      have HSA := Lib.hid (fun W V V' (h1 : SkAt W V T9 [] K9) (h2 : SkAt W V' T9 [] K9) => sk_same V V' T9 [] [] K9 W h1 h2 (right_len hok1.right).2 hok1.few (by omega))
      unfold BkRes at HD1 HD2 HD3
      rw [hX] at HD1
      rw [HB2] at HD2
      rw [HB3] at HD3
      have hbb := hfew.2.1
      have OKX := Lib.hid hok1
      have HIX := Lib.hid hh1
      obtain ⟨rk, ro, ra, rb, rm, rl, ru⟩ := r
      obtain ⟨key, op, qa, qb, amt, legs, til⟩ := z
      unfold AskRes Ak.val Rq.val at HAS
      unfold Sv.val Sv.cells Rq.val at HD1
      unfold Sv.val Sv.cells Rq.val at HD2
      unfold Rq.far Sv.val Sv.cells Rq.val at HD3
      unfold BoolRes Sv.val Sv.cells at HSA
      dsimp only at p0 p1 p2 p3 p4 p5 p6 HAS HD1 HD2 HD3 HSA hbb
      have hwb : wrap64 (rb + 1000) = rb + 1000 := w64 (by omega) (by omega)
      clear hz hat hX hh1 hh2 hh3 hble hok1 HB2 HB3 hfew
      go_upto_region 7 with fail
      have hgk : g < wr.heap.size := G_0.out.lt
      have al := (Below.refl wr.heap.size wr).alloc (Nat.le_refl _) (.cells #[.int .u8 (key : Int), .int .u8 (op : Int), .int .u8 (qa : Int), .int .u8 (qb : Int), .int .u16 (amt : Int), .int .u8 (legs : Int), .int .u8 (til : Int)] 39)
      have nb0 := Blk.new wr 39 #[.int .u8 (key : Int), .int .u8 (op : Int), .int .u8 (qa : Int), .int .u8 (qb : Int), .int .u16 (amt : Int), .int .u8 (legs : Int), .int .u8 (til : Int)]
      have HL_1 := Lib.hid (HL_0.out.trans (al.mono HL_0.out.size))
      have HV_1 := Lib.hid (HV_0.out.below al)
      have G_1 := Lib.hid (G_0.out.later al)
      have FL_1 := Lib.hid (FL_0.out.below al)
      clear al HL_0 HV_0 G_0 FL_0
      have Q_1 := Lib.hid (nb0)
      clear nb0
      generalize wr.alloc (.cells #[.int .u8 (key : Int), .int .u8 (op : Int), .int .u8 (qa : Int), .int .u8 (qb : Int), .int .u16 (amt : Int), .int .u8 (legs : Int), .int .u8 (til : Int)] 39) = wb at HL_1 HV_1 G_1 FL_1 Q_1 ⊢
      clear p0 p1 p2 p3 p4 p5 p6
      generalize wr.heap.size = gq at Q_1 hgk ⊢
      obtain ⟨r0, r1, r2, r3, r4, r5, r6⟩ := (show _ ∧ _ ∧ _ ∧ _ ∧ _ ∧ _ ∧ _ from ⟨Q_1.out.cell 0 rfl, Q_1.out.cell 1 rfl, Q_1.out.cell 2 rfl, Q_1.out.cell 3 rfl, Q_1.out.cell 4 rfl, Q_1.out.cell 5 rfl, Q_1.out.cell 6 rfl⟩)
      go_upto_region 8 with (first
        | (go_at_call 10; refine (HAS.out _).mono ?_; rintro _ wc ⟨rfl, hbc⟩
           have HXc := Lib.hid hbc
           clear hbc r0 r1 r2 r3 r4 r5 r6))
      clear Q_1
      have HL_2 := Lib.hid (HL_1.out.trans (HXc.out.mono HL_1.out.size))
      have HV_2 := Lib.hid (HV_1.out.below HXc.out)
      have G_2 := Lib.hid (G_1.out.later HXc.out)
      have FL_2 := Lib.hid (FL_1.out.below HXc.out)
      clear HL_1 HV_1 G_1 FL_1
      have hgc : g < wc.heap.size := G_2.out.lt
      have al := (Below.refl wc.heap.size wc).alloc (Nat.le_refl _) (.cells (rqC rk ro ra rb rm rl ru) 42)
      have nb0 := Blk.new wc 42 (rqC rk ro ra rb rm rl ru)
      have HL_3 := Lib.hid (HL_2.out.trans (al.mono HL_2.out.size))
      have HV_3 := Lib.hid (HV_2.out.below al)
      have G_3 := Lib.hid (G_2.out.later al)
      have FL_3 := Lib.hid (FL_2.out.below al)
      clear al HL_2 HV_2 G_2 FL_2
      have R_3 := Lib.hid (nb0)
      clear nb0
      generalize wc.alloc (.cells (rqC rk ro ra rb rm rl ru) 42) = wd at HL_3 HV_3 G_3 FL_3 R_3 ⊢
      clear HXc HAS
      generalize wc.heap.size = gr at R_3 hgc ⊢
      have D1 := Lib.hid (HD1.out wd HV_3.out HL_3.out FL_3.out)
      obtain ⟨x0, x1, x2, x3, x4⟩ := (show _ ∧ _ ∧ _ ∧ _ ∧ _ from ⟨G_3.out.cell 0 rfl, G_3.out.cell 1 rfl, G_3.out.cell 2 rfl, G_3.out.cell 3 rfl, G_3.out.cell 4 rfl⟩)
      obtain ⟨r0, r1, r2, r3, r4, r5, r6⟩ := (show _ ∧ _ ∧ _ ∧ _ ∧ _ ∧ _ ∧ _ from ⟨R_3.out.cell 0 rfl, R_3.out.cell 1 rfl, R_3.out.cell 2 rfl, R_3.out.cell 3 rfl, R_3.out.cell 4 rfl, R_3.out.cell 5 rfl, R_3.out.cell 6 rfl⟩)
      go_upto_region 9 with (first
        | (go_at_call 13; refine D1.out.mono ?_; rintro _ we ⟨V, rfl, hv, hb⟩
           obtain ⟨A4, n4, c4, B4, q4, d4, X4, xn4, xc4, Y4, yn4, yc4, t4⟩ := V
           dsimp only at hv ⊢
           have HVa := Lib.hid hv
           have HXe := Lib.hid hb
           clear hv hb x0 x1 x2 x3 x4 r0 r1 r2 r3 r4 r5 r6))
      have HL_4 := Lib.hid (HL_3.out.trans (HXe.out.mono HL_3.out.size))
      have HV_4 := Lib.hid (HV_3.out.below HXe.out)
      have G_4 := Lib.hid (G_3.out.later HXe.out)
      have FL_4 := Lib.hid (FL_3.out.below HXe.out)
      have R_4 := Lib.hid (R_3.out.later HXe.out)
      clear HL_3 HV_3 G_3 FL_3 R_3
      have HP_4 := Lib.hid (HVa.out)
      clear HVa HXe D1 HD1
      have hge : g < we.heap.size := G_4.out.lt
      have hre : gr < we.heap.size := R_4.out.lt
      have al := (Below.refl we.heap.size we).alloc (Nat.le_refl _) (.cells #[.slice A4 n4 c4, .slice B4 q4 d4, .slice X4 xn4 xc4, .slice Y4 yn4 yc4, .int .i64 t4] 34)
      replace al := al.alloc (by simp; try omega) (.cells #[.int .i64 E9, .int .i64 I9] 50)
      have nb0 := (Blk.new we 34 #[.slice A4 n4 c4, .slice B4 q4 d4, .slice X4 xn4 xc4, .slice Y4 yn4 yc4, .int .i64 t4]).more (.cells #[.int .i64 E9, .int .i64 I9] 50)
      have nb1 := Blk.new (we.alloc (.cells #[.slice A4 n4 c4, .slice B4 q4 d4, .slice X4 xn4 xc4, .slice Y4 yn4 yc4, .int .i64 t4] 34)) 50 #[.int .i64 E9, .int .i64 I9]
      rw [alloc_size] at nb1
      have HL_5 := Lib.hid (HL_4.out.trans (al.mono HL_4.out.size))
      have HV_5 := Lib.hid (HV_4.out.below al)
      have G_5 := Lib.hid (G_4.out.later al)
      have FL_5 := Lib.hid (FL_4.out.below al)
      have R_5 := Lib.hid (R_4.out.later al)
      have HP_5 := Lib.hid (HP_4.out.below al)
      clear al HL_4 HV_4 G_4 FL_4 R_4 HP_4
      have S1_5 := Lib.hid (nb0)
      have P1_5 := Lib.hid (nb1)
      clear nb0 nb1
      generalize (we.alloc (.cells #[.slice A4 n4 c4, .slice B4 q4 d4, .slice X4 xn4 xc4, .slice Y4 yn4 yc4, .int .i64 t4] 34)).alloc (.cells #[.int .i64 E9, .int .i64 I9] 50) = wf at HL_5 HV_5 G_5 FL_5 R_5 HP_5 S1_5 P1_5 ⊢
      generalize we.heap.size = g13 at S1_5 P1_5 hge hre ⊢
      have D2 := Lib.hid (HD2.out wf ⟨A4, n4, c4, B4, q4, d4, X4, xn4, xc4, Y4, yn4, yc4, t4⟩ HP_5.out HL_5.out FL_5.out)
      obtain ⟨x0, x1, x2, x3, x4⟩ := (show _ ∧ _ ∧ _ ∧ _ ∧ _ from ⟨S1_5.out.cell 0 rfl, S1_5.out.cell 1 rfl, S1_5.out.cell 2 rfl, S1_5.out.cell 3 rfl, S1_5.out.cell 4 rfl⟩)
      obtain ⟨r0, r1, r2, r3, r4, r5, r6⟩ := (show _ ∧ _ ∧ _ ∧ _ ∧ _ ∧ _ ∧ _ from ⟨R_5.out.cell 0 rfl, R_5.out.cell 1 rfl, R_5.out.cell 2 rfl, R_5.out.cell 3 rfl, R_5.out.cell 4 rfl, R_5.out.cell 5 rfl, R_5.out.cell 6 rfl⟩)
      go_upto_region 10 with (first
        | (go_at_call 13; refine D2.out.mono ?_; rintro _ wg ⟨V, rfl, hv, hb⟩
           obtain ⟨A5, n5, c5, B5, q5, d5, X5, xn5, xc5, Y5, yn5, yc5, t5⟩ := V
           dsimp only at hv ⊢
           have HVa := Lib.hid hv
           have HXg := Lib.hid hb
           clear hv hb x0 x1 x2 x3 x4 r0 r1 r2 r3 r4 r5 r6))
      have HL_6 := Lib.hid (HL_5.out.trans (HXg.out.mono HL_5.out.size))
      have HV_6 := Lib.hid (HV_5.out.below HXg.out)
      have G_6 := Lib.hid (G_5.out.later HXg.out)
      have FL_6 := Lib.hid (FL_5.out.below HXg.out)
      have R_6 := Lib.hid (R_5.out.later HXg.out)
      have HP_6 := Lib.hid (HP_5.out.below HXg.out)
      have S1_6 := Lib.hid (S1_5.out.later HXg.out)
      have P1_6 := Lib.hid (P1_5.out.later HXg.out)
      clear HL_5 HV_5 G_5 FL_5 R_5 HP_5 S1_5 P1_5
      have HQ_6 := Lib.hid (HVa.out)
      clear HVa HXg D2 HD2
      have hgg : g < wg.heap.size := G_6.out.lt
      have hrg : gr < wg.heap.size := R_6.out.lt
      have hsg : g13 + 1 < wg.heap.size := P1_6.out.lt
      have al := (Below.refl wg.heap.size wg).alloc (Nat.le_refl _) (.cells #[.slice A5 n5 c5, .slice B5 q5 d5, .slice X5 xn5 xc5, .slice Y5 yn5 yc5, .int .i64 t5] 34)
      replace al := al.alloc (by simp; try omega) (.cells #[.int .i64 E9, .int .i64 I9] 50)
      have nb0 := (Blk.new wg 34 #[.slice A5 n5 c5, .slice B5 q5 d5, .slice X5 xn5 xc5, .slice Y5 yn5 yc5, .int .i64 t5]).more (.cells #[.int .i64 E9, .int .i64 I9] 50)
      have nb1 := Blk.new (wg.alloc (.cells #[.slice A5 n5 c5, .slice B5 q5 d5, .slice X5 xn5 xc5, .slice Y5 yn5 yc5, .int .i64 t5] 34)) 50 #[.int .i64 E9, .int .i64 I9]
      rw [alloc_size] at nb1
      have HL_7 := Lib.hid (HL_6.out.trans (al.mono HL_6.out.size))
      have HV_7 := Lib.hid (HV_6.out.below al)
      have G_7 := Lib.hid (G_6.out.later al)
      have FL_7 := Lib.hid (FL_6.out.below al)
      have R_7 := Lib.hid (R_6.out.later al)
      have HP_7 := Lib.hid (HP_6.out.below al)
      have S1_7 := Lib.hid (S1_6.out.later al)
      have P1_7 := Lib.hid (P1_6.out.later al)
      have HQ_7 := Lib.hid (HQ_6.out.below al)
      clear al HL_6 HV_6 G_6 FL_6 R_6 HP_6 S1_6 P1_6 HQ_6
      have S2_7 := Lib.hid (nb0)
      have P2_7 := Lib.hid (nb1)
      clear nb0 nb1
      generalize (wg.alloc (.cells #[.slice A5 n5 c5, .slice B5 q5 d5, .slice X5 xn5 xc5, .slice Y5 yn5 yc5, .int .i64 t5] 34)).alloc (.cells #[.int .i64 E9, .int .i64 I9] 50) = wh at HL_7 HV_7 G_7 FL_7 R_7 HP_7 S1_7 P1_7 HQ_7 S2_7 P2_7 ⊢
      generalize wg.heap.size = g16 at S2_7 P2_7 hgg hrg hsg ⊢
      obtain ⟨r0, r1, r2, r3, r4, r5, r6⟩ := (show _ ∧ _ ∧ _ ∧ _ ∧ _ ∧ _ ∧ _ from ⟨R_7.out.cell 0 rfl, R_7.out.cell 1 rfl, R_7.out.cell 2 rfl, R_7.out.cell 3 rfl, R_7.out.cell 4 rfl, R_7.out.cell 5 rfl, R_7.out.cell 6 rfl⟩)
      go_upto_region 12 with fail
      have hgh : g < wh.heap.size := G_7.out.lt
      have hsh : g16 + 1 < wh.heap.size := P2_7.out.lt
      have al := (Below.refl wh.heap.size wh).alloc (Nat.le_refl _) (.cells (rqC rk ro ra (rb + 1000) rm rl ru) 42)
      have nb0 := Blk.new wh 42 (rqC rk ro ra (rb + 1000) rm rl ru)
      have HL_8 := Lib.hid (HL_7.out.trans (al.mono HL_7.out.size))
      have HV_8 := Lib.hid (HV_7.out.below al)
      have G_8 := Lib.hid (G_7.out.later al)
      have FL_8 := Lib.hid (FL_7.out.below al)
      have R_8 := Lib.hid (R_7.out.later al)
      have HP_8 := Lib.hid (HP_7.out.below al)
      have S1_8 := Lib.hid (S1_7.out.later al)
      have P1_8 := Lib.hid (P1_7.out.later al)
      have HQ_8 := Lib.hid (HQ_7.out.below al)
      have S2_8 := Lib.hid (S2_7.out.later al)
      have P2_8 := Lib.hid (P2_7.out.later al)
      clear al HL_7 HV_7 G_7 FL_7 R_7 HP_7 S1_7 P1_7 HQ_7 S2_7 P2_7
      have Rf_8 := Lib.hid (nb0)
      clear nb0
      generalize wh.alloc (.cells (rqC rk ro ra (rb + 1000) rm rl ru) 42) = wi at HL_8 HV_8 G_8 FL_8 R_8 HP_8 S1_8 P1_8 HQ_8 S2_8 P2_8 Rf_8 ⊢
      clear r0 r1 r2 r3 r4 r5 r6
      generalize wh.heap.size = g19 at Rf_8 hgh hsh ⊢
      have D3 := Lib.hid (HD3.out wi ⟨A4, n4, c4, B4, q4, d4, X4, xn4, xc4, Y4, yn4, yc4, t4⟩ HP_8.out HL_8.out FL_8.out)
      obtain ⟨x0, x1, x2, x3, x4⟩ := (show _ ∧ _ ∧ _ ∧ _ ∧ _ from ⟨S1_8.out.cell 0 rfl, S1_8.out.cell 1 rfl, S1_8.out.cell 2 rfl, S1_8.out.cell 3 rfl, S1_8.out.cell 4 rfl⟩)
      obtain ⟨r0, r1, r2, r3, r4, r5, r6⟩ := (show _ ∧ _ ∧ _ ∧ _ ∧ _ ∧ _ ∧ _ from ⟨Rf_8.out.cell 0 rfl, Rf_8.out.cell 1 rfl, Rf_8.out.cell 2 rfl, Rf_8.out.cell 3 rfl, Rf_8.out.cell 4 rfl, Rf_8.out.cell 5 rfl, Rf_8.out.cell 6 rfl⟩)
      go_upto_region 13 with (first
        | (go_at_call 13; refine D3.out.mono ?_; rintro _ wj ⟨V, rfl, hv, hb⟩
           obtain ⟨A6, n6, c6, B6, q6, d6, X6, xn6, xc6, Y6, yn6, yc6, t6⟩ := V
           dsimp only at hv ⊢
           have HVa := Lib.hid hv
           have HXj := Lib.hid hb
           clear hv hb x0 x1 x2 x3 x4 r0 r1 r2 r3 r4 r5 r6))
      have HL_9 := Lib.hid (HL_8.out.trans (HXj.out.mono HL_8.out.size))
      have HV_9 := Lib.hid (HV_8.out.below HXj.out)
      have G_9 := Lib.hid (G_8.out.later HXj.out)
      have FL_9 := Lib.hid (FL_8.out.below HXj.out)
      have R_9 := Lib.hid (R_8.out.later HXj.out)
      have HP_9 := Lib.hid (HP_8.out.below HXj.out)
      have S1_9 := Lib.hid (S1_8.out.later HXj.out)
      have P1_9 := Lib.hid (P1_8.out.later HXj.out)
      have HQ_9 := Lib.hid (HQ_8.out.below HXj.out)
      have S2_9 := Lib.hid (S2_8.out.later HXj.out)
      have P2_9 := Lib.hid (P2_8.out.later HXj.out)
      have Rf_9 := Lib.hid (Rf_8.out.later HXj.out)
      clear HL_8 HV_8 G_8 FL_8 R_8 HP_8 S1_8 P1_8 HQ_8 S2_8 P2_8 Rf_8
      have HZ_9 := Lib.hid (HVa.out)
      clear HVa HXj D3 HD3
      have hgj : g < wj.heap.size := G_9.out.lt
      have hsj : g13 + 1 < wj.heap.size := P1_9.out.lt
      clear R_9 Rf_9
      have al := (Below.refl wj.heap.size wj).alloc (Nat.le_refl _) (.cells #[.slice A6 n6 c6, .slice B6 q6 d6, .slice X6 xn6 xc6, .slice Y6 yn6 yc6, .int .i64 t6] 34)
      replace al := al.alloc (by simp; try omega) (.cells #[.int .i64 5, .int .i64 0] 50)
      have nb0 := (Blk.new wj 34 #[.slice A6 n6 c6, .slice B6 q6 d6, .slice X6 xn6 xc6, .slice Y6 yn6 yc6, .int .i64 t6]).more (.cells #[.int .i64 5, .int .i64 0] 50)
      have nb1 := Blk.new (wj.alloc (.cells #[.slice A6 n6 c6, .slice B6 q6 d6, .slice X6 xn6 xc6, .slice Y6 yn6 yc6, .int .i64 t6] 34)) 50 #[.int .i64 5, .int .i64 0]
      rw [alloc_size] at nb1
      have HL_10 := Lib.hid (HL_9.out.trans (al.mono HL_9.out.size))
      have HV_10 := Lib.hid (HV_9.out.below al)
      have G_10 := Lib.hid (G_9.out.later al)
      have FL_10 := Lib.hid (FL_9.out.below al)
      have HP_10 := Lib.hid (HP_9.out.below al)
      have S1_10 := Lib.hid (S1_9.out.later al)
      have P1_10 := Lib.hid (P1_9.out.later al)
      have HQ_10 := Lib.hid (HQ_9.out.below al)
      have S2_10 := Lib.hid (S2_9.out.later al)
      have P2_10 := Lib.hid (P2_9.out.later al)
      have HZ_10 := Lib.hid (HZ_9.out.below al)
      clear al HL_9 HV_9 G_9 FL_9 HP_9 S1_9 P1_9 HQ_9 S2_9 P2_9 HZ_9
      have S3_10 := Lib.hid (nb0)
      have P3_10 := Lib.hid (nb1)
      clear nb0 nb1
      generalize (wj.alloc (.cells #[.slice A6 n6 c6, .slice B6 q6 d6, .slice X6 xn6 xc6, .slice Y6 yn6 yc6, .int .i64 t6] 34)).alloc (.cells #[.int .i64 5, .int .i64 0] 50) = wk at HL_10 HV_10 G_10 FL_10 HP_10 S1_10 P1_10 HQ_10 S2_10 P2_10 HZ_10 S3_10 P3_10 ⊢
      generalize wj.heap.size = g20 at S3_10 P3_10 hgj hsj ⊢
      obtain ⟨p0, p1⟩ := (show _ ∧ _ from ⟨P1_10.out.cell 0 rfl, P1_10.out.cell 1 rfl⟩)
      obtain ⟨q0, q1⟩ := (show _ ∧ _ from ⟨P2_10.out.cell 0 rfl, P2_10.out.cell 1 rfl⟩)
      obtain ⟨x0, x1, x2, x3, x4⟩ := (show _ ∧ _ ∧ _ ∧ _ ∧ _ from ⟨S1_10.out.cell 0 rfl, S1_10.out.cell 1 rfl, S1_10.out.cell 2 rfl, S1_10.out.cell 3 rfl, S1_10.out.cell 4 rfl⟩)
      obtain ⟨y0, y1, y2, y3, y4⟩ := (show _ ∧ _ ∧ _ ∧ _ ∧ _ from ⟨S2_10.out.cell 0 rfl, S2_10.out.cell 1 rfl, S2_10.out.cell 2 rfl, S2_10.out.cell 3 rfl, S2_10.out.cell 4 rfl⟩)
      have HS1 := Lib.hid (HSA.out wk ⟨A4, n4, c4, B4, q4, d4, X4, xn4, xc4, Y4, yn4, yc4, t4⟩ ⟨A5, n5, c5, B5, q5, d5, X5, xn5, xc5, Y5, yn5, yc5, t5⟩ HP_10.out HQ_10.out)
      dsimp only at HS1
      go_wp2_with fail
      refine HS1.out.mono ?_
      rintro _ wl ⟨rfl, hbl⟩
      clear p0 p1 q0 q1 x0 x1 x2 x3 x4 y0 y1 y2 y3 y4 HS1
      have HL_11 := Lib.hid (HL_10.out.trans (hbl.mono HL_10.out.size))
      have HV_11 := Lib.hid (HV_10.out.below hbl)
      have G_11 := Lib.hid (G_10.out.later hbl)
      have FL_11 := Lib.hid (FL_10.out.below hbl)
      have HP_11 := Lib.hid (HP_10.out.below hbl)
      have S1_11 := Lib.hid (S1_10.out.later hbl)
      have P1_11 := Lib.hid (P1_10.out.later hbl)
      have HQ_11 := Lib.hid (HQ_10.out.below hbl)
      have S2_11 := Lib.hid (S2_10.out.later hbl)
      have P2_11 := Lib.hid (P2_10.out.later hbl)
      have HZ_11 := Lib.hid (HZ_10.out.below hbl)
      have S3_11 := Lib.hid (S3_10.out.later hbl)
      have P3_11 := Lib.hid (P3_10.out.later hbl)
      clear HL_10 HV_10 G_10 FL_10 HP_10 S1_10 P1_10 HQ_10 S2_10 P2_10 HZ_10 S3_10 P3_10
      clear hbl
      obtain ⟨x0, x1, x2, x3, x4⟩ := (show _ ∧ _ ∧ _ ∧ _ ∧ _ from ⟨S1_11.out.cell 0 rfl, S1_11.out.cell 1 rfl, S1_11.out.cell 2 rfl, S1_11.out.cell 3 rfl, S1_11.out.cell 4 rfl⟩)
      obtain ⟨y0, y1, y2, y3, y4⟩ := (show _ ∧ _ ∧ _ ∧ _ ∧ _ from ⟨S3_11.out.cell 0 rfl, S3_11.out.cell 1 rfl, S3_11.out.cell 2 rfl, S3_11.out.cell 3 rfl, S3_11.out.cell 4 rfl⟩)
      have p0 := P3_11.out.cell 0 rfl
      have HS2 := Lib.hid (HSA.out wl ⟨A4, n4, c4, B4, q4, d4, X4, xn4, xc4, Y4, yn4, yc4, t4⟩ ⟨A6, n6, c6, B6, q6, d6, X6, xn6, xc6, Y6, yn6, yc6, t6⟩ HP_11.out HZ_11.out)
      dsimp only at HS2
      go_wp2_with fail
      refine HS2.out.mono ?_
      rintro _ wm ⟨rfl, hbm⟩
      clear p0 x0 x1 x2 x3 x4 y0 y1 y2 y3 y4 HS2
      have HL_12 := Lib.hid (HL_11.out.trans (hbm.mono HL_11.out.size))
      have HV_12 := Lib.hid (HV_11.out.below hbm)
      have G_12 := Lib.hid (G_11.out.later hbm)
      have FL_12 := Lib.hid (FL_11.out.below hbm)
      have HP_12 := Lib.hid (HP_11.out.below hbm)
      have S1_12 := Lib.hid (S1_11.out.later hbm)
      have P1_12 := Lib.hid (P1_11.out.later hbm)
      have HQ_12 := Lib.hid (HQ_11.out.below hbm)
      have S2_12 := Lib.hid (S2_11.out.later hbm)
      have P2_12 := Lib.hid (P2_11.out.later hbm)
      have HZ_12 := Lib.hid (HZ_11.out.below hbm)
      have S3_12 := Lib.hid (S3_11.out.later hbm)
      have P3_12 := Lib.hid (P3_11.out.later hbm)
      clear HL_11 HV_11 G_11 FL_11 HP_11 S1_11 P1_11 HQ_11 S2_11 P2_11 HZ_11 S3_11 P3_11
      clear hbm
      go_upto_region 15 with fail
      have hgs : g ≠ g13 := by omega
      have hbk := fun W' => run_backb W' la' ln' lc'' N9 (by have := HLE.out; have := FN.out; omega)
      refine wp_region_held_drew (S := fun w' => Blk w' g13 34 #[.slice A4 n4 c4, .slice B4 q4 d4, .slice X4 xn4 xc4, .slice Y4 yn4 yc4, .int .i64 t4]) (by kernel_rfl) S1_12.out.drew (fun hHeld => ?_)
      have hbd : Below wm.heap.size wm wm.drew := (Below.refl _ _).drew
      have HL_13 := Lib.hid (HL_12.out.trans (hbd.mono HL_12.out.size))
      have HV_13 := Lib.hid (HV_12.out.below hbd)
      have G_13 := Lib.hid (G_12.out.later hbd)
      have FL_13 := Lib.hid (FL_12.out.below hbd)
      have HP_13 := Lib.hid (HP_12.out.below hbd)
      have S1_13 := Lib.hid (S1_12.out.later hbd)
      have P1_13 := Lib.hid (P1_12.out.later hbd)
      have HQ_13 := Lib.hid (HQ_12.out.below hbd)
      have S2_13 := Lib.hid (S2_12.out.later hbd)
      have P2_13 := Lib.hid (P2_12.out.later hbd)
      have HZ_13 := Lib.hid (HZ_12.out.below hbd)
      have S3_13 := Lib.hid (S3_12.out.later hbd)
      have P3_13 := Lib.hid (P3_12.out.later hbd)
      clear HL_12 HV_12 G_12 FL_12 HP_12 S1_12 P1_12 HQ_12 S2_12 P2_12 HZ_12 S3_12 P3_12
      clear hbd
      generalize wm.drew = wn at hHeld HL_13 HV_13 G_13 FL_13 HP_13 S1_13 P1_13 HQ_13 S2_13 P2_13 HZ_13 S3_13 P3_13 ⊢
      refine take_at 0 93 (v := ?_) rfl rfl (by kernel_rfl) (by kernel_rfl) (by kernel_rfl) (fun _ _ _ h => h) (Or.inl ⟨by rfl, ?_⟩) (by assumption) ?_
      rotate_left
      · intro w' hSw
        have hSw' := hSw
        (try dsimp only at hSw')
        obtain ⟨k0, k1, k2, k3, k4⟩ := (show _ ∧ _ ∧ _ ∧ _ ∧ _ from ⟨hSw'.cell 0 rfl, hSw'.cell 1 rfl, hSw'.cell 2 rfl, hSw'.cell 3 rfl, hSw'.cell 4 rfl⟩)
        go_simp
        (try with_reducible rfl)
      (try simp only [Act.put]); (try simp only [List.setIfInBounds_toArray]); (try simp only [List.set_cons_succ]); (try simp only [List.set_cons_zero])
      refine take_at 1 94 (v := ?_) rfl rfl (by kernel_rfl) (by kernel_rfl) (by kernel_rfl) (fun _ _ _ h => h) (Or.inl ⟨by rfl, ?_⟩) (by assumption) ?_
      rotate_left
      · intro w' hSw
        go_simp
        (try with_reducible rfl)
      (try simp only [Act.put]); (try simp only [List.setIfInBounds_toArray]); (try simp only [List.set_cons_succ]); (try simp only [List.set_cons_zero])
      refine take_at 2 95 (v := ?_) rfl rfl (by kernel_rfl) (by kernel_rfl) (by kernel_rfl) (fun _ _ _ h => h) (Or.inl ⟨by rfl, ?_⟩) (by assumption) ?_
      rotate_left
      · intro w' hSw
        go_simp
        (try with_reducible rfl)
      (try simp only [Act.put]); (try simp only [List.setIfInBounds_toArray]); (try simp only [List.set_cons_succ]); (try simp only [List.set_cons_zero])
      refine take_at 3 96 (v := ?_) rfl rfl (by kernel_rfl) (by kernel_rfl) (by kernel_rfl) (fun _ _ _ h => h) (Or.inl ⟨by rfl, ?_⟩) (by assumption) ?_
      rotate_left
      · intro w' hSw
        go_simp
        (try with_reducible rfl)
      (try simp only [Act.put]); (try simp only [List.setIfInBounds_toArray]); (try simp only [List.set_cons_succ]); (try simp only [List.set_cons_zero])
      obtain ⟨y0, y1, y2, y3, y4⟩ := (show _ ∧ _ ∧ _ ∧ _ ∧ _ from ⟨G_13.out.cell 0 rfl, G_13.out.cell 1 rfl, G_13.out.cell 2 rfl, G_13.out.cell 3 rfl, G_13.out.cell 4 rfl⟩)
      obtain ⟨f0, f1, f2, f3, f4⟩ := (show _ ∧ _ ∧ _ ∧ _ ∧ _ from ⟨G_13.out.loose 0, G_13.out.loose 1, G_13.out.loose 2, G_13.out.loose 3, G_13.out.loose 4⟩)
      refine wpAnyH_ready (rs := [4]) (by kernel_rfl) (by simp) ?_
      refine AllReadyH.cons (i := 4) rfl (fun K0 hK => ?_) AllReadyH.nil
      go_simp
      refine hK.out _ (((((wn.setCell ⟨g, 0, none⟩ (.slice A4 n4 c4)).setCell ⟨g, 1, none⟩ (.slice B4 q4 d4)).setCell ⟨g, 2, none⟩ (.slice X4 xn4 xc4)).setCell ⟨g, 3, none⟩ (.slice Y4 yn4 yc4)).setCell ⟨g, 4, none⟩ (.int .i64 t4)) (st_other S1_13.out hgs (.slice A4 n4 c4) (.slice B4 q4 d4) (.slice X4 xn4 xc4) (.slice Y4 yn4 yc4) (.int .i64 t4)) (fun hHeld => ?_)
      clear hK K0
      (try simp only [Act.put]); (try simp only [List.setIfInBounds_toArray]); (try simp only [List.set_cons_succ]); (try simp only [List.set_cons_zero])
      refine take_at 5 3 (v := ?_) rfl rfl (by kernel_rfl) (by kernel_rfl) (by kernel_rfl) (fun _ _ _ h => h) (Or.inl ⟨by rfl, ?_⟩) (by assumption) ?_
      rotate_left
      · intro w' hSw
        go_simp
        (try with_reducible rfl)
      (try simp only [Act.put]); (try simp only [List.setIfInBounds_toArray]); (try simp only [List.set_cons_succ]); (try simp only [List.set_cons_zero])
      refine wpAnyH_done (by kernel_rfl) ?_ _
      go_wp2
      go_roundw
      · exact ⟨k + 1, ⟨A4, n4, c4, B4, q4, d4, X4, xn4, xc4, Y4, yn4, yc4, t4⟩, T9, K9, _, _, _, ls''.drop N9, by omega, by first | rfl | (congr 1; omega), rfl, st_put G_13.out rfl (.slice A4 n4 c4) (.slice B4 q4 d4) (.slice X4 xn4 xc4) (.slice Y4 yn4 yc4) (.int .i64 t4), sk_put (V0 := ⟨A3, n3, c3, B3, q3, d3, X3, xn3, xc3, Y3, yn3, yc3, t3⟩) HP_13.out G_13.out (.slice A4 n4 c4) (.slice B4 q4 d4) (.slice X4 xn4 xc4) (.slice Y4 yn4 yc4) (.int .i64 t4), OKX.out, HIX.out, flags_st (V0 := ⟨A3, n3, c3, B3, q3, d3, X3, xn3, xc3, Y3, yn3, yc3, t3⟩) (flags_drop FL_13.out FN.out hFc (by have := HLE.out; have := FN.out; omega)) G_13.out (.slice A4 n4 c4) (.slice B4 q4 d4) (.slice X4 xn4 xc4) (.slice Y4 yn4 yc4) (.int .i64 t4), by rw [List.length_drop, FN.out], by omega, by omega, st_below HL_13.out hg (.slice A4 n4 c4) (.slice B4 q4 d4) (.slice X4 xn4 xc4) (.slice Y4 yn4 yc4) (.int .i64 t4)⟩
      · simp [intOf]; omega
    · obtain rfl : k = lz3 := by omega
      go_wp2
      go_ret
      exact ⟨rfl, HL_0.out⟩

theorem bankAgain_walk (w : World) (v0 : Value) (w0 : BookAt w v0) (a1 : Option Addr) (len1 cap1 : Nat) (w1 : IsRecs paids Pd.fits w a1 len1 cap1) (r1 : cap1 ≤ 1048576) (a2 : Option Addr) (len2 cap2 : Nat) (w2 : IsRecs asks Ak.fits w a2 len2 cap2) (r2 : cap2 ≤ 1048576) (a3 : Option Addr) (len3 cap3 : Nat) (w3 : IsRecs flags (fun _ => True) w a3 len3 cap3) (r3 : cap3 ≤ 1048576) (hh : HasErr w) :
    Calls Tryz.prog 4 #[v0, .slice a1 len1 cap1, .slice a2 len2 cap2, .slice a3 len3 cap3] w fun e w' => e = .returned (.bool true) ∧ Below w.heap.size w w' := by
  obtain ⟨zs, hl, hr, hf, hlc, _, _⟩ := recs_list w1
  obtain ⟨zk, kl, kr, kf, klc, _, _⟩ := recs_list w2
  obtain ⟨ls, fl, fr, _, flc, _, _⟩ := recs_list w3
  exact bankAgain_core w v0 w0 a1 len1 cap1 zs hl hr hf (by omega) a2 len2 cap2 zk kl kr kf (by omega) a3 len3 cap3 ls fr fl flc (by omega) hh
end Go.Proofs.YteiljppljlmcbaaGreatDoor
