/-
  The law BankRun: requests in two parts come to what they do at once.
-/
import Derived.Test.YtjphkpohcgkcmaaGreatDoorBankAwake
import Derived.Test.YtjphkpohcgkcmaaGreatDoorBankRun
import Derived.Test.YtjphkpohcgkcmaaGreatDoorRqSlice
import Derived.Test.YtjphkpohcgkcmaaGreatDoorAskSlice
import Derived.Deep.CutRange
namespace Go.Proofs.YtjphkpohcgkcmaaGreatDoor
open Go Go.RowKit
set_option linter.unusedVariables false

set_option maxRecDepth 100000 in
set_option maxHeartbeats 4000000 in
theorem bankRun_core (w : World) (b : Value) (hb : BookAt w b)
    (ak : Option Addr) (l3 cz3 : Nat) (zk : List Ak) (hkl : zk.length = l3) (hk : RdS asks w ak zk) (hkf : ∀ (j : Nat) z, zk[j]? = some z → z.fits) (hl3 : l3 ≤ 1900000)
    (la : Option Addr) (ln lc : Nat) (ls : List Bool) (hls : RdS flags w la ls) (hln : ls.length = ln) (hlc : ln ≤ lc) (hm : lc ≤ 1900000) (cu : Nat) (hcu : cu < 256) (hh : HasErr w) :
    Calls Tryz.prog 3 #[b, .slice ak l3 cz3, .slice la ln lc, .int .u8 (cu : Int)] w fun e w' => e = .returned (.bool true) ∧ Below w.heap.size w w' := by
  obtain ⟨kk, hkk⟩ : ∃ k : Nat, cu % (l3 + 1) = k := ⟨_, rfl⟩
  have hk1 : (cu : Int).tmod ((l3 : Int) + 1) = (kk : Int) := by rw [Int.tmod_eq_emod_of_nonneg (by omega), ← hkk]; exact (Int.natCast_emod cu (l3 + 1)).symm
  have hk2 : kk ≤ l3 := by have := Nat.mod_lt cu (show 0 < l3 + 1 by omega); omega
  have HST := Lib.hid (fun W (hW : Below w.heap.size w W) => state_any hb none 0 0 [] rfl 0 (by decide) (by decide) W hW RdS.nil (fun j z h => by simp at h))
  have HAW := Lib.hid (fun W (hW : Below w.heap.size w W) => bawake_ok W (hh.below hW))
  have HH := Lib.hid hh
  have HZK := Lib.hid hk
  have HKL := Lib.hid hkl
  have HKF := Lib.hid hkf
  have HLS := Lib.hid hls
  have HLN := Lib.hid hln
  obtain ⟨CA, HA, LA, cl, cc, hl', hc, ll, lc', cs, hs, ls', rfl, h1, h2, h3, h4, h5, h6, h7, h8, h9⟩ := hb.form
  unfold Sv.val Sv.cells at HST
  clear h1 h2 h3 h4 h5 h6 h7 h8 h9 hb hk hkl hkf hh hkk hls hln
  go_enter Tryz.func3, Tryz.ntmps3
  go_wp2_with fail
  refine (HAW.out _ ((Below.refl w.heap.size w).alloc (Nat.le_refl _) (.cells #[.slice CA cl cc, .slice HA hl' hc, .slice LA ll lc'] 25))).mono ?_
  rintro _ wa ⟨rfl, hba⟩
  have HBk := Lib.hid ((Blk.new w 25 #[.slice CA cl cc, .slice HA hl' hc, .slice LA ll lc']).later hba)
  have HWA := Lib.hid (((Below.refl w.heap.size w).alloc (Nat.le_refl _) (.cells #[.slice CA cl cc, .slice HA hl' hc, .slice LA ll lc'] 25)).trans (hba.mono (by simp)))
  clear hba HAW
  obtain ⟨b0, b1, b2⟩ := (show _ ∧ _ ∧ _ from ⟨HBk.out.cell 0 rfl, HBk.out.cell 1 rfl, HBk.out.cell 2 rfl⟩)
  go_wp2_with fail
  refine (HST.out _ HWA.out).mono ?_
  rintro _ w1 ⟨V1, s0, rfl, hv1, hmd, hb1⟩
  have HL_0 := Lib.hid (HWA.out.trans (hb1.mono HWA.out.size))
  have OK0 := Lib.hid hmd.ok
  have HV_0 := Lib.hid hv1.sk
  obtain ⟨A1, n1, c1, B1, q1, d1, X1, xn1, xc1, Y1, yn1, yc1, t1⟩ := V1
  dsimp only at HV_0 ⊢
  clear hv1 hb1 hmd HST HWA HBk b0 b1 b2
  have hg : w.heap.size ≤ w1.heap.size := HL_0.out.size
  go_upto_region 4 with fail
  have al := (Below.refl w1.heap.size w1).alloc (Nat.le_refl _) (.cells #[.slice A1 n1 c1, .slice B1 q1 d1, .slice X1 xn1 xc1, .slice Y1 yn1 yc1, .int .i64 t1] 34)
  have nb0 := Blk.new w1 34 #[.slice A1 n1 c1, .slice B1 q1 d1, .slice X1 xn1 xc1, .slice Y1 yn1 yc1, .int .i64 t1]
  have HL_1 := Lib.hid (HL_0.out.trans (al.mono HL_0.out.size))
  have HV_1 := Lib.hid (HV_0.out.below al)
  clear al HL_0 HV_0
  have G_1 := Lib.hid (nb0)
  clear nb0
  generalize w1.alloc (.cells #[.slice A1 n1 c1, .slice B1 q1 d1, .slice X1 xn1 xc1, .slice Y1 yn1 yc1, .int .i64 t1] 34) = w2 at HL_1 HV_1 G_1 ⊢
  generalize w1.heap.size = g at G_1 hg ⊢
  have hgw2 : g < w2.heap.size := G_1.out.lt
  go_wp2
  go_loopw [10, 35] (fun v i wr => ∃ k : Nat, k ≤ l3 ∧ i = .int .i64 (k : Int) ∧ OwnS rqs wr w2.heap.size v ((zk.take k).map Ak.req) ∧ Below w2.heap.size w2 wr) (fun _ i _ => l3 - (intOf i).toNat)
  case atStart => exact ⟨0, Nat.zero_le _, rfl, OwnS.nil, Below.refl _ _⟩
  case round =>
    obtain ⟨k, hk, rfl, hown, hbel⟩ := hrel
    have OR_0 := Lib.hid hown
    have HB_0 := Lib.hid hbel
    have hsz := hbel.size
    have hrow := hown.rowLt
    clear hown hbel
    by_cases hlt : k < l3
    · obtain ⟨z, hz⟩ : ∃ z, zk[k]? = some z := ⟨_, List.getElem?_eq_getElem (by rw [HKL.out]; exact hlt)⟩
      obtain ⟨ad, rfl, hat⟩ := (HZK.out.below (HL_1.out.trans (HB_0.out.mono HL_1.out.size))).at_ hz
      obtain ⟨p0, p1, p2, p3, p4, p5, p6⟩ := ask_cells hat
      have HNX := Lib.hid (reqs_more hz)
      have HAS := Lib.hid (fun W => ask_any z (HKF.out k z hz) W)
      have hlen : ((zk.take k).map Ak.req).length = k := by rw [List.length_map, List.length_take, HKL.out]; omega
      have HLEN := Lib.hid hlen
      obtain ⟨q, hq⟩ : ∃ q, q = z.req := ⟨_, rfl⟩
      rw [← hq] at HAS HNX
      clear hat hz hq hlen
      obtain ⟨rk, ro, ra, rb, rm, rl, ru⟩ := q
      obtain ⟨key, op, qa, qb, amt, legs, til⟩ := z
      unfold AskRes Ak.val Rq.val at HAS
      dsimp only at p0 p1 p2 p3 p4 p5 p6 HAS
      go_upto_region 8 with fail
      have al := (Below.refl wr.heap.size wr).alloc (Nat.le_refl _) (.cells #[.int .u8 (key : Int), .int .u8 (op : Int), .int .u8 (qa : Int), .int .u8 (qb : Int), .int .u16 (amt : Int), .int .u8 (legs : Int), .int .u8 (til : Int)] 39)
      have nb0 := Blk.new wr 39 #[.int .u8 (key : Int), .int .u8 (op : Int), .int .u8 (qa : Int), .int .u8 (qb : Int), .int .u16 (amt : Int), .int .u8 (legs : Int), .int .u8 (til : Int)]
      have HB_1 := Lib.hid (HB_0.out.trans (al.mono HB_0.out.size))
      have OR_1 := Lib.hid (OR_0.out.below al)
      clear al HB_0 OR_0
      have Q_1 := Lib.hid (nb0)
      clear nb0
      generalize wr.alloc (.cells #[.int .u8 (key : Int), .int .u8 (op : Int), .int .u8 (qa : Int), .int .u8 (qb : Int), .int .u16 (amt : Int), .int .u8 (legs : Int), .int .u8 (til : Int)] 39) = wb at HB_1 OR_1 Q_1 ⊢
      clear p0 p1 p2 p3 p4 p5 p6
      generalize wr.heap.size = gq at Q_1 hsz ⊢
      obtain ⟨r0, r1, r2, r3, r4, r5, r6⟩ := (show _ ∧ _ ∧ _ ∧ _ ∧ _ ∧ _ ∧ _ from ⟨Q_1.out.cell 0 rfl, Q_1.out.cell 1 rfl, Q_1.out.cell 2 rfl, Q_1.out.cell 3 rfl, Q_1.out.cell 4 rfl, Q_1.out.cell 5 rfl, Q_1.out.cell 6 rfl⟩)
      go_wp2_with fail
      refine (HAS.out _).mono ?_
      rintro _ wc ⟨rfl, hbc⟩
      clear Q_1
      have HB_2 := Lib.hid (HB_1.out.trans (hbc.mono HB_1.out.size))
      have OR_2 := Lib.hid (OR_1.out.below hbc)
      clear HB_1 OR_1
      have hs1 := HB_2.out.size
      clear r0 r1 r2 r3 r4 r5 r6 hbc HAS
      go_wp2_with (at_builtin; refine wpList_append_rec rqs 36 Tryz.underlying36 info_rqs rfl _ rfl (.tmp 39) (.tmp 42) rfl w2.heap.size _ ((zk.take k).map Ak.req) rfl (OR_2.out.alloc _) ⟨wc.heap.size, 0, none⟩ 1 ⟨rk, ro, ra, rb, rm, rl, ru⟩ rfl (AtS.new rfl) (by rw [HLEN.out]; omega) (by rw [HLEN.out]; omega) (by simp; omega) ?_; intro v' wd ho2 hg2)
      have HO2 := Lib.hid ho2
      have HB2 := Lib.hid ((HB_2.out.alloc hs1 _).grown hg2 (by simp; omega) hrow)
      clear ho2 hg2
      go_wp2
      go_roundw
      case rel => exact ⟨k + 1, by omega, by first | rfl | (congr 1; omega) | go_num, by rw [HNX.out]; exact HO2.out, HB2.out⟩
      case measure => simp [intOf]; omega
    · obtain rfl : k = l3 := by omega
      have hrl : ((zk.take k).map Ak.req).length = k := by rw [List.length_map, List.length_take, HKL.out]; omega
      generalize (zk.take k).map Ak.req = rs at hrl OR_0
      obtain ⟨RA, rc, rfl, _, hrc1, _, hrc3⟩ := OR_0.out.form
      rw [hrl] at OR_0 hrc1 hrc3 ⊢
      have HRL := Lib.hid hrl
      clear hrl HKL HZK HKF
      have HL_2 := Lib.hid (HL_1.out.trans (HB_0.out.mono HL_1.out.size))
      have HV_2 := Lib.hid (HV_1.out.below HB_0.out)
      have G_2 := Lib.hid (G_1.out.later HB_0.out)
      clear HL_1 HV_1 G_1
      have OS_2 := OR_0
      clear HB_0 OR_0
      have hU1 := runR_os (rs := rs) (X := ⟨s0, [], [], []⟩)
      have hU2 := runR_os (rs := rs.take kk) (X := ⟨s0, [], [], []⟩)
      have hU2k := runR_ok (rs := rs.take kk) (X := ⟨s0, [], [], []⟩) OK0.out
      have hU2l := runR_kl (rs := rs.take kk) (X := ⟨s0, [], [], []⟩) (Nat.zero_le _)
      have hU2n := runR_none (rs := rs.take kk) (X := ⟨s0, [], [], []⟩) rfl
      have hU1k := runR_ok (rs := rs) (X := ⟨s0, [], [], []⟩) OK0.out
      have hU1l := runR_kl (rs := rs) (X := ⟨s0, [], [], []⟩) (Nat.zero_le _)
      have hTW := runR_two ⟨s0, [], [], []⟩ rs kk rfl
      have htl : (rs.take kk).length = kk := by rw [List.length_take, HRL.out]; omega
      have hdl : (rs.drop kk).length = k - kk := by rw [List.length_drop, HRL.out]
      have HTL := Lib.hid htl
      have HDL := Lib.hid hdl
      have HD1 := Lib.hid (fun W (hb : Below wr.heap.size wr W) => brun_any ⟨A1, n1, c1, B1, q1, d1, X1, xn1, xc1, Y1, yn1, yc1, t1⟩ ⟨s0, [], [], []⟩ [] W RA k rc rs none 0 0 (HV_2.out.below hb) OK0.out (by decide) (Nat.zero_le _) (HH.out.below (HL_2.out.trans (hb.mono HL_2.out.size))) (OS_2.out.below hb).rd HRL.out (by omega) RdS.nil rfl (Nat.le_refl _) (by decide) rfl)
      have HD2 := Lib.hid (fun W (hb : Below wr.heap.size wr W) => brun_any ⟨A1, n1, c1, B1, q1, d1, X1, xn1, xc1, Y1, yn1, yc1, t1⟩ ⟨s0, [], [], []⟩ [] W RA kk rc (rs.take kk) none 0 0 (HV_2.out.below hb) OK0.out (by decide) (Nat.zero_le _) (HH.out.below (HL_2.out.trans (hb.mono HL_2.out.size))) ((OS_2.out.below hb).rd.front kk) HTL.out (by omega) RdS.nil rfl (Nat.le_refl _) (by decide) rfl)
      generalize hY2 : runR ⟨s0, [], [], []⟩ (rs.take kk) = Y2 at hU2 hU2k hU2l hU2n hTW HD2
      obtain ⟨T2, K2, O2, N2⟩ := Y2
      dsimp only at hU2 hU2k hU2l hU2n
      subst hU2n
      obtain ⟨RB, hRB⟩ : ∃ B : Option Addr, B = (if rc = kk then RA else RA.map (·.add (kk * 7))) := ⟨_, rfl⟩
      have HRB := Lib.hid hRB
      have HD3 := Lib.hid (fun W V (hv : SkAt W V T2 [] K2) (hb : Below wr.heap.size wr W) => brun_any V ⟨T2, K2, [], []⟩ [] W RB (k - kk) (rc - kk) (rs.drop kk) none 0 0 hv hU2k (by decide) hU2l (HH.out.below (HL_2.out.trans (hb.mono HL_2.out.size))) (by rw [hRB]; exact rqs_drop (OS_2.out.below hb).rd HRL.out hrc1 hk2) HDL.out (by omega) RdS.nil rfl (Nat.le_refl _) (by decide) rfl)
      have hU3 := runR_os (rs := rs.drop kk) (X := ⟨T2, K2, [], []⟩)
      unfold Ru.new at hTW
      dsimp only at hTW
      generalize hY3 : runR ⟨T2, K2, [], []⟩ (rs.drop kk) = Y3 at hTW HD3 hU3
      generalize hY1 : runR ⟨s0, [], [], []⟩ rs = Y1 at hTW HD1 hU1 hU1k hU1l
      obtain ⟨T1, K1, O1, N1⟩ := Y1
      obtain ⟨T3, K3, O3, N3⟩ := Y3
      dsimp only at hTW hU1 hU1k hU1l hU3
      obtain ⟨rfl, rfl, rfl⟩ := hTW
      rw [hdl] at hU3
      rw [htl] at hU2
      simp only [List.length_nil, Nat.zero_add] at hU1 hU2 hU3
      clear hY1 hY2 hY3 htl hdl hRB
      unfold RnRes Sv.val Sv.cells at HD1 HD2
      unfold RnRes Sv.val Sv.cells at HD3
      dsimp only at HD1 HD2 HD3
      have HB_2 := Lib.hid (Below.refl wr.heap.size wr)
      have D1 := Lib.hid (HD1.out wr HB_2.out)
      obtain ⟨x0, x1, x2, x3, x4⟩ := (show _ ∧ _ ∧ _ ∧ _ ∧ _ from ⟨G_2.out.cell 0 rfl, G_2.out.cell 1 rfl, G_2.out.cell 2 rfl, G_2.out.cell 3 rfl, G_2.out.cell 4 rfl⟩)
      go_upto_region 11 with (first
        | (go_at_call 12; refine D1.out.mono ?_; rintro _ wb ⟨V, ga, na, ca, rfl, hv, ho, hn, hb⟩
           obtain ⟨A2, n2, c2, B2, q2, d2, X2, xn2, xc2, Y2, yn2, yc2, t2⟩ := V
           dsimp only at hv ho hn ⊢
           have HVa := Lib.hid hv
           have HXb := Lib.hid hb
           have HOa := Lib.hid ho
           have HNa := Lib.hid hn
           clear hv ho hn hb x0 x1 x2 x3 x4))
      have HL_3 := Lib.hid (HL_2.out.trans (HXb.out.mono HL_2.out.size))
      have HV_3 := Lib.hid (HV_2.out.below HXb.out)
      have G_3 := Lib.hid (G_2.out.later HXb.out)
      have OS_3 := Lib.hid (OS_2.out.below HXb.out)
      have HB_3 := Lib.hid (HB_2.out.trans (HXb.out.mono HB_2.out.size))
      clear HL_2 HV_2 G_2 OS_2 HB_2
      have HP_3 := Lib.hid (HVa.out)
      have PA_3 := Lib.hid (HOa.out)
      clear HXb HVa HOa D1 HD1
      have hgb : g < wb.heap.size := G_3.out.lt
      have al := (Below.refl wb.heap.size wb).alloc (Nat.le_refl _) (.cells #[.slice A2 n2 c2, .slice B2 q2 d2, .slice X2 xn2 xc2, .slice Y2 yn2 yc2, .int .i64 t2] 34)
      have nb0 := Blk.new wb 34 #[.slice A2 n2 c2, .slice B2 q2 d2, .slice X2 xn2 xc2, .slice Y2 yn2 yc2, .int .i64 t2]
      have HL_4 := Lib.hid (HL_3.out.trans (al.mono HL_3.out.size))
      have HV_4 := Lib.hid (HV_3.out.below al)
      have G_4 := Lib.hid (G_3.out.later al)
      have OS_4 := Lib.hid (OS_3.out.below al)
      have HB_4 := Lib.hid (HB_3.out.trans (al.mono HB_3.out.size))
      have HP_4 := Lib.hid (HP_3.out.below al)
      have PA_4 := Lib.hid (PA_3.out.below al)
      clear al HL_3 HV_3 G_3 OS_3 HB_3 HP_3 PA_3
      have S1_4 := Lib.hid (nb0)
      clear nb0
      generalize wb.alloc (.cells #[.slice A2 n2 c2, .slice B2 q2 d2, .slice X2 xn2 xc2, .slice Y2 yn2 yc2, .int .i64 t2] 34) = wp at HL_4 HV_4 G_4 OS_4 HB_4 HP_4 PA_4 S1_4 ⊢
      generalize wb.heap.size = g13 at S1_4 hgb PA_4 ⊢
      go_upto_region 12 with fail
      have hgc : g13 < wp.heap.size := S1_4.out.lt
      have hfr := fun W' => run_frontRq W' RA k rc kk (by omega)
      have hbkr : ∀ W' : World, (Instr.sliceAt 36 (.slice RA k rc) (some (.int .i64 (kk : Int))) none none).run Tryz.prog W' = .ok (.slice RB (k - kk) (rc - kk)) W' := fun W' => by rw [HRB.out]; exact run_backRq W' RA k rc kk hk2
      go_cut [16, 17] from 58 to 64 (fun x16 x17 wx => ∃ (g16 : Nat) (V : Sv) (gb nb cb : Nat), x16 = .pointer (some ⟨g16, 0, none⟩) ∧ x17 = .slice (some ⟨gb, 0, none⟩) nb cb ∧ Blk wx g16 34 V.cells ∧ SkAt wx V T2 [] K2 ∧ OwnS rps wx wp.heap.size (.slice (some ⟨gb, 0, none⟩) nb cb) O2 ∧ O2.length = nb ∧ Below wp.heap.size wp wx ∧ wp.heap.size ≤ g16)
      case first =>
        have hbz : Below wp.heap.size wp wp.drew := (Below.refl _ _).drew
        refine wp_region_held_drew (S := fun w' => Below wp.heap.size wp w') (by kernel_rfl) hbz (fun hHeld => ?_)
        refine take_at 0 58 (v := ?_) rfl rfl (by kernel_rfl) (by kernel_rfl) (by kernel_rfl) (fun _ _ _ h => h) (Or.inl ⟨by rfl, ?_⟩) (by assumption) ?_
        rotate_left
        · intro w' hSw
          have hSw' := hSw
          (try dsimp only at hSw')
          obtain ⟨k0, k1, k2, k3, k4⟩ := (show _ ∧ _ ∧ _ ∧ _ ∧ _ from ⟨(G_4.out.later hSw').cell 0 rfl, (G_4.out.later hSw').cell 1 rfl, (G_4.out.later hSw').cell 2 rfl, (G_4.out.later hSw').cell 3 rfl, (G_4.out.later hSw').cell 4 rfl⟩)
          go_simp
          (try with_reducible rfl)
        (try simp only [Act.put]); (try simp only [List.setIfInBounds_toArray]); (try simp only [List.set_cons_succ]); (try simp only [List.set_cons_zero])
        refine take_at 1 59 (v := ?_) rfl rfl (by kernel_rfl) (by kernel_rfl) (by kernel_rfl) (fun _ _ _ h => h) (Or.inl ⟨by rfl, ?_⟩) (by assumption) ?_
        rotate_left
        · intro w' hSw
          go_simp
          (try with_reducible rfl)
        (try simp only [Act.put]); (try simp only [List.setIfInBounds_toArray]); (try simp only [List.set_cons_succ]); (try simp only [List.set_cons_zero])
        refine take_at 2 60 (v := ?_) rfl rfl (by kernel_rfl) (by kernel_rfl) (by kernel_rfl) (fun _ _ _ h => h) (Or.inl ⟨by rfl, ?_⟩) (by assumption) ?_
        rotate_left
        · intro w' hSw
          go_simp
          (try with_reducible rfl)
        (try simp only [Act.put]); (try simp only [List.setIfInBounds_toArray]); (try simp only [List.set_cons_succ]); (try simp only [List.set_cons_zero])
        refine take_at 3 61 (v := ?_) rfl rfl (by kernel_rfl) (by kernel_rfl) (by kernel_rfl) (fun _ _ _ h => h) (Or.inl ⟨by rfl, ?_⟩) (by assumption) ?_
        rotate_left
        · intro w' hSw
          go_simp
          (try with_reducible rfl)
        (try simp only [Act.put]); (try simp only [List.setIfInBounds_toArray]); (try simp only [List.set_cons_succ]); (try simp only [List.set_cons_zero])
        generalize wp.drew = wz at hbz hHeld ⊢
        have hzw := hbz.size
        refine wpAnyH_ready (rs := [4, 8]) (by kernel_rfl) (by simp) ?_
        refine AllReadyH.cons (i := 4) rfl (fun K0 hK => ?_) (AllReadyH.cons (i := 8) rfl (fun K0 hK => ?_) AllReadyH.nil)
        · go_simp
          go_at_call 12
          refine (HD2.out _ (HB_4.out.trans ((hbz).mono HB_4.out.size))).mono ?_
          rintro _ we ⟨V3, gb, nb, cb, rfl, hv, ho, hn, hb⟩
          obtain ⟨A3, n3, c3, B3, q3, d3, X3, xn3, xc3, Y3, yn3, yc3, t3⟩ := V3
          dsimp only at hv ho hn ⊢
          have hbx : Below wp.heap.size wp we := (hbz).trans (hb.mono (hbz).size)
          have hse := hb.size
          refine hK.out _ _ hbx (fun hHeld => ?_)
          clear hK K0
          (try simp only [Act.put]); (try simp only [List.setIfInBounds_toArray]); (try simp only [List.set_cons_succ]); (try simp only [List.set_cons_zero])
          refine take_at 5 57 (v := ?_) rfl rfl (by kernel_rfl) (by kernel_rfl) (by kernel_rfl) (fun _ _ _ h => h) (Or.inl ⟨by rfl, ?_⟩) (by assumption) ?_
          rotate_left
          · intro w' hSw
            go_simp
            (try with_reducible rfl)
          (try simp only [Act.put]); (try simp only [List.setIfInBounds_toArray]); (try simp only [List.set_cons_succ]); (try simp only [List.set_cons_zero])
          refine take_at 6 63 (v := ?_) rfl rfl (by kernel_rfl) (by kernel_rfl) (by kernel_rfl) (fun _ _ _ h => h) (Or.inl ⟨by rfl, ?_⟩) (by assumption) ?_
          rotate_left
          · intro w' hSw
            go_simp
            (try with_reducible rfl)
          (try simp only [Act.put]); (try simp only [List.setIfInBounds_toArray]); (try simp only [List.set_cons_succ]); (try simp only [List.set_cons_zero])
          refine take_at 7 64 (v := ?_) rfl rfl (by kernel_rfl) (by kernel_rfl) (by kernel_rfl) (fun _ _ _ h => h) (Or.inl ⟨by rfl, ?_⟩) (by assumption) ?_
          rotate_left
          · intro w' hSw
            go_simp
            (try with_reducible rfl)
          (try simp only [Act.put]); (try simp only [List.setIfInBounds_toArray]); (try simp only [List.set_cons_succ]); (try simp only [List.set_cons_zero])
          have al := (Below.refl we.heap.size we).alloc (Nat.le_refl _) (.cells st0 34)
          refine wpAnyH_ready (rs := [8]) (by kernel_rfl) (by simp) ?_
          refine AllReadyH.cons (i := 8) rfl (fun K0 hK => ?_) AllReadyH.nil
          go_simp
          refine hK.out _ (we.alloc (.cells st0 34)) (hbx.trans (al.mono hbx.size)) (fun hHeld => ?_)
          clear hK K0
          (try simp only [Act.put]); (try simp only [List.setIfInBounds_toArray]); (try simp only [List.set_cons_succ]); (try simp only [List.set_cons_zero])
          have hz := Blk.new we 34 st0
          replace hbx := hbx.trans (al.mono hbx.size)
          replace hv := hv.below al
          replace ho := ho.below al
          clear al
          generalize we.alloc (.cells st0 34) = wf at hz hbx hv ho hHeld ⊢
          obtain ⟨y0, y1, y2, y3, y4⟩ := (show _ ∧ _ ∧ _ ∧ _ ∧ _ from ⟨hz.cell 0 rfl, hz.cell 1 rfl, hz.cell 2 rfl, hz.cell 3 rfl, hz.cell 4 rfl⟩)
          obtain ⟨f0, f1, f2, f3, f4⟩ := (show _ ∧ _ ∧ _ ∧ _ ∧ _ from ⟨hz.loose 0, hz.loose 1, hz.loose 2, hz.loose 3, hz.loose 4⟩)
          refine wpAnyH_ready (rs := [9]) (by kernel_rfl) (by simp) ?_
          refine AllReadyH.cons (i := 9) rfl (fun K0 hK => ?_) AllReadyH.nil
          go_simp
          refine hK.out _ (((((wf.setCell ⟨we.heap.size, 0, none⟩ (.slice A3 n3 c3)).setCell ⟨we.heap.size, 1, none⟩ (.slice B3 q3 d3)).setCell ⟨we.heap.size, 2, none⟩ (.slice X3 xn3 xc3)).setCell ⟨we.heap.size, 3, none⟩ (.slice Y3 yn3 yc3)).setCell ⟨we.heap.size, 4, none⟩ (.int .i64 t3)) (st_below hbx (by omega) (.slice A3 n3 c3) (.slice B3 q3 d3) (.slice X3 xn3 xc3) (.slice Y3 yn3 yc3) (.int .i64 t3)) (fun hHeld => ?_)
          clear hK K0
          (try simp only [Act.put]); (try simp only [List.setIfInBounds_toArray]); (try simp only [List.set_cons_succ]); (try simp only [List.set_cons_zero])
          refine take_at 10 17 (v := ?_) rfl rfl (by kernel_rfl) (by kernel_rfl) (by kernel_rfl) (fun _ _ _ h => h) (Or.inl ⟨by rfl, ?_⟩) (by assumption) ?_
          rotate_left
          · intro w' hSw
            go_simp
            (try with_reducible rfl)
          (try simp only [Act.put]); (try simp only [List.setIfInBounds_toArray]); (try simp only [List.set_cons_succ]); (try simp only [List.set_cons_zero])
          refine wpAnyH_done (by kernel_rfl) ?_ _
          go_wp2_with fail
          go_meet
          exact ⟨_, ⟨A3, n3, c3, B3, q3, d3, X3, xn3, xc3, Y3, yn3, yc3, t3⟩, gb, nb, cb, rfl, rfl, st_put hz rfl (.slice A3 n3 c3) (.slice B3 q3 d3) (.slice X3 xn3 xc3) (.slice Y3 yn3 yc3) (.int .i64 t3), sk_zero hv hz (.slice A3 n3 c3) (.slice B3 q3 d3) (.slice X3 xn3 xc3) (.slice Y3 yn3 yc3) (.int .i64 t3), own_st (ho.less (by omega)) (ho.ne hz (by decide)) (.slice A3 n3 c3) (.slice B3 q3 d3) (.slice X3 xn3 xc3) (.slice Y3 yn3 yc3) (.int .i64 t3), hn, st_below hbx (by omega) (.slice A3 n3 c3) (.slice B3 q3 d3) (.slice X3 xn3 xc3) (.slice Y3 yn3 yc3) (.int .i64 t3), by omega⟩
        · go_simp
          have al := (Below.refl wz.heap.size wz).alloc (Nat.le_refl _) (.cells st0 34)
          have hbx := hbz.trans (al.mono hbz.size)
          refine hK.out _ (wz.alloc (.cells st0 34)) hbx (fun hHeld => ?_)
          clear hK K0
          (try simp only [Act.put]); (try simp only [List.setIfInBounds_toArray]); (try simp only [List.set_cons_succ]); (try simp only [List.set_cons_zero])
          have hz := Blk.new wz 34 st0
          have hbz2 := hbx
          clear al hbx
          generalize wz.alloc (.cells st0 34) = wy at hz hbz2 hHeld ⊢
          have hly := hz.lt
          refine wpAnyH_ready (rs := [4]) (by kernel_rfl) (by simp) ?_
          refine AllReadyH.cons (i := 4) rfl (fun K0 hK => ?_) AllReadyH.nil
          go_simp
          go_at_call 12
          refine (HD2.out _ (HB_4.out.trans ((hbz2).mono HB_4.out.size))).mono ?_
          rintro _ we ⟨V3, gb, nb, cb, rfl, hv, ho, hn, hb⟩
          obtain ⟨A3, n3, c3, B3, q3, d3, X3, xn3, xc3, Y3, yn3, yc3, t3⟩ := V3
          dsimp only at hv ho hn ⊢
          have hbx : Below wp.heap.size wp we := (hbz2).trans (hb.mono (hbz2).size)
          have hse := hb.size
          replace hz := hz.later hb
          refine hK.out _ _ hbx (fun hHeld => ?_)
          clear hK K0
          (try simp only [Act.put]); (try simp only [List.setIfInBounds_toArray]); (try simp only [List.set_cons_succ]); (try simp only [List.set_cons_zero])
          refine take_at 5 57 (v := ?_) rfl rfl (by kernel_rfl) (by kernel_rfl) (by kernel_rfl) (fun _ _ _ h => h) (Or.inl ⟨by rfl, ?_⟩) (by assumption) ?_
          rotate_left
          · intro w' hSw
            go_simp
            (try with_reducible rfl)
          (try simp only [Act.put]); (try simp only [List.setIfInBounds_toArray]); (try simp only [List.set_cons_succ]); (try simp only [List.set_cons_zero])
          refine take_at 6 63 (v := ?_) rfl rfl (by kernel_rfl) (by kernel_rfl) (by kernel_rfl) (fun _ _ _ h => h) (Or.inl ⟨by rfl, ?_⟩) (by assumption) ?_
          rotate_left
          · intro w' hSw
            go_simp
            (try with_reducible rfl)
          (try simp only [Act.put]); (try simp only [List.setIfInBounds_toArray]); (try simp only [List.set_cons_succ]); (try simp only [List.set_cons_zero])
          refine take_at 7 64 (v := ?_) rfl rfl (by kernel_rfl) (by kernel_rfl) (by kernel_rfl) (fun _ _ _ h => h) (Or.inl ⟨by rfl, ?_⟩) (by assumption) ?_
          rotate_left
          · intro w' hSw
            go_simp
            (try with_reducible rfl)
          (try simp only [Act.put]); (try simp only [List.setIfInBounds_toArray]); (try simp only [List.set_cons_succ]); (try simp only [List.set_cons_zero])

          obtain ⟨y0, y1, y2, y3, y4⟩ := (show _ ∧ _ ∧ _ ∧ _ ∧ _ from ⟨hz.cell 0 rfl, hz.cell 1 rfl, hz.cell 2 rfl, hz.cell 3 rfl, hz.cell 4 rfl⟩)
          obtain ⟨f0, f1, f2, f3, f4⟩ := (show _ ∧ _ ∧ _ ∧ _ ∧ _ from ⟨hz.loose 0, hz.loose 1, hz.loose 2, hz.loose 3, hz.loose 4⟩)
          refine wpAnyH_ready (rs := [9]) (by kernel_rfl) (by simp) ?_
          refine AllReadyH.cons (i := 9) rfl (fun K0 hK => ?_) AllReadyH.nil
          go_simp
          refine hK.out _ (((((we.setCell ⟨wz.heap.size, 0, none⟩ (.slice A3 n3 c3)).setCell ⟨wz.heap.size, 1, none⟩ (.slice B3 q3 d3)).setCell ⟨wz.heap.size, 2, none⟩ (.slice X3 xn3 xc3)).setCell ⟨wz.heap.size, 3, none⟩ (.slice Y3 yn3 yc3)).setCell ⟨wz.heap.size, 4, none⟩ (.int .i64 t3)) (st_below hbx (by omega) (.slice A3 n3 c3) (.slice B3 q3 d3) (.slice X3 xn3 xc3) (.slice Y3 yn3 yc3) (.int .i64 t3)) (fun hHeld => ?_)
          clear hK K0
          (try simp only [Act.put]); (try simp only [List.setIfInBounds_toArray]); (try simp only [List.set_cons_succ]); (try simp only [List.set_cons_zero])
          refine take_at 10 17 (v := ?_) rfl rfl (by kernel_rfl) (by kernel_rfl) (by kernel_rfl) (fun _ _ _ h => h) (Or.inl ⟨by rfl, ?_⟩) (by assumption) ?_
          rotate_left
          · intro w' hSw
            go_simp
            (try with_reducible rfl)
          (try simp only [Act.put]); (try simp only [List.setIfInBounds_toArray]); (try simp only [List.set_cons_succ]); (try simp only [List.set_cons_zero])
          refine wpAnyH_done (by kernel_rfl) ?_ _
          go_wp2_with fail
          go_meet
          exact ⟨_, ⟨A3, n3, c3, B3, q3, d3, X3, xn3, xc3, Y3, yn3, yc3, t3⟩, gb, nb, cb, rfl, rfl, st_put hz rfl (.slice A3 n3 c3) (.slice B3 q3 d3) (.slice X3 xn3 xc3) (.slice Y3 yn3 yc3) (.int .i64 t3), sk_zero hv hz (.slice A3 n3 c3) (.slice B3 q3 d3) (.slice X3 xn3 xc3) (.slice Y3 yn3 yc3) (.int .i64 t3), own_st (ho.less (by omega)) (ho.ne hz (by decide)) (.slice A3 n3 c3) (.slice B3 q3 d3) (.slice X3 xn3 xc3) (.slice Y3 yn3 yc3) (.int .i64 t3), hn, st_below hbx (by omega) (.slice A3 n3 c3) (.slice B3 q3 d3) (.slice X3 xn3 xc3) (.slice Y3 yn3 yc3) (.int .i64 t3), by omega⟩
      case rest =>
        obtain ⟨g16, V3, gb, nb, cb, rfl, rfl, h16, hv, ho, hn, hb, hg16⟩ := hcut
        obtain ⟨A3, n3, c3, B3, q3, d3, X3, xn3, xc3, Y3, yn3, yc3, t3⟩ := V3
        unfold Sv.cells at h16
        dsimp only at h16 hv
        have HL_5 := Lib.hid (HL_4.out.trans (hb.mono HL_4.out.size))
        have HV_5 := Lib.hid (HV_4.out.below hb)
        have G_5 := Lib.hid (G_4.out.later hb)
        have OS_5 := Lib.hid (OS_4.out.below hb)
        have HB_5 := Lib.hid (HB_4.out.trans (hb.mono HB_4.out.size))
        have HP_5 := Lib.hid (HP_4.out.below hb)
        have PA_5 := Lib.hid (PA_4.out.below hb)
        have S1_5 := Lib.hid (S1_4.out.later hb)
        clear HL_4 HV_4 G_4 OS_4 HB_4 HP_4 PA_4 S1_4
        have U_5 := Lib.hid (h16)
        have HQ_5 := Lib.hid (hv)
        have PB_5 := Lib.hid (ho)
        have HNb := Lib.hid hn
        clear h16 hv ho hn hb HD2
        have hg3 : g13 < g16 := by omega
        have hgg : g < g16 := by omega
        have hgu : g16 < wc.heap.size := U_5.out.lt
        go_upto_region 13 with fail
        refine wp_region_held_drew (S := fun w' => On (fun b => b < wc.heap.size ∧ b ≠ g16) wc w') (by kernel_rfl) (On.refl _ wc).drew (fun hHeld => ?_)
        have hbz : Below wc.heap.size wc wc.drew := (Below.refl _ _).drew
        refine take_at 1 67 (v := ?_) rfl rfl (by kernel_rfl) (by kernel_rfl) (by kernel_rfl) (fun _ _ _ h => h) (Or.inl ⟨by rfl, ?_⟩) (by assumption) ?_
        rotate_left
        · intro w' hSw
          go_simp
          (try with_reducible rfl)
        (try simp only [Act.put]); (try simp only [List.setIfInBounds_toArray]); (try simp only [List.set_cons_succ]); (try simp only [List.set_cons_zero])
        refine take_at 2 68 (v := ?_) rfl rfl (by kernel_rfl) (by kernel_rfl) (by kernel_rfl) (fun _ _ _ h => h) (Or.inl ⟨by rfl, ?_⟩) (by assumption) ?_
        rotate_left
        · intro w' hSw
          go_simp
          (try with_reducible rfl)
        (try simp only [Act.put]); (try simp only [List.setIfInBounds_toArray]); (try simp only [List.set_cons_succ]); (try simp only [List.set_cons_zero])
        refine take_at 3 69 (v := ?_) rfl rfl (by kernel_rfl) (by kernel_rfl) (by kernel_rfl) (fun _ _ _ h => h) (Or.inl ⟨by rfl, ?_⟩) (by assumption) ?_
        rotate_left
        · intro w' hSw
          go_simp
          (try with_reducible rfl)
        (try simp only [Act.put]); (try simp only [List.setIfInBounds_toArray]); (try simp only [List.set_cons_succ]); (try simp only [List.set_cons_zero])
        generalize wc.drew = wz at hbz hHeld ⊢
        have hzw := hbz.size
        have hu := U_5.out.later hbz
        obtain ⟨x0, x1, x2, x3, x4⟩ := (show _ ∧ _ ∧ _ ∧ _ ∧ _ from ⟨hu.cell 0 rfl, hu.cell 1 rfl, hu.cell 2 rfl, hu.cell 3 rfl, hu.cell 4 rfl⟩)
        clear hu
        refine wpAnyH_ready (rs := [0]) (by kernel_rfl) (by simp) ?_
        refine AllReadyH.cons (i := 0) rfl (fun K0 hK => ?_) AllReadyH.nil
        go_simp
        refine hK.out _ _ hHeld (fun hHeld => ?_)
        clear hK K0
        (try simp only [Act.put]); (try simp only [List.setIfInBounds_toArray]); (try simp only [List.set_cons_succ]); (try simp only [List.set_cons_zero])
        clear x0 x1 x2 x3 x4
        refine wpAnyH_ready (rs := [4]) (by kernel_rfl) (by simp) ?_
        refine AllReadyH.cons (i := 4) rfl (fun K0 hK => ?_) AllReadyH.nil
        go_simp
        go_at_call 12
        refine (HD3.out wz ⟨A3, n3, c3, B3, q3, d3, X3, xn3, xc3, Y3, yn3, yc3, t3⟩ (HQ_5.out.below hbz) (HB_5.out.trans (hbz.mono HB_5.out.size))).mono ?_
        rintro _ we ⟨V4, gc, nc, ce, rfl, hv, ho, hn, hb⟩
        obtain ⟨A4, n4, c4, B4, q4, d4, X4, xn4, xc4, Y4, yn4, yc4, t4⟩ := V4
        dsimp only at hv ho hn ⊢
        have hbx : Below wc.heap.size wc we := hbz.trans (hb.mono hbz.size)
        refine hK.out _ _ (On.of hbx (fun b hb => hb.1)) (fun hHeld => ?_)
        clear hK K0
        (try simp only [Act.put]); (try simp only [List.setIfInBounds_toArray]); (try simp only [List.set_cons_succ]); (try simp only [List.set_cons_zero])
        refine take_at 5 65 (v := ?_) rfl rfl (by kernel_rfl) (by kernel_rfl) (by kernel_rfl) (fun _ _ _ h => h) (Or.inl ⟨by rfl, ?_⟩) (by assumption) ?_
        rotate_left
        · intro w' hSw
          go_simp
          (try with_reducible rfl)
        (try simp only [Act.put]); (try simp only [List.setIfInBounds_toArray]); (try simp only [List.set_cons_succ]); (try simp only [List.set_cons_zero])
        refine take_at 6 71 (v := ?_) rfl rfl (by kernel_rfl) (by kernel_rfl) (by kernel_rfl) (fun _ _ _ h => h) (Or.inl ⟨by rfl, ?_⟩) (by assumption) ?_
        rotate_left
        · intro w' hSw
          go_simp
          (try with_reducible rfl)
        (try simp only [Act.put]); (try simp only [List.setIfInBounds_toArray]); (try simp only [List.set_cons_succ]); (try simp only [List.set_cons_zero])
        refine take_at 7 72 (v := ?_) rfl rfl (by kernel_rfl) (by kernel_rfl) (by kernel_rfl) (fun _ _ _ h => h) (Or.inl ⟨by rfl, ?_⟩) (by assumption) ?_
        rotate_left
        · intro w' hSw
          go_simp
          (try with_reducible rfl)
        (try simp only [Act.put]); (try simp only [List.setIfInBounds_toArray]); (try simp only [List.set_cons_succ]); (try simp only [List.set_cons_zero])
        have HL_6 := Lib.hid (HL_5.out.trans (hbx.mono HL_5.out.size))
        have HV_6 := Lib.hid (HV_5.out.below hbx)
        have G_6 := Lib.hid (G_5.out.later hbx)
        have OS_6 := Lib.hid (OS_5.out.below hbx)
        have HB_6 := Lib.hid (HB_5.out.trans (hbx.mono HB_5.out.size))
        have HP_6 := Lib.hid (HP_5.out.below hbx)
        have PA_6 := Lib.hid (PA_5.out.below hbx)
        have S1_6 := Lib.hid (S1_5.out.later hbx)
        have U_6 := Lib.hid (U_5.out.later hbx)
        have HQ_6 := Lib.hid (HQ_5.out.below hbx)
        have PB_6 := Lib.hid (PB_5.out.below hbx)
        clear HL_5 HV_5 G_5 OS_5 HB_5 HP_5 PA_5 S1_5 U_5 HQ_5 PB_5
        have HR_6 := Lib.hid (hv)
        have PC_6 := Lib.hid (ho)
        have HNc := Lib.hid hn
        have hwe : wc.heap.size ≤ we.heap.size := hbx.size
        clear hv ho hn hb HD3
        obtain ⟨y0, y1, y2, y3, y4⟩ := (show _ ∧ _ ∧ _ ∧ _ ∧ _ from ⟨U_6.out.cell 0 rfl, U_6.out.cell 1 rfl, U_6.out.cell 2 rfl, U_6.out.cell 3 rfl, U_6.out.cell 4 rfl⟩)
        obtain ⟨f0, f1, f2, f3, f4⟩ := (show _ ∧ _ ∧ _ ∧ _ ∧ _ from ⟨U_6.out.loose 0, U_6.out.loose 1, U_6.out.loose 2, U_6.out.loose 3, U_6.out.loose 4⟩)
        refine wpAnyH_ready (rs := [8]) (by kernel_rfl) (by simp) ?_
        refine AllReadyH.cons (i := 8) rfl (fun K0 hK => ?_) AllReadyH.nil
        go_simp
        refine hK.out _ (((((we.setCell ⟨g16, 0, none⟩ (.slice A4 n4 c4)).setCell ⟨g16, 1, none⟩ (.slice B4 q4 d4)).setCell ⟨g16, 2, none⟩ (.slice X4 xn4 xc4)).setCell ⟨g16, 3, none⟩ (.slice Y4 yn4 yc4)).setCell ⟨g16, 4, none⟩ (.int .i64 t4)) (st_on hHeld (fun e => e.2 rfl) (.slice A4 n4 c4) (.slice B4 q4 d4) (.slice X4 xn4 xc4) (.slice Y4 yn4 yc4) (.int .i64 t4)) (fun hHeld => ?_)
        clear hK K0
        (try simp only [Act.put]); (try simp only [List.setIfInBounds_toArray]); (try simp only [List.set_cons_succ]); (try simp only [List.set_cons_zero])
        refine take_at 9 18 (v := ?_) rfl rfl (by kernel_rfl) (by kernel_rfl) (by kernel_rfl) (fun _ _ _ h => h) (Or.inl ⟨by rfl, ?_⟩) (by assumption) ?_
        rotate_left
        · intro w' hSw
          go_simp
          (try with_reducible rfl)
        (try simp only [Act.put]); (try simp only [List.setIfInBounds_toArray]); (try simp only [List.set_cons_succ]); (try simp only [List.set_cons_zero])
        refine wpAnyH_done (by kernel_rfl) ?_ _
        clear hHeld y0 y1 y2 y3 y4 f0 f1 f2 f3 f4
        have xHL := Lib.hid (st_below HL_6.out (show w.heap.size ≤ g16 by omega) (.slice A4 n4 c4) (.slice B4 q4 d4) (.slice X4 xn4 xc4) (.slice Y4 yn4 yc4) (.int .i64 t4))
        have xHV := Lib.hid (sk_put (V0 := ⟨A3, n3, c3, B3, q3, d3, X3, xn3, xc3, Y3, yn3, yc3, t3⟩) HV_6.out U_6.out (.slice A4 n4 c4) (.slice B4 q4 d4) (.slice X4 xn4 xc4) (.slice Y4 yn4 yc4) (.int .i64 t4))
        have xG := Lib.hid (st_other G_6.out (show g16 ≠ g by omega) (.slice A4 n4 c4) (.slice B4 q4 d4) (.slice X4 xn4 xc4) (.slice Y4 yn4 yc4) (.int .i64 t4))
        have xOS := Lib.hid (own_st OS_6.out (OS_6.out.ne U_6.out (by decide)) (.slice A4 n4 c4) (.slice B4 q4 d4) (.slice X4 xn4 xc4) (.slice Y4 yn4 yc4) (.int .i64 t4))
        have xHP := Lib.hid (sk_put (V0 := ⟨A3, n3, c3, B3, q3, d3, X3, xn3, xc3, Y3, yn3, yc3, t3⟩) HP_6.out U_6.out (.slice A4 n4 c4) (.slice B4 q4 d4) (.slice X4 xn4 xc4) (.slice Y4 yn4 yc4) (.int .i64 t4))
        have xPA := Lib.hid (own_st PA_6.out (PA_6.out.ne U_6.out (by decide)) (.slice A4 n4 c4) (.slice B4 q4 d4) (.slice X4 xn4 xc4) (.slice Y4 yn4 yc4) (.int .i64 t4))
        have xPB := Lib.hid (own_st PB_6.out (PB_6.out.ne U_6.out (by decide)) (.slice A4 n4 c4) (.slice B4 q4 d4) (.slice X4 xn4 xc4) (.slice Y4 yn4 yc4) (.int .i64 t4))
        have xPC := Lib.hid (own_st PC_6.out (PC_6.out.ne U_6.out (by decide)) (.slice A4 n4 c4) (.slice B4 q4 d4) (.slice X4 xn4 xc4) (.slice Y4 yn4 yc4) (.int .i64 t4))
        have xHR := Lib.hid (sk_put (V0 := ⟨A3, n3, c3, B3, q3, d3, X3, xn3, xc3, Y3, yn3, yc3, t3⟩) HR_6.out U_6.out (.slice A4 n4 c4) (.slice B4 q4 d4) (.slice X4 xn4 xc4) (.slice Y4 yn4 yc4) (.int .i64 t4))
        have xS1 := Lib.hid (st_other S1_6.out (show g16 ≠ g13 by omega) (.slice A4 n4 c4) (.slice B4 q4 d4) (.slice X4 xn4 xc4) (.slice Y4 yn4 yc4) (.int .i64 t4))
        have xU := Lib.hid (st_put U_6.out rfl (.slice A4 n4 c4) (.slice B4 q4 d4) (.slice X4 xn4 xc4) (.slice Y4 yn4 yc4) (.int .i64 t4))
        have hgue : g16 < we.heap.size := U_6.out.lt
        clear HL_6 HV_6 G_6 OS_6 HB_6 HP_6 PA_6 S1_6 U_6 HQ_6 PB_6 HR_6 PC_6
        have hxs : (((((we.setCell ⟨g16, 0, none⟩ (.slice A4 n4 c4)).setCell ⟨g16, 1, none⟩ (.slice B4 q4 d4)).setCell ⟨g16, 2, none⟩ (.slice X4 xn4 xc4)).setCell ⟨g16, 3, none⟩ (.slice Y4 yn4 yc4)).setCell ⟨g16, 4, none⟩ (.int .i64 t4)).heap.size = we.heap.size := by simp [World.setCell]
        generalize ((((we.setCell ⟨g16, 0, none⟩ (.slice A4 n4 c4)).setCell ⟨g16, 1, none⟩ (.slice B4 q4 d4)).setCell ⟨g16, 2, none⟩ (.slice X4 xn4 xc4)).setCell ⟨g16, 3, none⟩ (.slice Y4 yn4 yc4)).setCell ⟨g16, 4, none⟩ (.int .i64 t4) = wx at xHL xHV xG xOS xHP xPA xPB xPC xHR xS1 xU hxs ⊢
        have HL_0 := xHL
        have HV_0 := xHV
        have G_0 := xG
        have OS_0 := xOS
        have HP_0 := xHP
        have PA_0 := xPA
        have PB_0 := xPB
        have PC_0 := xPC
        have HR_0 := xHR
        have S1_0 := xS1
        have U_0 := xU
        clear xHL xHV xG xOS xHP xPA xPB xPC xHR xS1 xU
        have hnab : O2.length = nb := HNb.out
        have hnac : O3.length = nc := HNc.out
        have hgux : g16 < wx.heap.size := by omega
        go_upto_region 15 with (at_builtin; first
          | (refine wpList_append_all rps 44 Tryz.underlying44 info_rps rfl _ rfl (.const (.slice none 0 0)) (.tmp 73) rfl wx.heap.size (.slice none 0 0) [] O2 rfl OwnS.nil ⟨gb, 0, none⟩ nb cb rfl HNb.out PB_0.out.rd (by simp; omega) (by simp; omega) (Nat.le_refl _) ?_
             intro va wf ho1 hg1
             have HOA := Lib.hid ho1
             have HBA := Lib.hid ((Below.refl wx.heap.size wx).grown hg1 (Nat.le_refl _) (fun k e => by cases e))
             have PC_f := Lib.hid (PC_0.out.below HBA.out)
             clear ho1 hg1)
          | (refine wpList_append_all rps 44 Tryz.underlying44 info_rps rfl _ rfl (.tmp 74) (.tmp 75) rfl wx.heap.size _ ([] ++ O2) O3 rfl HOA.out ⟨gc, 0, none⟩ nc ce rfl HNc.out PC_f.out.rd (by simp; omega) (by simp; omega) HBA.out.size ?_
             intro vb wh ho2 hg2
             have HOB := Lib.hid ho2
             have HBB := Lib.hid (HBA.out.grown hg2 HBA.out.size HOA.out.rowLt)
             clear ho2 hg2))
        have HL_1 := Lib.hid (HL_0.out.trans (HBB.out.mono HL_0.out.size))
        have HV_1 := Lib.hid (HV_0.out.below HBB.out)
        have G_1 := Lib.hid (G_0.out.later HBB.out)
        have OS_1 := Lib.hid (OS_0.out.below HBB.out)
        have HP_1 := Lib.hid (HP_0.out.below HBB.out)
        have PA_1 := Lib.hid (PA_0.out.below HBB.out)
        have PB_1 := Lib.hid (PB_0.out.below HBB.out)
        have PC_1 := Lib.hid (PC_0.out.below HBB.out)
        have HR_1 := Lib.hid (HR_0.out.below HBB.out)
        have S1_1 := Lib.hid (S1_0.out.later HBB.out)
        have U_1 := Lib.hid (U_0.out.later HBB.out)
        clear HL_0 HV_0 G_0 OS_0 HP_0 PA_0 PB_0 PC_0 HR_0 S1_0 U_0
        have hna9 : na ≤ 1900000 := by have h1 := HNa.out; have h2 := HRL.out; omega
        have hnall : ([] ++ O2 ++ O3).length = na := by have := HNa.out; simpa using this
        obtain ⟨AB, cab, rfl, hab, hab1, hab2, hab3⟩ := HOB.out.form
        rw [hnall] at hab1 hab3 ⊢
        have HAB_1 := Lib.hid hab
        clear HOA HOB HBA HBB PC_f hab
        obtain ⟨x0, x1, x2, x3, x4⟩ := (show _ ∧ _ ∧ _ ∧ _ ∧ _ from ⟨S1_1.out.cell 0 rfl, S1_1.out.cell 1 rfl, S1_1.out.cell 2 rfl, S1_1.out.cell 3 rfl, S1_1.out.cell 4 rfl⟩)
        obtain ⟨y0, y1, y2, y3, y4⟩ := (show _ ∧ _ ∧ _ ∧ _ ∧ _ from ⟨U_1.out.cell 0 rfl, U_1.out.cell 1 rfl, U_1.out.cell 2 rfl, U_1.out.cell 3 rfl, U_1.out.cell 4 rfl⟩)
        have HS1 := Lib.hid (sk_same ⟨A2, n2, c2, B2, q2, d2, X2, xn2, xc2, Y2, yn2, yc2, t2⟩ ⟨A4, n4, c4, B4, q4, d4, X4, xn4, xc4, Y4, yn4, yc4, t4⟩ _ [] [] _ wh HP_1.out HR_1.out (right_len hU1k.right).2 hU1k.few (by omega))
        unfold BoolRes Sv.val Sv.cells at HS1
        dsimp only at HS1
        go_upto_region 17 with (first
          | (go_at_call 13; refine HS1.out.mono ?_; rintro _ wi ⟨rfl, hbi⟩
             have HXi := Lib.hid hbi
             clear hbi x0 x1 x2 x3 x4 y0 y1 y2 y3 y4))
        clear HS1
        clear HP_1 HR_1 S1_1 U_1 PB_1 PC_1
        have HL_2 := Lib.hid (HL_1.out.trans (HXi.out.mono HL_1.out.size))
        have HV_2 := Lib.hid (HV_1.out.below HXi.out)
        have G_2 := Lib.hid (G_1.out.later HXi.out)
        have OS_2 := Lib.hid (OS_1.out.below HXi.out)
        have PA_2 := Lib.hid (PA_1.out.below HXi.out)
        have HAB_2 := Lib.hid (HAB_1.out.below HXi.out)
        clear HL_1 HV_1 G_1 OS_1 PA_1 HAB_1
        clear HXi
        have hlist : ([] ++ O2 ++ O3) = O2 ++ O3 := by simp
        rw [hlist] at HAB_2
        generalize O2 ++ O3 = OO at HAB_2 PA_2 HNa
        have hnaOO : OO.length = na := HNa.out
        go_wp2
        go_loopw [90] (fun i wj => ∃ j : Nat, j ≤ na ∧ i = .int .i64 (j : Int) ∧ Below wi.heap.size wi wj) (fun i _ => na - (intOf i).toNat)
        case atStart => exact ⟨0, Nat.zero_le _, rfl, Below.refl _ _⟩
        case round =>
          obtain ⟨j, hj, rfl, hbj⟩ := hrel
          by_cases hlt : j < na
          · obtain ⟨⟨ze, zi⟩, hz⟩ : ∃ z, OO[j]? = some z := ⟨_, List.getElem?_eq_getElem (by omega)⟩
            have u0 : wr.cell? ⟨ga, j * 2, none⟩ = some (.int .i64 ze) := (PA_2.out.below hbj).at_ hz 0 _ rfl
            have u1 : wr.cell? ⟨ga, j * 2 + 1, none⟩ = some (.int .i64 zi) := (PA_2.out.below hbj).at_ hz 1 _ rfl
            obtain ⟨ad2, rfl, hat2⟩ := (HAB_2.out.below hbj).at_ hz
            obtain ⟨v0, v1⟩ := rps_cells hat2
            go_upto_region 20 with fail
            refine wp_region_held_drew (S := fun w' => Below wr.heap.size wr w') (by kernel_rfl) (Below.refl _ _).drew (fun hHeld => ?_)
            refine take_at 0 93 (v := ?_) rfl rfl (by kernel_rfl) (by kernel_rfl) (by kernel_rfl) (fun _ _ _ h => h) (Or.inl ⟨by rfl, ?_⟩) (by assumption) ?_
            rotate_left
            · intro w' hSw
              go_simp
              (try with_reducible rfl)
            (try simp only [Act.put]); (try simp only [List.setIfInBounds_toArray]); (try simp only [List.set_cons_succ]); (try simp only [List.set_cons_zero])
            refine take_at 1 94 (v := ?_) rfl rfl (by kernel_rfl) (by kernel_rfl) (by kernel_rfl) (fun _ _ _ h => h) (Or.inl ⟨by rfl, ?_⟩) (by assumption) ?_
            rotate_left
            · intro w' hSw
              go_simp
              (try with_reducible rfl)
            (try simp only [Act.put]); (try simp only [List.setIfInBounds_toArray]); (try simp only [List.set_cons_succ]); (try simp only [List.set_cons_zero])
            refine take_at 2 95 (v := ?_) rfl rfl (by kernel_rfl) (by kernel_rfl) (by kernel_rfl) (fun _ _ _ h => h) (Or.inl ⟨by rfl, ?_⟩) (by assumption) ?_
            rotate_left
            · intro w' hSw
              go_simp
              (try with_reducible rfl)
            (try simp only [Act.put]); (try simp only [List.setIfInBounds_toArray]); (try simp only [List.set_cons_succ]); (try simp only [List.set_cons_zero])
            refine take_at 3 96 (v := ?_) rfl rfl (by kernel_rfl) (by kernel_rfl) (by kernel_rfl) (fun _ _ _ h => h) (Or.inl ⟨by rfl, ?_⟩) (by assumption) ?_
            rotate_left
            · intro w' hSw
              have hSw' := hSw
              (try dsimp only at hSw')
              have k0 := (hSw'.cell (cell_lt u0)).trans u0
              have k1 := (hSw'.cell (cell_lt u1)).trans u1
              go_simp
              (try with_reducible rfl)
            (try simp only [Act.put]); (try simp only [List.setIfInBounds_toArray]); (try simp only [List.set_cons_succ]); (try simp only [List.set_cons_zero])
            refine take_at 4 97 (v := ?_) rfl rfl (by kernel_rfl) (by kernel_rfl) (by kernel_rfl) (fun _ _ _ h => h) (Or.inl ⟨by rfl, ?_⟩) (by assumption) ?_
            rotate_left
            · intro w' hSw
              go_simp
              (try with_reducible rfl)
            (try simp only [Act.put]); (try simp only [List.setIfInBounds_toArray]); (try simp only [List.set_cons_succ]); (try simp only [List.set_cons_zero])
            refine take_at 5 98 (v := ?_) rfl rfl (by kernel_rfl) (by kernel_rfl) (by kernel_rfl) (fun _ _ _ h => h) (Or.inl ⟨by rfl, ?_⟩) (by assumption) ?_
            rotate_left
            · intro w' hSw
              go_simp
              (try with_reducible rfl)
            (try simp only [Act.put]); (try simp only [List.setIfInBounds_toArray]); (try simp only [List.set_cons_succ]); (try simp only [List.set_cons_zero])
            refine take_at 6 99 (v := ?_) rfl rfl (by kernel_rfl) (by kernel_rfl) (by kernel_rfl) (fun _ _ _ h => h) (Or.inl ⟨by rfl, ?_⟩) (by assumption) ?_
            rotate_left
            · intro w' hSw
              go_simp
              (try with_reducible rfl)
            (try simp only [Act.put]); (try simp only [List.setIfInBounds_toArray]); (try simp only [List.set_cons_succ]); (try simp only [List.set_cons_zero])
            refine take_at 7 100 (v := ?_) rfl rfl (by kernel_rfl) (by kernel_rfl) (by kernel_rfl) (fun _ _ _ h => h) (Or.inl ⟨by rfl, ?_⟩) (by assumption) ?_
            rotate_left
            · intro w' hSw
              have hSw' := hSw
              (try dsimp only at hSw')
              have k0 := (hSw'.cell (cell_lt v0)).trans v0
              have k1 := (hSw'.cell (cell_lt v1)).trans v1
              go_simp
              (try with_reducible rfl)
            (try simp only [Act.put]); (try simp only [List.setIfInBounds_toArray]); (try simp only [List.set_cons_succ]); (try simp only [List.set_cons_zero])
            refine take_at 8 101 (v := ?_) rfl rfl (by kernel_rfl) (by kernel_rfl) (by kernel_rfl) (fun _ _ _ h => h) (Or.inl ⟨by rfl, ?_⟩) (by assumption) ?_
            rotate_left
            · intro w' hSw
              go_simp
              (try with_reducible rfl)
            (try simp only [Act.put]); (try simp only [List.setIfInBounds_toArray]); (try simp only [List.set_cons_succ]); (try simp only [List.set_cons_zero])
            refine wpAnyH_done (by kernel_rfl) ?_ _
            have hbk2 : Below wi.heap.size wi wr.drew := hbj.drew
            clear u0 u1 v0 v1 hat2
            go_wp2
            go_roundw
            · exact ⟨j + 1, by omega, by first | rfl | (congr 1; omega), hbk2⟩
            · simp [intOf]; omega
          · obtain rfl : j = na := by omega
            clear PA_2 HAB_2
            have HL_3 := Lib.hid (HL_2.out.trans (hbj.mono HL_2.out.size))
            have HV_3 := Lib.hid (HV_2.out.below hbj)
            have G_3 := Lib.hid (G_2.out.later hbj)
            have OS_3 := Lib.hid (OS_2.out.below hbj)
            clear HL_2 HV_2 G_2 OS_2
            clear hbj
            have hU4 := runR_os (rs := rs) (X := ⟨s0, [], [], ls⟩)
            simp only [List.length_nil, Nat.zero_add, HRL.out] at hU4
            have D4 := Lib.hid (brun_any ⟨A1, n1, c1, B1, q1, d1, X1, xn1, xc1, Y1, yn1, yc1, t1⟩ ⟨s0, [], [], ls⟩ [] wr RA k rc rs la ln lc HV_3.out OK0.out (by decide) (Nat.zero_le _) (HH.out.below HL_3.out) OS_3.out.rd HRL.out (by omega) (HLS.out.below HL_3.out) HLN.out hlc (by omega) rfl)
            unfold RnRes Sv.val Sv.cells at D4
            dsimp only at D4
            obtain ⟨x0, x1, x2, x3, x4⟩ := (show _ ∧ _ ∧ _ ∧ _ ∧ _ from ⟨G_3.out.cell 0 rfl, G_3.out.cell 1 rfl, G_3.out.cell 2 rfl, G_3.out.cell 3 rfl, G_3.out.cell 4 rfl⟩)
            go_upto_region 24 with (first
              | (go_at_call 12; refine D4.out.mono ?_; rintro _ wk ⟨V, gd, nd, cd, rfl, hv, ho, hn, hb⟩
                 obtain ⟨A5, n5, c5, B5, q5, d5, X5, xn5, xc5, Y5, yn5, yc5, t5⟩ := V
                 dsimp only at hv ho hn ⊢
                 have HVd := Lib.hid hv
                 have HXk := Lib.hid hb
                 have HOd := Lib.hid ho
                 have HNd := Lib.hid hn
                 clear hv ho hn hb x0 x1 x2 x3 x4))
            have HL_4 := Lib.hid (HL_3.out.trans (HXk.out.mono HL_3.out.size))
            have HV_4 := Lib.hid (HV_3.out.below HXk.out)
            have G_4 := Lib.hid (G_3.out.later HXk.out)
            have OS_4 := Lib.hid (OS_3.out.below HXk.out)
            clear HL_3 HV_3 G_3 OS_3
            have HT_4 := Lib.hid (HVd.out)
            have PD_4 := Lib.hid (HOd.out)
            clear HXk HVd HOd D4
            have hndk : nd = k := by have := HNd.out; omega
            have hgk : g < wk.heap.size := G_4.out.lt
            have al := (Below.refl wk.heap.size wk).alloc (Nat.le_refl _) (.cells #[.slice A5 n5 c5, .slice B5 q5 d5, .slice X5 xn5 xc5, .slice Y5 yn5 yc5, .int .i64 t5] 34)
            have nb0 := Blk.new wk 34 #[.slice A5 n5 c5, .slice B5 q5 d5, .slice X5 xn5 xc5, .slice Y5 yn5 yc5, .int .i64 t5]
            have HL_5 := Lib.hid (HL_4.out.trans (al.mono HL_4.out.size))
            have HV_5 := Lib.hid (HV_4.out.below al)
            have G_5 := Lib.hid (G_4.out.later al)
            have OS_5 := Lib.hid (OS_4.out.below al)
            have HT_5 := Lib.hid (HT_4.out.below al)
            have PD_5 := Lib.hid (PD_4.out.below al)
            clear al HL_4 HV_4 G_4 OS_4 HT_4 PD_4
            have S4_5 := Lib.hid (nb0)
            clear nb0
            generalize wk.alloc (.cells #[.slice A5 n5 c5, .slice B5 q5 d5, .slice X5 xn5 xc5, .slice Y5 yn5 yc5, .int .i64 t5] 34) = wm at HL_5 HV_5 G_5 OS_5 HT_5 PD_5 S4_5 ⊢
            generalize wk.heap.size = g21 at S4_5 PD_5 hgk ⊢
            subst hndk
            have hgwl : w.heap.size ≤ g := hg
            have hgm : g < wm.heap.size := G_5.out.lt
            go_wp2
            go_loopw [23, 113] (fun lv i wj => ∃ (j : Nat) (V : Sv) (la' : Option Addr) (ln' lc' : Nat), j ≤ nd ∧ i = .int .i64 (j : Int) ∧ lv = .slice la' ln' lc' ∧ Blk wj g 34 V.cells ∧ SkAt wj V (runR ⟨s0, [], [], ls⟩ (rs.take j)).T [] (runR ⟨s0, [], [], ls⟩ (rs.take j)).kl ∧ RdS flags w la' (runR ⟨s0, [], [], ls⟩ (rs.take j)).ls ∧ (runR ⟨s0, [], [], ls⟩ (rs.take j)).ls.length = ln' ∧ ln' ≤ lc' ∧ lc' ≤ 1900000 ∧ SkAt wj ⟨A5, n5, c5, B5, q5, d5, X5, xn5, xc5, Y5, yn5, yc5, t5⟩ (runR ⟨s0, [], [], ls⟩ rs).T [] (runR ⟨s0, [], [], ls⟩ rs).kl ∧ Blk wj g21 34 #[.slice A5 n5 c5, .slice B5 q5 d5, .slice X5 xn5 xc5, .slice Y5 yn5 yc5, .int .i64 t5] ∧ OwnS rqs wj w2.heap.size (.slice RA nd rc) rs ∧ OwnS rps wj 0 (.slice (some ⟨gd, 0, none⟩) nd cd) (runR ⟨s0, [], [], ls⟩ rs).os ∧ Below w.heap.size w wj) (fun _ i _ => nd - (intOf i).toNat)
            case atStart => exact ⟨0, ⟨A1, n1, c1, B1, q1, d1, X1, xn1, xc1, Y1, yn1, yc1, t1⟩, la, ln, lc, Nat.zero_le _, rfl, rfl, G_5.out, HV_5.out, HLS.out, HLN.out, hlc, hm, HT_5.out, S4_5.out, OS_5.out, PD_5.out.less (Nat.zero_le _), HL_5.out⟩
            case round =>
              obtain ⟨j, V, la', ln', lc', hj, rfl, rfl, hG, hV, hF, hFn, hFc, hFm, hT, hS, hO, hP, hB⟩ := hrel
              obtain ⟨A6, n6, c6, B6, q6, d6, X6, xn6, xc6, Y6, yn6, yc6, t6⟩ := V
              unfold Sv.cells at hG
              dsimp only at hG
              have G_0 := Lib.hid hG
              have HV_0 := Lib.hid hV
              have HL_0 := Lib.hid hB
              have HT_0 := Lib.hid hT
              have S4_0 := Lib.hid hS
              have OS_0 := Lib.hid hO
              have PD_0 := Lib.hid hP
              have FL := Lib.hid hF
              have FN := Lib.hid hFn
              clear hG hV hF hFn hT hS hO hP hB
              clear HL_5 HV_5 G_5 OS_5 HT_5 PD_5 S4_5
              by_cases hlt : j < nd
              · obtain ⟨r, hrk⟩ : ∃ r, rs[j]? = some r := ⟨_, List.getElem?_eq_getElem (by rw [HRL.out]; exact hlt)⟩
                have hnx := runR_at (X := ⟨s0, [], [], ls⟩) hrk
                have hgt := runR_get (X := ⟨s0, [], [], ls⟩) hrk rfl
                obtain ⟨ad, rfl, hat⟩ := OS_0.out.rd.at_ hrk
                obtain ⟨p0, p1, p2, p3, p4, p5, p6⟩ := rqs_cells hat
                have hok1 : Ok (runR ⟨s0, [], [], ls⟩ (rs.take j)).T := runR_ok OK0.out
                have hkl1 := runR_kl (rs := rs.take j) (X := ⟨s0, [], [], ls⟩) (Nat.zero_le _)
                generalize runR ⟨s0, [], [], ls⟩ (rs.take j) = Y at hnx hgt hok1 hkl1 HV_0 FL FN
                obtain ⟨T, kl, os, lx⟩ := Y
                unfold goR at hnx
                unfold Ru.at at hnx hgt
                dsimp only at hnx hgt hok1 hkl1 HV_0 FL FN
                have hble := bkO_le T kl r lx
                have HD1 := Lib.hid (fun W (h1 : SkAt W ⟨A6, n6, c6, B6, q6, d6, X6, xn6, xc6, Y6, yn6, yc6, t6⟩ T [] kl) (h2 : Below w.heap.size w W) => bdo_any ⟨A6, n6, c6, B6, q6, d6, X6, xn6, xc6, Y6, yn6, yc6, t6⟩ T [] kl r W la' ln' lc' lx h1 ⟨hok1.right, hok1.few, by decide, by omega⟩ (HH.out.below h2) (FL.out.below h2) FN.out (by omega) (by omega))
                unfold BkRes at HD1
                generalize bkO T kl r lx = Z at HD1 hnx hgt hble
                obtain ⟨T9, K9, E9, I9, N9⟩ := Z
                dsimp only at HD1 hnx hgt hble
                have HNX := Lib.hid hnx
                have HGT := Lib.hid hgt
                have HLE := Lib.hid hble
                obtain ⟨rk, ro, ra, rb, rm, rl, ru⟩ := r
                unfold Sv.val Sv.cells Rq.val at HD1
                dsimp only at p0 p1 p2 p3 p4 p5 p6 HD1
                clear hrk hat hnx hgt hble hok1 hkl1
                have hg21 : g ≠ g21 := by omega
                go_upto_region 28 with fail
                have al := (Below.refl wr.heap.size wr).alloc (Nat.le_refl _) (.cells (rqC rk ro ra rb rm rl ru) 42)
                have nb0 := Blk.new wr 42 (rqC rk ro ra rb rm rl ru)
                have HL_1 := Lib.hid (HL_0.out.trans (al.mono HL_0.out.size))
                have HV_1 := Lib.hid (HV_0.out.below al)
                have G_1 := Lib.hid (G_0.out.later al)
                have HT_1 := Lib.hid (HT_0.out.below al)
                have S4_1 := Lib.hid (S4_0.out.later al)
                have OS_1 := Lib.hid (OS_0.out.below al)
                have PD_1 := Lib.hid (PD_0.out.below al)
                clear al HL_0 HV_0 G_0 HT_0 S4_0 OS_0 PD_0
                have R_1 := Lib.hid (nb0)
                clear nb0
                generalize wr.alloc (.cells (rqC rk ro ra rb rm rl ru) 42) = wb at HL_1 HV_1 G_1 HT_1 S4_1 OS_1 PD_1 R_1 ⊢
                clear p0 p1 p2 p3 p4 p5 p6
                generalize wr.heap.size = gq at R_1 ⊢
                have D1 := Lib.hid (HD1.out wb HV_1.out HL_1.out)
                obtain ⟨x0, x1, x2, x3, x4⟩ := (show _ ∧ _ ∧ _ ∧ _ ∧ _ from ⟨G_1.out.cell 0 rfl, G_1.out.cell 1 rfl, G_1.out.cell 2 rfl, G_1.out.cell 3 rfl, G_1.out.cell 4 rfl⟩)
                obtain ⟨r0, r1, r2, r3, r4, r5, r6⟩ := (show _ ∧ _ ∧ _ ∧ _ ∧ _ ∧ _ ∧ _ from ⟨R_1.out.cell 0 rfl, R_1.out.cell 1 rfl, R_1.out.cell 2 rfl, R_1.out.cell 3 rfl, R_1.out.cell 4 rfl, R_1.out.cell 5 rfl, R_1.out.cell 6 rfl⟩)
                go_upto_region 29 with (first
                  | (go_at_call 14; refine D1.out.mono ?_; rintro _ we ⟨V, rfl, hv, hb, -⟩
                     obtain ⟨A7, n7, c7, B7, q7, d7, X7, xn7, xc7, Y7, yn7, yc7, t7⟩ := V
                     dsimp only at hv ⊢
                     have HVa := Lib.hid hv
                     have HXe := Lib.hid hb
                     clear hv hb x0 x1 x2 x3 x4 r0 r1 r2 r3 r4 r5 r6))
                clear R_1 HV_1
                have HL_2 := Lib.hid (HL_1.out.trans (HXe.out.mono HL_1.out.size))
                have G_2 := Lib.hid (G_1.out.later HXe.out)
                have HT_2 := Lib.hid (HT_1.out.below HXe.out)
                have S4_2 := Lib.hid (S4_1.out.later HXe.out)
                have OS_2 := Lib.hid (OS_1.out.below HXe.out)
                have PD_2 := Lib.hid (PD_1.out.below HXe.out)
                clear HL_1 G_1 HT_1 S4_1 OS_1 PD_1
                have HP_2 := Lib.hid (HVa.out)
                clear HVa HXe D1 HD1
                have hgwe : g < we.heap.size := G_2.out.lt
                have hzwe : g21 < we.heap.size := S4_2.out.lt
                have al := (Below.refl we.heap.size we).alloc (Nat.le_refl _) (.cells #[.slice A7 n7 c7, .slice B7 q7 d7, .slice X7 xn7 xc7, .slice Y7 yn7 yc7, .int .i64 t7] 34)
                replace al := al.alloc (by simp; try omega) (.cells #[.int .i64 E9, .int .i64 I9] 50)
                have nb0 := (Blk.new we 34 #[.slice A7 n7 c7, .slice B7 q7 d7, .slice X7 xn7 xc7, .slice Y7 yn7 yc7, .int .i64 t7]).more (.cells #[.int .i64 E9, .int .i64 I9] 50)
                have nb1 := Blk.new (we.alloc (.cells #[.slice A7 n7 c7, .slice B7 q7 d7, .slice X7 xn7 xc7, .slice Y7 yn7 yc7, .int .i64 t7] 34)) 50 #[.int .i64 E9, .int .i64 I9]
                rw [alloc_size] at nb1
                have HL_3 := Lib.hid (HL_2.out.trans (al.mono HL_2.out.size))
                have G_3 := Lib.hid (G_2.out.later al)
                have HT_3 := Lib.hid (HT_2.out.below al)
                have S4_3 := Lib.hid (S4_2.out.later al)
                have OS_3 := Lib.hid (OS_2.out.below al)
                have PD_3 := Lib.hid (PD_2.out.below al)
                have HP_3 := Lib.hid (HP_2.out.below al)
                clear al HL_2 G_2 HT_2 S4_2 OS_2 PD_2 HP_2
                have S1_3 := Lib.hid (nb0)
                have P1_3 := Lib.hid (nb1)
                clear nb0 nb1
                generalize (we.alloc (.cells #[.slice A7 n7 c7, .slice B7 q7 d7, .slice X7 xn7 xc7, .slice Y7 yn7 yc7, .int .i64 t7] 34)).alloc (.cells #[.int .i64 E9, .int .i64 I9] 50) = wf at HL_3 G_3 HT_3 S4_3 OS_3 PD_3 HP_3 S1_3 P1_3 ⊢
                generalize we.heap.size = g26 at S1_3 P1_3 hgwe hzwe ⊢
                have u0 : wf.cell? ⟨gd, j * 2, none⟩ = some (.int .i64 E9) := PD_3.out.at_ HGT.out 0 _ rfl
                have u1 : wf.cell? ⟨gd, j * 2 + 1, none⟩ = some (.int .i64 I9) := PD_3.out.at_ HGT.out 1 _ rfl
                have hji : ¬ (nd : Int) ≤ (j : Int) := by omega
                have qf := decide_eq_false hji
                refine wp_region_held_drew (S := fun w' => Below wf.heap.size wf w') (by kernel_rfl) (Below.refl _ _).drew (fun hHeld => ?_)
                refine take_at 0 126 (v := ?_) rfl rfl (by kernel_rfl) (by kernel_rfl) (by kernel_rfl) (fun _ _ _ h => h) (Or.inl ⟨by rfl, ?_⟩) (by assumption) ?_
                rotate_left
                · intro w' hSw
                  go_simp
                  (try with_reducible rfl)
                (try simp only [Act.put]); (try simp only [List.setIfInBounds_toArray]); (try simp only [List.set_cons_succ]); (try simp only [List.set_cons_zero])
                refine take_at 1 127 (v := ?_) rfl rfl (by kernel_rfl) (by kernel_rfl) (by kernel_rfl) (fun _ _ _ h => h) (Or.inl ⟨by rfl, ?_⟩) (by assumption) ?_
                rotate_left
                · intro w' hSw
                  go_simp
                  (try with_reducible rfl)
                (try simp only [Act.put]); (try simp only [List.setIfInBounds_toArray]); (try simp only [List.set_cons_succ]); (try simp only [List.set_cons_zero])
                refine take_at 2 128 (v := ?_) rfl rfl (by kernel_rfl) (by kernel_rfl) (by kernel_rfl) (fun _ _ _ h => h) (Or.inl ⟨by rfl, ?_⟩) (by assumption) ?_
                rotate_left
                · intro w' hSw
                  go_simp
                  (try with_reducible rfl)
                (try simp only [Act.put]); (try simp only [List.setIfInBounds_toArray]); (try simp only [List.set_cons_succ]); (try simp only [List.set_cons_zero])
                refine take_at 3 129 (v := ?_) rfl rfl (by kernel_rfl) (by kernel_rfl) (by kernel_rfl) (fun _ _ _ h => h) (Or.inl ⟨by rfl, ?_⟩) (by assumption) ?_
                rotate_left
                · intro w' hSw
                  go_simp
                  (try with_reducible rfl)
                (try simp only [Act.put]); (try simp only [List.setIfInBounds_toArray]); (try simp only [List.set_cons_succ]); (try simp only [List.set_cons_zero])
                refine take_at 4 130 (v := ?_) rfl rfl (by kernel_rfl) (by kernel_rfl) (by kernel_rfl) (fun _ _ _ h => h) (Or.inl ⟨by rfl, ?_⟩) (by assumption) ?_
                rotate_left
                · intro w' hSw
                  go_simp
                  (try with_reducible rfl)
                (try simp only [Act.put]); (try simp only [List.setIfInBounds_toArray]); (try simp only [List.set_cons_succ]); (try simp only [List.set_cons_zero])
                refine take_at 5 131 (v := ?_) rfl rfl (by kernel_rfl) (by kernel_rfl) (by kernel_rfl) (fun _ _ _ h => h) (Or.inl ⟨by rfl, ?_⟩) (by assumption) ?_
                rotate_left
                · intro w' hSw
                  go_simp
                  (try with_reducible rfl)
                (try simp only [Act.put]); (try simp only [List.setIfInBounds_toArray]); (try simp only [List.set_cons_succ]); (try simp only [List.set_cons_zero])
                refine take_at 6 132 (v := ?_) rfl rfl (by kernel_rfl) (by kernel_rfl) (by kernel_rfl) (fun _ _ _ h => h) (Or.inl ⟨by rfl, ?_⟩) (by assumption) ?_
                rotate_left
                · intro w' hSw
                  go_simp
                  (try with_reducible rfl)
                (try simp only [Act.put]); (try simp only [List.setIfInBounds_toArray]); (try simp only [List.set_cons_succ]); (try simp only [List.set_cons_zero])
                refine take_at 7 133 (v := ?_) rfl rfl (by kernel_rfl) (by kernel_rfl) (by kernel_rfl) (fun _ _ _ h => h) (Or.inl ⟨by rfl, ?_⟩) (by assumption) ?_
                rotate_left
                · intro w' hSw
                  go_simp
                  (try with_reducible rfl)
                (try simp only [Act.put]); (try simp only [List.setIfInBounds_toArray]); (try simp only [List.set_cons_succ]); (try simp only [List.set_cons_zero])
                refine take_at 8 134 (v := ?_) rfl rfl (by kernel_rfl) (by kernel_rfl) (by kernel_rfl) (fun _ _ _ h => h) (Or.inl ⟨by rfl, ?_⟩) (by assumption) ?_
                rotate_left
                · intro w' hSw
                  have hSw' := hSw
                  (try dsimp only at hSw')
                  have k0 := (hSw'.cell (cell_lt u0)).trans u0
                  have k1 := (hSw'.cell (cell_lt u1)).trans u1
                  go_simp
                  (try with_reducible rfl)
                (try simp only [Act.put]); (try simp only [List.setIfInBounds_toArray]); (try simp only [List.set_cons_succ]); (try simp only [List.set_cons_zero])
                refine take_at 9 135 (v := ?_) rfl rfl (by kernel_rfl) (by kernel_rfl) (by kernel_rfl) (fun _ _ _ h => h) (Or.inl ⟨by rfl, ?_⟩) (by assumption) ?_
                rotate_left
                · intro w' hSw
                  have hSw' := hSw
                  (try dsimp only at hSw')
                  obtain ⟨k0, k1⟩ := (show _ ∧ _ from ⟨(P1_3.out.later hSw').cell 0 rfl, (P1_3.out.later hSw').cell 1 rfl⟩)
                  go_simp
                  (try with_reducible rfl)
                (try simp only [Act.put]); (try simp only [List.setIfInBounds_toArray]); (try simp only [List.set_cons_succ]); (try simp only [List.set_cons_zero])
                refine take_at 10 136 (v := ?_) rfl rfl (by kernel_rfl) (by kernel_rfl) (by kernel_rfl) (fun _ _ _ h => h) (Or.inl ⟨by rfl, ?_⟩) (by assumption) ?_
                rotate_left
                · intro w' hSw
                  go_simp
                  (try with_reducible rfl)
                (try simp only [Act.put]); (try simp only [List.setIfInBounds_toArray]); (try simp only [List.set_cons_succ]); (try simp only [List.set_cons_zero])
                refine take_at 11 137 (v := ?_) rfl rfl (by kernel_rfl) (by kernel_rfl) (by kernel_rfl) (fun _ _ _ h => h) (Or.inl ⟨by rfl, ?_⟩) (by assumption) ?_
                rotate_left
                · intro w' hSw
                  go_simp
                  (try with_reducible rfl)
                (try simp only [Act.put]); (try simp only [List.setIfInBounds_toArray]); (try simp only [List.set_cons_succ]); (try simp only [List.set_cons_zero])
                refine wpAnyH_done (by kernel_rfl) ?_ _
                clear u0 u1 hHeld
                have hbd9 : Below wf.heap.size wf wf.drew := (Below.refl _ _).drew
                have HL_4 := Lib.hid (HL_3.out.trans (hbd9.mono HL_3.out.size))
                have G_4 := Lib.hid (G_3.out.later hbd9)
                have HT_4 := Lib.hid (HT_3.out.below hbd9)
                have S4_4 := Lib.hid (S4_3.out.later hbd9)
                have OS_4 := Lib.hid (OS_3.out.below hbd9)
                have PD_4 := Lib.hid (PD_3.out.below hbd9)
                have HP_4 := Lib.hid (HP_3.out.below hbd9)
                have S1_4 := Lib.hid (S1_3.out.later hbd9)
                have P1_4 := Lib.hid (P1_3.out.later hbd9)
                clear HL_3 G_3 HT_3 S4_3 OS_3 PD_3 HP_3 S1_3 P1_3
                clear hbd9
                generalize wf.drew = wq at HL_4 G_4 HT_4 S4_4 OS_4 PD_4 HP_4 S1_4 P1_4 ⊢
                have hgs : g ≠ g26 := by omega
                have hbk := fun W' => run_backb W' la' ln' lc' N9 (by have := HLE.out; have := FN.out; omega)
                go_upto_region 31 with fail
                refine wp_region_held_drew (S := fun w' => Blk w' g26 34 #[.slice A7 n7 c7, .slice B7 q7 d7, .slice X7 xn7 xc7, .slice Y7 yn7 yc7, .int .i64 t7]) (by kernel_rfl) S1_4.out.drew (fun hHeld => ?_)
                have hbd : Below wq.heap.size wq wq.drew := (Below.refl _ _).drew
                have HL_5 := Lib.hid (HL_4.out.trans (hbd.mono HL_4.out.size))
                have G_5 := Lib.hid (G_4.out.later hbd)
                have HT_5 := Lib.hid (HT_4.out.below hbd)
                have S4_5 := Lib.hid (S4_4.out.later hbd)
                have OS_5 := Lib.hid (OS_4.out.below hbd)
                have PD_5 := Lib.hid (PD_4.out.below hbd)
                have HP_5 := Lib.hid (HP_4.out.below hbd)
                have S1_5 := Lib.hid (S1_4.out.later hbd)
                have P1_5 := Lib.hid (P1_4.out.later hbd)
                clear HL_4 G_4 HT_4 S4_4 OS_4 PD_4 HP_4 S1_4 P1_4
                clear hbd
                generalize wq.drew = wn at hHeld HL_5 G_5 HT_5 S4_5 OS_5 PD_5 HP_5 S1_5 P1_5 ⊢
                refine take_at 0 138 (v := ?_) rfl rfl (by kernel_rfl) (by kernel_rfl) (by kernel_rfl) (fun _ _ _ h => h) (Or.inl ⟨by rfl, ?_⟩) (by assumption) ?_
                rotate_left
                · intro w' hSw
                  have hSw' := hSw
                  (try dsimp only at hSw')
                  obtain ⟨k0, k1, k2, k3, k4⟩ := (show _ ∧ _ ∧ _ ∧ _ ∧ _ from ⟨hSw'.cell 0 rfl, hSw'.cell 1 rfl, hSw'.cell 2 rfl, hSw'.cell 3 rfl, hSw'.cell 4 rfl⟩)
                  go_simp
                  (try with_reducible rfl)
                (try simp only [Act.put]); (try simp only [List.setIfInBounds_toArray]); (try simp only [List.set_cons_succ]); (try simp only [List.set_cons_zero])
                refine take_at 1 139 (v := ?_) rfl rfl (by kernel_rfl) (by kernel_rfl) (by kernel_rfl) (fun _ _ _ h => h) (Or.inl ⟨by rfl, ?_⟩) (by assumption) ?_
                rotate_left
                · intro w' hSw
                  go_simp
                  (try with_reducible rfl)
                (try simp only [Act.put]); (try simp only [List.setIfInBounds_toArray]); (try simp only [List.set_cons_succ]); (try simp only [List.set_cons_zero])
                refine take_at 2 140 (v := ?_) rfl rfl (by kernel_rfl) (by kernel_rfl) (by kernel_rfl) (fun _ _ _ h => h) (Or.inl ⟨by rfl, ?_⟩) (by assumption) ?_
                rotate_left
                · intro w' hSw
                  go_simp
                  (try with_reducible rfl)
                (try simp only [Act.put]); (try simp only [List.setIfInBounds_toArray]); (try simp only [List.set_cons_succ]); (try simp only [List.set_cons_zero])
                refine take_at 3 141 (v := ?_) rfl rfl (by kernel_rfl) (by kernel_rfl) (by kernel_rfl) (fun _ _ _ h => h) (Or.inl ⟨by rfl, ?_⟩) (by assumption) ?_
                rotate_left
                · intro w' hSw
                  go_simp
                  (try with_reducible rfl)
                (try simp only [Act.put]); (try simp only [List.setIfInBounds_toArray]); (try simp only [List.set_cons_succ]); (try simp only [List.set_cons_zero])
                obtain ⟨y0, y1, y2, y3, y4⟩ := (show _ ∧ _ ∧ _ ∧ _ ∧ _ from ⟨G_5.out.cell 0 rfl, G_5.out.cell 1 rfl, G_5.out.cell 2 rfl, G_5.out.cell 3 rfl, G_5.out.cell 4 rfl⟩)
                obtain ⟨f0, f1, f2, f3, f4⟩ := (show _ ∧ _ ∧ _ ∧ _ ∧ _ from ⟨G_5.out.loose 0, G_5.out.loose 1, G_5.out.loose 2, G_5.out.loose 3, G_5.out.loose 4⟩)
                refine wpAnyH_ready (rs := [4]) (by kernel_rfl) (by simp) ?_
                refine AllReadyH.cons (i := 4) rfl (fun K0 hK => ?_) AllReadyH.nil
                go_simp
                refine hK.out _ (((((wn.setCell ⟨g, 0, none⟩ (.slice A7 n7 c7)).setCell ⟨g, 1, none⟩ (.slice B7 q7 d7)).setCell ⟨g, 2, none⟩ (.slice X7 xn7 xc7)).setCell ⟨g, 3, none⟩ (.slice Y7 yn7 yc7)).setCell ⟨g, 4, none⟩ (.int .i64 t7)) (st_other S1_5.out hgs (.slice A7 n7 c7) (.slice B7 q7 d7) (.slice X7 xn7 xc7) (.slice Y7 yn7 yc7) (.int .i64 t7)) (fun hHeld => ?_)
                clear hK K0
                (try simp only [Act.put]); (try simp only [List.setIfInBounds_toArray]); (try simp only [List.set_cons_succ]); (try simp only [List.set_cons_zero])
                refine take_at 5 23 (v := ?_) rfl rfl (by kernel_rfl) (by kernel_rfl) (by kernel_rfl) (fun _ _ _ h => h) (Or.inl ⟨by rfl, ?_⟩) (by assumption) ?_
                rotate_left
                · intro w' hSw
                  go_simp
                  (try with_reducible rfl)
                (try simp only [Act.put]); (try simp only [List.setIfInBounds_toArray]); (try simp only [List.set_cons_succ]); (try simp only [List.set_cons_zero])
                refine wpAnyH_done (by kernel_rfl) ?_ _
                go_wp2
                go_roundw
                · exact ⟨j + 1, ⟨A7, n7, c7, B7, q7, d7, X7, xn7, xc7, Y7, yn7, yc7, t7⟩, _, _, _, by omega, by first | rfl | (congr 1; omega), rfl, st_put G_5.out rfl (.slice A7 n7 c7) (.slice B7 q7 d7) (.slice X7 xn7 xc7) (.slice Y7 yn7 yc7) (.int .i64 t7), by rw [HNX.out]; exact sk_put (V0 := ⟨A6, n6, c6, B6, q6, d6, X6, xn6, xc6, Y6, yn6, yc6, t6⟩) HP_5.out G_5.out (.slice A7 n7 c7) (.slice B7 q7 d7) (.slice X7 xn7 xc7) (.slice Y7 yn7 yc7) (.int .i64 t7), by rw [HNX.out]; exact flags_drop FL.out FN.out hFc (by have := HLE.out; have := FN.out; omega), by rw [HNX.out]; dsimp only; rw [List.length_drop, FN.out], by omega, by omega, sk_put (V0 := ⟨A6, n6, c6, B6, q6, d6, X6, xn6, xc6, Y6, yn6, yc6, t6⟩) HT_5.out G_5.out (.slice A7 n7 c7) (.slice B7 q7 d7) (.slice X7 xn7 xc7) (.slice Y7 yn7 yc7) (.int .i64 t7), st_other S4_5.out hg21 (.slice A7 n7 c7) (.slice B7 q7 d7) (.slice X7 xn7 xc7) (.slice Y7 yn7 yc7) (.int .i64 t7), own_st OS_5.out (OS_5.out.ne G_5.out (by decide)) (.slice A7 n7 c7) (.slice B7 q7 d7) (.slice X7 xn7 xc7) (.slice Y7 yn7 yc7) (.int .i64 t7), own_st PD_5.out (PD_5.out.ne G_5.out (by decide)) (.slice A7 n7 c7) (.slice B7 q7 d7) (.slice X7 xn7 xc7) (.slice Y7 yn7 yc7) (.int .i64 t7), st_below HL_5.out hgwl (.slice A7 n7 c7) (.slice B7 q7 d7) (.slice X7 xn7 xc7) (.slice Y7 yn7 yc7) (.int .i64 t7)⟩
                · simp [intOf]; omega
              · obtain rfl : j = nd := by omega
                have htk : rs.take j = rs := List.take_of_length_le (by rw [HRL.out]; exact Nat.le_refl _)
                rw [htk] at HV_0
                have hok4 : Ok (runR ⟨s0, [], [], ls⟩ rs).T := runR_ok OK0.out
                have hkl4 := runR_kl (rs := rs) (X := ⟨s0, [], [], ls⟩) (Nat.zero_le _)
                have HS2 := Lib.hid (sk_same ⟨A6, n6, c6, B6, q6, d6, X6, xn6, xc6, Y6, yn6, yc6, t6⟩ ⟨A5, n5, c5, B5, q5, d5, X5, xn5, xc5, Y5, yn5, yc5, t5⟩ _ [] [] _ wr HV_0.out HT_0.out (right_len hok4.right).2 hok4.few (by omega))
                unfold BoolRes Sv.val Sv.cells at HS2
                dsimp only at HS2
                obtain ⟨x0, x1, x2, x3, x4⟩ := (show _ ∧ _ ∧ _ ∧ _ ∧ _ from ⟨G_0.out.cell 0 rfl, G_0.out.cell 1 rfl, G_0.out.cell 2 rfl, G_0.out.cell 3 rfl, G_0.out.cell 4 rfl⟩)
                obtain ⟨y0, y1, y2, y3, y4⟩ := (show _ ∧ _ ∧ _ ∧ _ ∧ _ from ⟨S4_0.out.cell 0 rfl, S4_0.out.cell 1 rfl, S4_0.out.cell 2 rfl, S4_0.out.cell 3 rfl, S4_0.out.cell 4 rfl⟩)
                go_wp2_with (go_at_call 13; refine HS2.out.mono ?_; rintro _ wy ⟨rfl, hby⟩)
                go_ret
                exact ⟨rfl, HL_0.out.trans (hby.mono HL_0.out.size)⟩

theorem bankRun_walk (w : World) (v0 : Value) (w0 : BookAt w v0) (a1 : Option Addr) (len1 cap1 : Nat) (w1 : IsRecs asks Ak.fits w a1 len1 cap1) (r1 : cap1 ≤ 1048576) (a2 : Option Addr) (len2 cap2 : Nat) (w2 : IsRecs flags (fun _ => True) w a2 len2 cap2) (r2 : cap2 ≤ 1048576) (a3 : Int) (w3 : (Lit.int .u8 a3).wf = true) (hh : HasErr w) :
    Calls Tryz.prog 3 #[v0, .slice a1 len1 cap1, .slice a2 len2 cap2, .int .u8 a3] w fun e w' => e = .returned (.bool true) ∧ Below w.heap.size w w' := by
  obtain ⟨zk, kl, kr, kf, klc, _, _⟩ := recs_list w1
  obtain ⟨ls, fl, fr, _, flc, _, _⟩ := recs_list w2
  obtain ⟨t, rfl, ht⟩ := u8_nat w3
  exact bankRun_core w v0 w0 a1 len1 cap1 zk kl kr kf (by omega) a2 len2 cap2 ls fr fl flc (by omega) t ht hh
end Go.Proofs.YtjphkpohcgkcmaaGreatDoor
