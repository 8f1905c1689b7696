/-
  The law BankLegs: where all legs agree a transfer of several is one of none.
-/
import Derived.Test.YteiljppljlmcbaaGreatDoorBankAwake
import Derived.Test.YteiljppljlmcbaaGreatDoorBankTwin
import Derived.Test.YteiljppljlmcbaaGreatDoorAskSlice
import Derived.Deep.CutRange
namespace Go.Proofs.YteiljppljlmcbaaGreatDoor
open Go Go.RowKit
set_option linter.unusedVariables false

theorem cell_room {w : World} {g : Nat} {t : TypeId} {vs : Array Value} (h : Blk w g t vs) {ad : Addr} {k : Nat} (hb : ad.block = g) {v : Value} (hv : w.cell? (ad.add k) = some v) : ad.off + k < vs.size := by
  have e := cell_in h (ad := ad.add k) (by rw [add_block]; exact hb) hv
  have ho : (ad.add k).off = ad.off + k := by unfold Addr.add; split <;> simp_all
  rw [ho] at e
  exact (Array.getElem?_eq_some_iff.1 e).1
theorem rec_apart {α : Type} {S : Shape α} {w w' : World} {A : Option Addr} {zs : List α} {g : Nat} {t : TypeId} {vs : Array Value} (h : RdS S w A zs) (hf : ∀ a : α, ∃ x, (S.cells a)[7]? = some x) (hg : Blk w g t vs) (hs : vs.size ≤ 7) (hk : ∀ k, k ≠ g → w'.heap[k]? = w.heap[k]?) : RdS S w' A zs := fun hn => by
  obtain ⟨ad, he, hc⟩ := h hn
  obtain ⟨a, ha⟩ : ∃ a, zs[0]? = some a := ⟨_, List.getElem?_eq_getElem hn⟩
  obtain ⟨x, hx⟩ := hf a
  have h7 : w.cell? (ad.add 7) = some x := by have := hc 0 a ha 7 x hx; rwa [Nat.zero_mul, Nat.zero_add] at this
  have hne : ad.block ≠ g := fun e => by have := cell_room hg e h7; omega
  have hb : ∀ i, w'.cell? (ad.add i) = w.cell? (ad.add i) := fun i => World.cell?_of_block (hk _ (by rw [add_block]; exact hne))
  exact ⟨ad, he, fun j b hj i u hu => by rw [hb]; exact hc j b hj i u hu⟩
theorem acc_apart {w w' : World} {A : Option Addr} {zs : List Ac} {g : Nat} {t : TypeId} {vs : Array Value} (h : RdA w A zs) (hn : 4 ≤ zs.length) (hg : Blk w g t vs) (hs : vs.size ≤ 7) (hk : ∀ k, k ≠ g → w'.heap[k]? = w.heap[k]?) : RdA w' A zs := fun h0 => by
  obtain ⟨ad, he, hc⟩ := h h0
  obtain ⟨a, ha⟩ : ∃ a, zs[3]? = some a := ⟨_, List.getElem?_eq_getElem (by omega)⟩
  have h9 : w.cell? (ad.add 9) = some (.int .i64 a.cur) := (hc 3 a ha).c0
  have hne : ad.block ≠ g := fun e => by have := cell_room hg e h9; omega
  have hb : ∀ i, w'.cell? (ad.add i) = w.cell? (ad.add i) := fun i => World.cell?_of_block (hk _ (by rw [add_block]; exact hne))
  exact ⟨ad, he, fun j b hj => ⟨by rw [hb]; exact (hc j b hj).c0, by rw [hb]; exact (hc j b hj).c1, by rw [hb]; exact (hc j b hj).c2⟩⟩
/-- What is stored into a small block leaves a state as it was. -/
theorem SkAt.apart {w w' : World} {V : Sv} {T : St} {sl : List Sg} {kl : List Kn} {g : Nat} {t : TypeId} {vs : Array Value} (h : SkAt w V T sl kl) (hn : 4 ≤ T.acs.length) (hg : Blk w g t vs) (hs : vs.size ≤ 7) (hk : ∀ k, k ≠ g → w'.heap[k]? = w.heap[k]?) : SkAt w' V T sl kl :=
  ⟨h.n, h.q, h.xn, h.yn, h.t, acc_apart h.accs hn hg hs hk, rec_apart h.pays (fun a => ⟨_, rfl⟩) hg hs hk, rec_apart h.sag (fun a => ⟨_, rfl⟩) hg hs hk, rec_apart h.kn (fun a => ⟨_, rfl⟩) hg hs hk, h.sa, h.sp, h.sx, h.sy⟩

set_option maxRecDepth 100000 in
set_option maxHeartbeats 2000000 in
theorem bankLegs_core (w : World) (b : Value) (hb : BookAt w b)
    (ak : Option Addr) (l3 cz3 : Nat) (zk : List Ak) (hkl : zk.length = l3) (hk : RdS asks w ak zk) (hkf : ∀ (j : Nat) z, zk[j]? = some z → z.fits) (hl3 : l3 ≤ 9223372036854775807) (hh : HasErr w) :
    Calls Tryz.prog 7 #[b, .slice ak l3 cz3] w fun e w' => e = .returned (.bool true) ∧ Below w.heap.size w w' := by
  have HST := Lib.hid (fun W (hW : Below w.heap.size w W) => state_any hb none 0 0 [] rfl 0 (by decide) (by decide) W hW RdS.nil (fun j z h => by simp at h))
  have HAW := Lib.hid (fun W (hW : Below w.heap.size w W) => bawake_ok W (hh.below hW))
  have HH := Lib.hid hh
  have HZK := Lib.hid hk
  have HKL := Lib.hid hkl
  have HKF := Lib.hid hkf
  obtain ⟨CA, HA, LA, cl, cc, hl', hc, ll, lc', cs, hs, ls', rfl, h1, h2, h3, h4, h5, h6, h7, h8, h9⟩ := hb.form
  unfold Sv.val Sv.cells at HST
  clear h1 h2 h3 h4 h5 h6 h7 h8 h9 hb hk hkl hkf hh
  go_enter Tryz.func7, Tryz.ntmps7
  go_wp2_with fail
  refine (HAW.out _ ((Below.refl w.heap.size w).alloc (Nat.le_refl _) (.cells #[.slice CA cl cc, .slice HA hl' hc, .slice LA ll lc'] 25))).mono ?_
  rintro _ wa ⟨rfl, hba⟩
  have HBk := Lib.hid ((Blk.new w 25 #[.slice CA cl cc, .slice HA hl' hc, .slice LA ll lc']).later hba)
  have HWA := Lib.hid (((Below.refl w.heap.size w).alloc (Nat.le_refl _) (.cells #[.slice CA cl cc, .slice HA hl' hc, .slice LA ll lc'] 25)).trans (hba.mono (by simp)))
  clear hba HAW
  obtain ⟨b0, b1, b2⟩ := (show _ ∧ _ ∧ _ from ⟨HBk.out.cell 0 rfl, HBk.out.cell 1 rfl, HBk.out.cell 2 rfl⟩)
  go_wp2_with fail
  refine (HST.out _ HWA.out).mono ?_
  rintro _ w1 ⟨V1, s0, rfl, hv1, hmd, hb1⟩
  have HL_0 := Lib.hid (HWA.out.trans (hb1.mono HWA.out.size))
  have OK0 := Lib.hid hmd.ok
  have BD0 := Lib.hid (show bdA (1000000 + 1600000 * (([] : List Kn).length : Int)) s0.acs from fun a ha => by have := hmd.bal a ha; simp only [List.length_nil]; omega)
  have HV_0 := Lib.hid hv1.sk
  obtain ⟨A1, n1, c1, B1, q1, d1, X1, xn1, xc1, Y1, yn1, yc1, t1⟩ := V1
  dsimp only at HV_0 ⊢
  clear hv1 hb1 hmd HST HWA HBk b0 b1 b2
  have hg : w.heap.size ≤ w1.heap.size := HL_0.out.size
  go_upto_region 4 with fail
  have al := (Below.refl w1.heap.size w1).alloc (Nat.le_refl _) (.cells #[.slice A1 n1 c1, .slice B1 q1 d1, .slice X1 xn1 xc1, .slice Y1 yn1 yc1, .int .i64 t1] 34)
  have nb0 := Blk.new w1 34 #[.slice A1 n1 c1, .slice B1 q1 d1, .slice X1 xn1 xc1, .slice Y1 yn1 yc1, .int .i64 t1]
  have HL_1 := Lib.hid (HL_0.out.trans (al.mono HL_0.out.size))
  have HV_1 := Lib.hid (HV_0.out.below al)
  clear al HL_0 HV_0
  have G_1 := Lib.hid (nb0)
  clear nb0
  generalize w1.alloc (.cells #[.slice A1 n1 c1, .slice B1 q1 d1, .slice X1 xn1 xc1, .slice Y1 yn1 yc1, .int .i64 t1] 34) = w2 at HL_1 HV_1 G_1 ⊢
  generalize w1.heap.size = g at G_1 hg ⊢
  obtain ⟨x0, x1, x2, x3, x4⟩ := (show _ ∧ _ ∧ _ ∧ _ ∧ _ from ⟨G_1.out.cell 0 rfl, G_1.out.cell 1 rfl, G_1.out.cell 2 rfl, G_1.out.cell 3 rfl, G_1.out.cell 4 rfl⟩)
  have hg2 : g < w2.heap.size := G_1.out.lt
  go_upto_region 5 with fail
  have al := (Below.refl w2.heap.size w2).alloc (Nat.le_refl _) (.cells #[.slice A1 n1 c1, .slice B1 q1 d1, .slice X1 xn1 xc1, .slice Y1 yn1 yc1, .int .i64 t1] 34)
  have nb0 := Blk.new w2 34 #[.slice A1 n1 c1, .slice B1 q1 d1, .slice X1 xn1 xc1, .slice Y1 yn1 yc1, .int .i64 t1]
  have HL_2 := Lib.hid (HL_1.out.trans (al.mono HL_1.out.size))
  have HV_2 := Lib.hid (HV_1.out.below al)
  have G_2 := Lib.hid (G_1.out.later al)
  clear al HL_1 HV_1 G_1
  have H_2 := Lib.hid (nb0)
  clear nb0
  generalize w2.alloc (.cells #[.slice A1 n1 c1, .slice B1 q1 d1, .slice X1 xn1 xc1, .slice Y1 yn1 yc1, .int .i64 t1] 34) = w2b at HL_2 HV_2 G_2 H_2 ⊢
  clear x0 x1 x2 x3 x4
  generalize w2.heap.size = g2 at H_2 hg2 ⊢
  go_wp2
  go_loopw [23] (fun i wr => ∃ (k : Nat) (V V' : Sv) (s : St) (ks kt : List Kn), k ≤ l3 ∧ i = .int .i64 (k : Int) ∧ Blk wr g 34 V.cells ∧ Blk wr g2 34 V'.cells ∧ SkAt wr V s [] ks ∧ SkAt wr V' s [] kt ∧ Ok s ∧ Twin ks kt ∧ ks.length ≤ 256 ∧ bdA (1000000 + 1600000 * (ks.length : Int)) s.acs ∧ Below w.heap.size w wr) (fun i _ => l3 - (intOf i).toNat)
  case atStart => exact ⟨0, ⟨A1, n1, c1, B1, q1, d1, X1, xn1, xc1, Y1, yn1, yc1, t1⟩, ⟨A1, n1, c1, B1, q1, d1, X1, xn1, xc1, Y1, yn1, yc1, t1⟩, s0, [], [], Nat.zero_le _, rfl, G_2.out, H_2.out, HV_2.out, HV_2.out, OK0.out, Twin.nil, by decide, BD0.out, HL_2.out⟩
  case round =>
    obtain ⟨k, V, V', s, ks, kt, hk, rfl, hG, hG2, hV, hV2, hOK, hTw, hlen, hbd, hB⟩ := hrel
    obtain ⟨A3, n3, c3, B3, q3, d3, X3, xn3, xc3, Y3, yn3, yc3, t3⟩ := V
    obtain ⟨A7, n7, c7, B7, q7, d7, X7, xn7, xc7, Y7, yn7, yc7, t7⟩ := V'
    unfold Sv.cells at hG hG2
    dsimp only at hG hG2
    clear HL_2 HV_2 G_2 H_2 OK0 BD0
    have G_0 := Lib.hid hG
    have H_0 := Lib.hid hG2
    have HV_0 := Lib.hid hV
    have HU_0 := Lib.hid hV2
    have HL_0 := Lib.hid hB
    have OK3 := Lib.hid hOK
    have TW3 := Lib.hid hTw
    have BD3 := Lib.hid hbd
    clear hG hG2 hV hV2 hB hOK hTw hbd
    by_cases hlt : k < l3
    · obtain ⟨z, hz⟩ : ∃ z, zk[k]? = some z := ⟨_, List.getElem?_eq_getElem (by rw [HKL.out]; exact hlt)⟩
      obtain ⟨ad, rfl, hat⟩ := (HZK.out.below HL_0.out).at_ hz
      obtain ⟨p0, p1, p2, p3, p4, p5, p6⟩ := ask_cells hat
      have HAS := Lib.hid (fun W => ask_any z (HKF.out k z hz) W)
      have hmy := z.req_may (HKF.out k z hz)
      have hamt : z.req.amt ≤ 2000 := by unfold Ak.req; dsimp only; omega
      generalize z.req = r at HAS hmy hamt
      have htw := bk_twin OK3.out TW3.out hlen BD3.out hmy hamt
      have hokx := bk_ok (kl := ks) (r := r) (ls := []) OK3.out
      have hoky := bk_ok (kl := kt) (r := r.nl) (ls := []) OK3.out
      have hny : (bkO s kt r.nl []).n = 0 := Nat.le_zero.1 (bkO_le s kt r.nl [])
      have hlx := bk_len (s := s) (r := r) (ls := []) hlen
      have hlt2 : kt.length ≤ 256 := by rw [TW3.out.map, List.length_map]; exact hlen
      have HD1 := Lib.hid (fun W (h1 : SkAt W ⟨A3, n3, c3, B3, q3, d3, X3, xn3, xc3, Y3, yn3, yc3, t3⟩ s [] ks) (h2 : Below w.heap.size w W) => bdo_any ⟨A3, n3, c3, B3, q3, d3, X3, xn3, xc3, Y3, yn3, yc3, t3⟩ s [] ks r W none 0 0 [] h1 ⟨OK3.out.right, OK3.out.few, by decide, by omega⟩ (HH.out.below h2) RdS.nil rfl (by decide) (by omega))
      have HD2 := Lib.hid (fun W (h1 : SkAt W ⟨A7, n7, c7, B7, q7, d7, X7, xn7, xc7, Y7, yn7, yc7, t7⟩ s [] kt) (h2 : Below w.heap.size w W) => bdo_any ⟨A7, n7, c7, B7, q7, d7, X7, xn7, xc7, Y7, yn7, yc7, t7⟩ s [] kt r.nl W none 0 0 [] h1 ⟨OK3.out.right, OK3.out.few, by decide, by omega⟩ (HH.out.below h2) RdS.nil rfl (by decide) (by omega))
      unfold BkRes at HD1 HD2
      rw [hny] at HD2
      generalize bkO s ks r [] = X at HD1 htw hokx hlx
      generalize bkO s kt r.nl [] = Y at HD2 htw hoky hny
      obtain ⟨T8, K8, E8, I8, N8⟩ := X
      obtain ⟨T9, K9, E9, I9, N9⟩ := Y
      dsimp only at HD1 HD2 htw hokx hoky hlx
      have HTW := Lib.hid htw
      have OKX := Lib.hid hokx
      have OKY := Lib.hid hoky
      have HLX := Lib.hid hlx
      have hn4 : 4 ≤ T8.acs.length := by have := (right_len hokx.right).1; omega
      have hs4 : 4 ≤ s.acs.length := by have := (right_len OK3.out.right).1; omega
      obtain ⟨rk, ro, ra, rb, rm, rl, ru⟩ := r
      obtain ⟨key, op, qa, qb, amt, legs, til⟩ := z
      unfold AskRes Ak.val Rq.val at HAS
      unfold Sv.val Sv.cells Rq.val at HD1
      unfold Rq.nl Sv.val Sv.cells Rq.val at HD2
      dsimp only at p0 p1 p2 p3 p4 p5 p6 HAS HD1 HD2
      clear hz hat hmy hamt htw hokx hoky hny hlx
      go_upto_region 8 with fail
      have hgk : g < wr.heap.size := G_0.out.lt
      have hgk2 : g2 < wr.heap.size := H_0.out.lt
      have al := (Below.refl wr.heap.size wr).alloc (Nat.le_refl _) (.cells #[.int .u8 (key : Int), .int .u8 (op : Int), .int .u8 (qa : Int), .int .u8 (qb : Int), .int .u16 (amt : Int), .int .u8 (legs : Int), .int .u8 (til : Int)] 39)
      have nb0 := Blk.new wr 39 #[.int .u8 (key : Int), .int .u8 (op : Int), .int .u8 (qa : Int), .int .u8 (qb : Int), .int .u16 (amt : Int), .int .u8 (legs : Int), .int .u8 (til : Int)]
      have HL_1 := Lib.hid (HL_0.out.trans (al.mono HL_0.out.size))
      have HV_1 := Lib.hid (HV_0.out.below al)
      have HU_1 := Lib.hid (HU_0.out.below al)
      have G_1 := Lib.hid (G_0.out.later al)
      have H_1 := Lib.hid (H_0.out.later al)
      clear al HL_0 HV_0 HU_0 G_0 H_0
      have Q_1 := Lib.hid (nb0)
      clear nb0
      generalize wr.alloc (.cells #[.int .u8 (key : Int), .int .u8 (op : Int), .int .u8 (qa : Int), .int .u8 (qb : Int), .int .u16 (amt : Int), .int .u8 (legs : Int), .int .u8 (til : Int)] 39) = wb at HL_1 HV_1 HU_1 G_1 H_1 Q_1 ⊢
      clear p0 p1 p2 p3 p4 p5 p6
      generalize wr.heap.size = gq at Q_1 hgk hgk2 ⊢
      obtain ⟨r0, r1, r2, r3, r4, r5, r6⟩ := (show _ ∧ _ ∧ _ ∧ _ ∧ _ ∧ _ ∧ _ from ⟨Q_1.out.cell 0 rfl, Q_1.out.cell 1 rfl, Q_1.out.cell 2 rfl, Q_1.out.cell 3 rfl, Q_1.out.cell 4 rfl, Q_1.out.cell 5 rfl, Q_1.out.cell 6 rfl⟩)
      go_upto_region 9 with (first
        | (go_at_call 10; refine (HAS.out _).mono ?_; rintro _ wc ⟨rfl, hbc⟩
           have HXc := Lib.hid hbc
           clear hbc r0 r1 r2 r3 r4 r5 r6))
      clear Q_1
      have HL_2 := Lib.hid (HL_1.out.trans (HXc.out.mono HL_1.out.size))
      have HV_2 := Lib.hid (HV_1.out.below HXc.out)
      have HU_2 := Lib.hid (HU_1.out.below HXc.out)
      have G_2 := Lib.hid (G_1.out.later HXc.out)
      have H_2 := Lib.hid (H_1.out.later HXc.out)
      clear HL_1 HV_1 HU_1 G_1 H_1
      have hgc : g < wc.heap.size := G_2.out.lt
      have hgc2 : g2 < wc.heap.size := H_2.out.lt
      have hwc : w.heap.size ≤ wc.heap.size := HL_2.out.size
      have al := (Below.refl wc.heap.size wc).alloc (Nat.le_refl _) (.cells (rqC rk ro ra rb rm rl ru) 42)
      have nb0 := Blk.new wc 42 (rqC rk ro ra rb rm rl ru)
      have HL_3 := Lib.hid (HL_2.out.trans (al.mono HL_2.out.size))
      have HV_3 := Lib.hid (HV_2.out.below al)
      have HU_3 := Lib.hid (HU_2.out.below al)
      have G_3 := Lib.hid (G_2.out.later al)
      have H_3 := Lib.hid (H_2.out.later al)
      clear al HL_2 HV_2 HU_2 G_2 H_2
      have R_3 := Lib.hid (nb0)
      clear nb0
      generalize wc.alloc (.cells (rqC rk ro ra rb rm rl ru) 42) = wd at HL_3 HV_3 HU_3 G_3 H_3 R_3 ⊢
      clear HXc HAS
      generalize wc.heap.size = gr at R_3 hgc hgc2 hwc ⊢
      have D1 := Lib.hid (HD1.out wd HV_3.out HL_3.out)
      obtain ⟨x0, x1, x2, x3, x4⟩ := (show _ ∧ _ ∧ _ ∧ _ ∧ _ from ⟨G_3.out.cell 0 rfl, G_3.out.cell 1 rfl, G_3.out.cell 2 rfl, G_3.out.cell 3 rfl, G_3.out.cell 4 rfl⟩)
      obtain ⟨r0, r1, r2, r3, r4, r5, r6⟩ := (show _ ∧ _ ∧ _ ∧ _ ∧ _ ∧ _ ∧ _ from ⟨R_3.out.cell 0 rfl, R_3.out.cell 1 rfl, R_3.out.cell 2 rfl, R_3.out.cell 3 rfl, R_3.out.cell 4 rfl, R_3.out.cell 5 rfl, R_3.out.cell 6 rfl⟩)
      go_upto_region 10 with (first
        | (go_at_call 13; refine D1.out.mono ?_; rintro _ we ⟨V, rfl, hv, hb⟩
           obtain ⟨A4, n4, c4, B4, q4, d4, X4, xn4, xc4, Y4, yn4, yc4, t4⟩ := V
           dsimp only at hv ⊢
           have HVa := Lib.hid hv
           have HXe := Lib.hid hb
           clear hv hb x0 x1 x2 x3 x4 r0 r1 r2 r3 r4 r5 r6))
      have HL_4 := Lib.hid (HL_3.out.trans (HXe.out.mono HL_3.out.size))
      have HV_4 := Lib.hid (HV_3.out.below HXe.out)
      have HU_4 := Lib.hid (HU_3.out.below HXe.out)
      have G_4 := Lib.hid (G_3.out.later HXe.out)
      have H_4 := Lib.hid (H_3.out.later HXe.out)
      have R_4 := Lib.hid (R_3.out.later HXe.out)
      clear HL_3 HV_3 HU_3 G_3 H_3 R_3
      have HP_4 := Lib.hid (HVa.out)
      clear HVa HXe D1 HD1
      have hre : gr < we.heap.size := R_4.out.lt
      have hge : g < we.heap.size := G_4.out.lt
      have hge2 : g2 < we.heap.size := H_4.out.lt
      have al := (Below.refl we.heap.size we).alloc (Nat.le_refl _) (.cells #[.slice A4 n4 c4, .slice B4 q4 d4, .slice X4 xn4 xc4, .slice Y4 yn4 yc4, .int .i64 t4] 34)
      replace al := al.alloc (by simp; try omega) (.cells #[.int .i64 E8, .int .i64 I8] 50)
      have nb0 := (Blk.new we 34 #[.slice A4 n4 c4, .slice B4 q4 d4, .slice X4 xn4 xc4, .slice Y4 yn4 yc4, .int .i64 t4]).more (.cells #[.int .i64 E8, .int .i64 I8] 50)
      have nb1 := Blk.new (we.alloc (.cells #[.slice A4 n4 c4, .slice B4 q4 d4, .slice X4 xn4 xc4, .slice Y4 yn4 yc4, .int .i64 t4] 34)) 50 #[.int .i64 E8, .int .i64 I8]
      rw [alloc_size] at nb1
      have HL_5 := Lib.hid (HL_4.out.trans (al.mono HL_4.out.size))
      have HV_5 := Lib.hid (HV_4.out.below al)
      have HU_5 := Lib.hid (HU_4.out.below al)
      have G_5 := Lib.hid (G_4.out.later al)
      have H_5 := Lib.hid (H_4.out.later al)
      have R_5 := Lib.hid (R_4.out.later al)
      have HP_5 := Lib.hid (HP_4.out.below al)
      clear al HL_4 HV_4 HU_4 G_4 H_4 R_4 HP_4
      have S1_5 := Lib.hid (nb0)
      have P1_5 := Lib.hid (nb1)
      clear nb0 nb1
      generalize (we.alloc (.cells #[.slice A4 n4 c4, .slice B4 q4 d4, .slice X4 xn4 xc4, .slice Y4 yn4 yc4, .int .i64 t4] 34)).alloc (.cells #[.int .i64 E8, .int .i64 I8] 50) = wf at HL_5 HV_5 HU_5 G_5 H_5 R_5 HP_5 S1_5 P1_5 ⊢
      generalize we.heap.size = g10 at S1_5 P1_5 hre hge hge2 ⊢
      have f5 := R_5.out.loose 5
      have r5 := R_5.out.cell 5 rfl
      go_upto_region 11 with fail
      have HL_x := Lib.hid (HL_5.out.setCell (p := ⟨gr, 5, none⟩) (by dsimp only; omega) (.int .i64 0))
      have HU_x := Lib.hid (HU_5.out.apart hs4 R_5.out (Nat.le_refl 7) (w' := wf.setCell ⟨gr, 5, none⟩ (.int .i64 0)) (fun k hk => Below.heap_setCell _ _ _ _ hk))
      have HP_x := Lib.hid (HP_5.out.apart hn4 R_5.out (Nat.le_refl 7) (w' := wf.setCell ⟨gr, 5, none⟩ (.int .i64 0)) (fun k hk => Below.heap_setCell _ _ _ _ hk))
      have G_x := Lib.hid (G_5.out.setOther (b := gr) (by omega) 5 (.int .i64 0))
      have H_x := Lib.hid (H_5.out.setOther (b := gr) (by omega) 5 (.int .i64 0))
      have S1_x := Lib.hid (S1_5.out.setOther (b := gr) (by omega) 5 (.int .i64 0))
      have P1_x := Lib.hid (P1_5.out.setOther (b := gr) (by omega) 5 (.int .i64 0))
      have R_x := Lib.hid (show Blk (wf.setCell ⟨gr, 5, none⟩ (.int .i64 0)) gr 42 (rqC rk ro ra rb rm 0 ru) from R_5.out.set 5 (.int .i64 0))
      clear f5 r5 HL_5 HV_5 HU_5 G_5 H_5 R_5 HP_5 S1_5 P1_5
      generalize wf.setCell ⟨gr, 5, none⟩ (.int .i64 0) = wg at HL_x HU_x HP_x G_x H_x S1_x P1_x R_x ⊢
      have HL_0 := Lib.hid HL_x.out
      have HU_0 := Lib.hid HU_x.out
      have HP_0 := Lib.hid HP_x.out
      have G_0 := Lib.hid G_x.out
      have H_0 := Lib.hid H_x.out
      have S1_0 := Lib.hid S1_x.out
      have P1_0 := Lib.hid P1_x.out
      have R_0 := Lib.hid R_x.out
      clear HL_x HU_x HP_x G_x H_x S1_x P1_x R_x
      have D2 := Lib.hid (HD2.out wg HU_0.out HL_0.out)
      obtain ⟨x0, x1, x2, x3, x4⟩ := (show _ ∧ _ ∧ _ ∧ _ ∧ _ from ⟨H_0.out.cell 0 rfl, H_0.out.cell 1 rfl, H_0.out.cell 2 rfl, H_0.out.cell 3 rfl, H_0.out.cell 4 rfl⟩)
      obtain ⟨r0, r1, r2, r3, r4, r5, r6⟩ := (show _ ∧ _ ∧ _ ∧ _ ∧ _ ∧ _ ∧ _ from ⟨R_0.out.cell 0 rfl, R_0.out.cell 1 rfl, R_0.out.cell 2 rfl, R_0.out.cell 3 rfl, R_0.out.cell 4 rfl, R_0.out.cell 5 rfl, R_0.out.cell 6 rfl⟩)
      go_upto_region 12 with (first
        | (go_at_call 13; refine D2.out.mono ?_; rintro _ wh ⟨V, rfl, hv, hb⟩
           obtain ⟨A5, n5, c5, B5, q5, d5, X5, xn5, xc5, Y5, yn5, yc5, t5⟩ := V
           dsimp only at hv ⊢
           have HVa := Lib.hid hv
           have HXh := Lib.hid hb
           clear hv hb x0 x1 x2 x3 x4 r0 r1 r2 r3 r4 r5 r6))
      have HL_1 := Lib.hid (HL_0.out.trans (HXh.out.mono HL_0.out.size))
      have HU_1 := Lib.hid (HU_0.out.below HXh.out)
      have HP_1 := Lib.hid (HP_0.out.below HXh.out)
      have G_1 := Lib.hid (G_0.out.later HXh.out)
      have H_1 := Lib.hid (H_0.out.later HXh.out)
      have S1_1 := Lib.hid (S1_0.out.later HXh.out)
      have P1_1 := Lib.hid (P1_0.out.later HXh.out)
      have R_1 := Lib.hid (R_0.out.later HXh.out)
      clear HL_0 HU_0 HP_0 G_0 H_0 S1_0 P1_0 R_0
      have HQ_1 := Lib.hid (HVa.out)
      clear HVa HXh D2 HD2
      clear R_1 HU_1
      have hsh : g10 + 1 < wh.heap.size := P1_1.out.lt
      have hgh : g < wh.heap.size := G_1.out.lt
      have hgh2 : g2 < wh.heap.size := H_1.out.lt
      have al := (Below.refl wh.heap.size wh).alloc (Nat.le_refl _) (.cells #[.slice A5 n5 c5, .slice B5 q5 d5, .slice X5 xn5 xc5, .slice Y5 yn5 yc5, .int .i64 t5] 34)
      replace al := al.alloc (by simp; try omega) (.cells #[.int .i64 E9, .int .i64 I9] 50)
      have nb0 := (Blk.new wh 34 #[.slice A5 n5 c5, .slice B5 q5 d5, .slice X5 xn5 xc5, .slice Y5 yn5 yc5, .int .i64 t5]).more (.cells #[.int .i64 E9, .int .i64 I9] 50)
      have nb1 := Blk.new (wh.alloc (.cells #[.slice A5 n5 c5, .slice B5 q5 d5, .slice X5 xn5 xc5, .slice Y5 yn5 yc5, .int .i64 t5] 34)) 50 #[.int .i64 E9, .int .i64 I9]
      rw [alloc_size] at nb1
      have HL_2 := Lib.hid (HL_1.out.trans (al.mono HL_1.out.size))
      have HP_2 := Lib.hid (HP_1.out.below al)
      have G_2 := Lib.hid (G_1.out.later al)
      have H_2 := Lib.hid (H_1.out.later al)
      have S1_2 := Lib.hid (S1_1.out.later al)
      have P1_2 := Lib.hid (P1_1.out.later al)
      have HQ_2 := Lib.hid (HQ_1.out.below al)
      clear al HL_1 HP_1 G_1 H_1 S1_1 P1_1 HQ_1
      have S2_2 := Lib.hid (nb0)
      have P2_2 := Lib.hid (nb1)
      clear nb0 nb1
      generalize (wh.alloc (.cells #[.slice A5 n5 c5, .slice B5 q5 d5, .slice X5 xn5 xc5, .slice Y5 yn5 yc5, .int .i64 t5] 34)).alloc (.cells #[.int .i64 E9, .int .i64 I9] 50) = wi at HL_2 HP_2 G_2 H_2 S1_2 P1_2 HQ_2 S2_2 P2_2 ⊢
      generalize wh.heap.size = g13 at S2_2 P2_2 hsh hgh hgh2 ⊢
      obtain ⟨p0, p1⟩ := (show _ ∧ _ from ⟨P1_2.out.cell 0 rfl, P1_2.out.cell 1 rfl⟩)
      obtain ⟨q0, q1⟩ := (show _ ∧ _ from ⟨P2_2.out.cell 0 rfl, P2_2.out.cell 1 rfl⟩)
      by_cases h5 : E8 = 5
      · have qe5 := eqT h5
        clear HTW
        subst h5
        by_cases he : 5 = E9
        · have qee := eqT he
          subst he
          by_cases hi : I8 = I9
          · have qei := eqT hi
            subst hi
            go_wp2
            go_ret
            exact ⟨rfl, HL_2.out⟩
          · have qei := eqF hi
            go_wp2
            go_ret
            exact ⟨rfl, HL_2.out⟩
        · have qee := eqF he
          go_wp2
          go_ret
          exact ⟨rfl, HL_2.out⟩
      · have qe5 := eqF h5
        by_cases h9 : E9 = 5
        · have qe9 := eqT h9
          clear HTW
          subst h9
          go_wp2
          go_ret
          exact ⟨rfl, HL_2.out⟩
        · have qe9 := eqF h9
          obtain ⟨he, hi, hT, htw2, hbd2⟩ := (HTW.out.resolve_left h5).resolve_left h9
          subst he
          subst hi
          subst hT
          have TW8 := Lib.hid htw2
          have BD8 := Lib.hid hbd2
          clear htw2 hbd2 h5 h9 HTW
          have HS1 := Lib.hid (fun W (h1 : SkAt W ⟨A4, n4, c4, B4, q4, d4, X4, xn4, xc4, Y4, yn4, yc4, t4⟩ T8 [] K8) (h2 : SkAt W ⟨A5, n5, c5, B5, q5, d5, X5, xn5, xc5, Y5, yn5, yc5, t5⟩ T8 [] K9) => sk_osame _ _ T8 [] [] K8 K9 W h1 h2 (right_len OKX.out.right).2 OKX.out.few)
          unfold BoolRes Sv.val Sv.cells at HS1
          dsimp only at HS1
          obtain ⟨x0, x1, x2, x3, x4⟩ := (show _ ∧ _ ∧ _ ∧ _ ∧ _ from ⟨S1_2.out.cell 0 rfl, S1_2.out.cell 1 rfl, S1_2.out.cell 2 rfl, S1_2.out.cell 3 rfl, S1_2.out.cell 4 rfl⟩)
          obtain ⟨y0, y1, y2, y3, y4⟩ := (show _ ∧ _ ∧ _ ∧ _ ∧ _ from ⟨S2_2.out.cell 0 rfl, S2_2.out.cell 1 rfl, S2_2.out.cell 2 rfl, S2_2.out.cell 3 rfl, S2_2.out.cell 4 rfl⟩)
          go_wp2_with fail
          refine (HS1.out _ HP_2.out HQ_2.out).mono ?_
          rintro _ wj ⟨rfl, hbj⟩
          clear p0 p1 q0 q1 x0 x1 x2 x3 x4 y0 y1 y2 y3 y4 HS1 qe5 qe9
          have HL_3 := Lib.hid (HL_2.out.trans (hbj.mono HL_2.out.size))
          have HP_3 := Lib.hid (HP_2.out.below hbj)
          have G_3 := Lib.hid (G_2.out.later hbj)
          have H_3 := Lib.hid (H_2.out.later hbj)
          have S1_3 := Lib.hid (S1_2.out.later hbj)
          have P1_3 := Lib.hid (P1_2.out.later hbj)
          have HQ_3 := Lib.hid (HQ_2.out.below hbj)
          have S2_3 := Lib.hid (S2_2.out.later hbj)
          have P2_3 := Lib.hid (P2_2.out.later hbj)
          clear HL_2 HP_2 G_2 H_2 S1_2 P1_2 HQ_2 S2_2 P2_2
          clear hbj
          go_upto_region 18 with fail
          refine wp_region_held_drew (S := fun w' => Blk w' g10 34 #[.slice A4 n4 c4, .slice B4 q4 d4, .slice X4 xn4 xc4, .slice Y4 yn4 yc4, .int .i64 t4] ∧ Blk w' g13 34 #[.slice A5 n5 c5, .slice B5 q5 d5, .slice X5 xn5 xc5, .slice Y5 yn5 yc5, .int .i64 t5]) (by kernel_rfl) ⟨S1_3.out.drew, S2_3.out.drew⟩ (fun hHeld => ?_)
          have hbd : Below wj.heap.size wj wj.drew := (Below.refl _ _).drew
          have HL_4 := Lib.hid (HL_3.out.trans (hbd.mono HL_3.out.size))
          have HP_4 := Lib.hid (HP_3.out.below hbd)
          have G_4 := Lib.hid (G_3.out.later hbd)
          have H_4 := Lib.hid (H_3.out.later hbd)
          have S1_4 := Lib.hid (S1_3.out.later hbd)
          have P1_4 := Lib.hid (P1_3.out.later hbd)
          have HQ_4 := Lib.hid (HQ_3.out.below hbd)
          have S2_4 := Lib.hid (S2_3.out.later hbd)
          have P2_4 := Lib.hid (P2_3.out.later hbd)
          clear HL_3 HP_3 G_3 H_3 S1_3 P1_3 HQ_3 S2_3 P2_3
          clear hbd
          generalize wj.drew = wn at hHeld HL_4 HP_4 G_4 H_4 S1_4 P1_4 HQ_4 S2_4 P2_4 ⊢
          refine take_at 0 73 (v := ?_) rfl rfl (by kernel_rfl) (by kernel_rfl) (by kernel_rfl) (fun _ _ _ h => h) (Or.inl ⟨by rfl, ?_⟩) (by assumption) ?_
          rotate_left
          · intro w' hSw
            have hSw' := hSw
            (try dsimp only at hSw')
            obtain ⟨k0, k1, k2, k3, k4⟩ := (show _ ∧ _ ∧ _ ∧ _ ∧ _ from ⟨hSw'.1.cell 0 rfl, hSw'.1.cell 1 rfl, hSw'.1.cell 2 rfl, hSw'.1.cell 3 rfl, hSw'.1.cell 4 rfl⟩)
            go_simp
            (try with_reducible rfl)
          (try simp only [Act.put]); (try simp only [List.setIfInBounds_toArray]); (try simp only [List.set_cons_succ]); (try simp only [List.set_cons_zero])
          refine take_at 1 74 (v := ?_) rfl rfl (by kernel_rfl) (by kernel_rfl) (by kernel_rfl) (fun _ _ _ h => h) (Or.inl ⟨by rfl, ?_⟩) (by assumption) ?_
          rotate_left
          · intro w' hSw
            have hSw' := hSw
            (try dsimp only at hSw')
            obtain ⟨k0, k1, k2, k3, k4⟩ := (show _ ∧ _ ∧ _ ∧ _ ∧ _ from ⟨hSw'.2.cell 0 rfl, hSw'.2.cell 1 rfl, hSw'.2.cell 2 rfl, hSw'.2.cell 3 rfl, hSw'.2.cell 4 rfl⟩)
            go_simp
            (try with_reducible rfl)
          (try simp only [Act.put]); (try simp only [List.setIfInBounds_toArray]); (try simp only [List.set_cons_succ]); (try simp only [List.set_cons_zero])
          obtain ⟨y0, y1, y2, y3, y4⟩ := (show _ ∧ _ ∧ _ ∧ _ ∧ _ from ⟨G_4.out.cell 0 rfl, G_4.out.cell 1 rfl, G_4.out.cell 2 rfl, G_4.out.cell 3 rfl, G_4.out.cell 4 rfl⟩)
          obtain ⟨f0, f1, f2, f3, f4⟩ := (show _ ∧ _ ∧ _ ∧ _ ∧ _ from ⟨G_4.out.loose 0, G_4.out.loose 1, G_4.out.loose 2, G_4.out.loose 3, G_4.out.loose 4⟩)
          refine wpAnyH_ready (rs := [2]) (by kernel_rfl) (by simp) ?_
          refine AllReadyH.cons (i := 2) rfl (fun K0 hK => ?_) AllReadyH.nil
          go_simp
          refine hK.out _ (((((wn.setCell ⟨g, 0, none⟩ (.slice A4 n4 c4)).setCell ⟨g, 1, none⟩ (.slice B4 q4 d4)).setCell ⟨g, 2, none⟩ (.slice X4 xn4 xc4)).setCell ⟨g, 3, none⟩ (.slice Y4 yn4 yc4)).setCell ⟨g, 4, none⟩ (.int .i64 t4)) ⟨st_other S1_4.out (by omega) (.slice A4 n4 c4) (.slice B4 q4 d4) (.slice X4 xn4 xc4) (.slice Y4 yn4 yc4) (.int .i64 t4), st_other S2_4.out (by omega) (.slice A4 n4 c4) (.slice B4 q4 d4) (.slice X4 xn4 xc4) (.slice Y4 yn4 yc4) (.int .i64 t4)⟩ (fun hHeld => ?_)
          clear hK K0
          (try simp only [Act.put]); (try simp only [List.setIfInBounds_toArray]); (try simp only [List.set_cons_succ]); (try simp only [List.set_cons_zero])
          clear y0 y1 y2 y3 y4 f0 f1 f2 f3 f4
          have hh9 := st_other H_4.out (show g ≠ g2 by omega) (.slice A4 n4 c4) (.slice B4 q4 d4) (.slice X4 xn4 xc4) (.slice Y4 yn4 yc4) (.int .i64 t4)
          obtain ⟨y0, y1, y2, y3, y4⟩ := (show _ ∧ _ ∧ _ ∧ _ ∧ _ from ⟨hh9.cell 0 rfl, hh9.cell 1 rfl, hh9.cell 2 rfl, hh9.cell 3 rfl, hh9.cell 4 rfl⟩)
          obtain ⟨f0, f1, f2, f3, f4⟩ := (show _ ∧ _ ∧ _ ∧ _ ∧ _ from ⟨hh9.loose 0, hh9.loose 1, hh9.loose 2, hh9.loose 3, hh9.loose 4⟩)
          refine wpAnyH_ready (rs := [3]) (by kernel_rfl) (by simp) ?_
          refine AllReadyH.cons (i := 3) rfl (fun K0 hK => ?_) AllReadyH.nil
          go_simp
          refine hK.out _ ((((((((((wn.setCell ⟨g, 0, none⟩ (.slice A4 n4 c4)).setCell ⟨g, 1, none⟩ (.slice B4 q4 d4)).setCell ⟨g, 2, none⟩ (.slice X4 xn4 xc4)).setCell ⟨g, 3, none⟩ (.slice Y4 yn4 yc4)).setCell ⟨g, 4, none⟩ (.int .i64 t4)).setCell ⟨g2, 0, none⟩ (.slice A5 n5 c5)).setCell ⟨g2, 1, none⟩ (.slice B5 q5 d5)).setCell ⟨g2, 2, none⟩ (.slice X5 xn5 xc5)).setCell ⟨g2, 3, none⟩ (.slice Y5 yn5 yc5)).setCell ⟨g2, 4, none⟩ (.int .i64 t5)) ⟨st_other (st_other S1_4.out (by omega) (.slice A4 n4 c4) (.slice B4 q4 d4) (.slice X4 xn4 xc4) (.slice Y4 yn4 yc4) (.int .i64 t4)) (by omega) (.slice A5 n5 c5) (.slice B5 q5 d5) (.slice X5 xn5 xc5) (.slice Y5 yn5 yc5) (.int .i64 t5), st_other (st_other S2_4.out (by omega) (.slice A4 n4 c4) (.slice B4 q4 d4) (.slice X4 xn4 xc4) (.slice Y4 yn4 yc4) (.int .i64 t4)) (by omega) (.slice A5 n5 c5) (.slice B5 q5 d5) (.slice X5 xn5 xc5) (.slice Y5 yn5 yc5) (.int .i64 t5)⟩ (fun hHeld => ?_)
          clear hK K0
          (try simp only [Act.put]); (try simp only [List.setIfInBounds_toArray]); (try simp only [List.set_cons_succ]); (try simp only [List.set_cons_zero])
          refine wpAnyH_done (by kernel_rfl) ?_ _
          go_wp2
          go_roundw
          · exact ⟨k + 1, ⟨A4, n4, c4, B4, q4, d4, X4, xn4, xc4, Y4, yn4, yc4, t4⟩, ⟨A5, n5, c5, B5, q5, d5, X5, xn5, xc5, Y5, yn5, yc5, t5⟩, T8, K8, K9, by omega, by first | rfl | (congr 1; omega), st_other (st_put G_4.out rfl (.slice A4 n4 c4) (.slice B4 q4 d4) (.slice X4 xn4 xc4) (.slice Y4 yn4 yc4) (.int .i64 t4)) (by omega) (.slice A5 n5 c5) (.slice B5 q5 d5) (.slice X5 xn5 xc5) (.slice Y5 yn5 yc5) (.int .i64 t5), st_put hh9 rfl (.slice A5 n5 c5) (.slice B5 q5 d5) (.slice X5 xn5 xc5) (.slice Y5 yn5 yc5) (.int .i64 t5), sk_put (V0 := ⟨A7, n7, c7, B7, q7, d7, X7, xn7, xc7, Y7, yn7, yc7, t7⟩) (sk_put (V0 := ⟨A3, n3, c3, B3, q3, d3, X3, xn3, xc3, Y3, yn3, yc3, t3⟩) HP_4.out G_4.out (.slice A4 n4 c4) (.slice B4 q4 d4) (.slice X4 xn4 xc4) (.slice Y4 yn4 yc4) (.int .i64 t4)) hh9 (.slice A5 n5 c5) (.slice B5 q5 d5) (.slice X5 xn5 xc5) (.slice Y5 yn5 yc5) (.int .i64 t5), sk_put (V0 := ⟨A7, n7, c7, B7, q7, d7, X7, xn7, xc7, Y7, yn7, yc7, t7⟩) (sk_put (V0 := ⟨A3, n3, c3, B3, q3, d3, X3, xn3, xc3, Y3, yn3, yc3, t3⟩) HQ_4.out G_4.out (.slice A4 n4 c4) (.slice B4 q4 d4) (.slice X4 xn4 xc4) (.slice Y4 yn4 yc4) (.int .i64 t4)) hh9 (.slice A5 n5 c5) (.slice B5 q5 d5) (.slice X5 xn5 xc5) (.slice Y5 yn5 yc5) (.int .i64 t5), OKX.out, TW8.out, HLX.out, BD8.out, st_below (st_below HL_4.out hg (.slice A4 n4 c4) (.slice B4 q4 d4) (.slice X4 xn4 xc4) (.slice Y4 yn4 yc4) (.int .i64 t4)) (by omega) (.slice A5 n5 c5) (.slice B5 q5 d5) (.slice X5 xn5 xc5) (.slice Y5 yn5 yc5) (.int .i64 t5)⟩
          · simp [intOf]; omega
    · obtain rfl : k = l3 := by omega
      go_wp2
      go_ret
      exact ⟨rfl, HL_0.out⟩

theorem bankLegs_walk (w : World) (v0 : Value) (w0 : BookAt w v0) (a2 : Option Addr) (len2 cap2 : Nat) (w2 : IsRecs asks Ak.fits w a2 len2 cap2) (hh : HasErr w) :
    Calls Tryz.prog 7 #[v0, .slice a2 len2 cap2] w fun e w' => e = .returned (.bool true) ∧ Below w.heap.size w w' := by
  obtain ⟨zk, kl, kr, kf, klc, kmx, _⟩ := recs_list w2
  exact bankLegs_core w v0 w0 a2 len2 cap2 zk kl kr kf (by simp only [maxLen] at kmx; omega) hh
end Go.Proofs.YteiljppljlmcbaaGreatDoor
