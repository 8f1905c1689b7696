/-
  The law OpsRight: behind any requests and ticks all is right still.
-/
import Derived.Test.YtjnmppdohglcaaaGreatDoorOpsTickMem
import Derived.Test.YtjnmppdohglcaaaGreatDoorOpsHeld
import Derived.Test.YtjnmppdohglcaaaGreatDoorAskSlice
import Derived.Test.YtjnmppdohglcaaaGreatDoorChartRight
import Derived.Test.YtjnmppdohglcaaaGreatDoorChartSums
import Derived.Test.YtjnmppdohglcaaaGreatDoorPayRight
import Derived.Test.YtjnmppdohglcaaaGreatDoorGrC
import Derived.Test.YtjnmppdohglcaaaGreatDoorGrA
import Derived.Deep.CutRange
import Derived.Deep.RegionHeld3
import Derived.LoopTactic
import Derived.IntWalk
import Derived.WalkSpells
namespace Go.Proofs.YtjnmppdohglcaaaGreatDoor
open Go Go.RowKit
set_option linter.unusedVariables false

theorem Ak.keeps (z : Ak) {s : St} (h : Ok s) : Ok (opS s z.req) := by
  refine h.do_ z.req (fun h0 => ?_) (fun h3 => ?_)
  · unfold Ak.req at h0 ⊢
    dsimp only at h0 ⊢
    rw [if_pos (by omega)]
    omega
  · unfold Ak.req at h3 ⊢
    dsimp only at h3 ⊢
    rw [if_pos (by omega)]
    omega
theorem Ok.fits {s : St} (h : Ok s) {p : Py} (hp : p ∈ s.pys) (hn : s.acs.length ≤ 64) : p.fits := by
  obtain ⟨h1, h2, h3, _, _⟩ := h.pays p hp
  unfold isC at h2 h3
  exact h1.fits (by unfold in64; omega) (by unfold in64; omega)

set_option maxRecDepth 100000 in
set_option maxHeartbeats 4000000 in
theorem opsRight_core (w : World) (b : Value) (hb : BookAt w b) (a1 : Option Addr) (l1 c1 : Nat) (zs : List Pd) (hzl : zs.length = l1) (hr : RdS paids w a1 zs) (hfit : ∀ (j : Nat) z, zs[j]? = some z → z.fits) (hl : l1 ≤ 1900000) (t : Nat) (ht : t < 256)
    (ak : Option Addr) (l3 c3 : Nat) (zk : List Ak) (hkl : zk.length = l3) (hk : RdS asks w ak zk) (hkf : ∀ (j : Nat) z, zk[j]? = some z → z.fits) (hl3 : l3 ≤ 1900000) (m : Nat) (hm : m < 256) (hh : HasErr w) :
    Calls Tryz.prog 3 #[b, .slice a1 l1 c1, .int .u8 (t : Int), .slice ak l3 c3, .int .u8 (m : Int)] w fun e w' => e = .returned (.bool true) ∧ Below w.heap.size w w' := by
  have HST := Lib.hid (fun W (hW : Below w.heap.size w W) => state_any hb a1 l1 c1 zs hzl t ht hl W hW (hr.below hW) hfit)
  have HAW := Lib.hid (fun W (hW : Below w.heap.size w W) => oawake_ok W (hh.below hW))
  have HH := Lib.hid hh
  have HZK := Lib.hid hk
  have HKL := Lib.hid hkl
  have HKF := Lib.hid hkf
  obtain ⟨CA, HA, LA, cl, cc, hl', hc, ll, lc, cs, hs, ls, rfl, h1, h2, h3, h4, h5, h6, h7, h8, h9⟩ := hb.form
  obtain ⟨M, hM⟩ : ∃ M : Nat, m % 4 = M := ⟨_, rfl⟩
  have hM1 : (m : Int).tmod 4 = (M : Int) := by rw [Int.tmod_eq_emod_of_nonneg (by omega)]; omega
  have hM4 : M < 4 := by omega
  unfold Sv.val Sv.cells at HST
  clear h1 h2 h3 h4 h5 h6 h7 h8 h9 hb hzl hr hfit ht hm hh hM hk hkl hkf
  go_enter Tryz.func3, Tryz.ntmps3
  go_wp2_with fail
  refine (HAW.out _ ((Below.refl w.heap.size w).alloc (Nat.le_refl _) (.cells #[.slice CA cl cc, .slice HA hl' hc, .slice LA ll lc] 25))).mono ?_
  rintro _ wa ⟨rfl, hba⟩
  have HBk := Lib.hid ((Blk.new w 25 #[.slice CA cl cc, .slice HA hl' hc, .slice LA ll lc]).later hba)
  have HWA := Lib.hid (((Below.refl w.heap.size w).alloc (Nat.le_refl _) (.cells #[.slice CA cl cc, .slice HA hl' hc, .slice LA ll lc] 25)).trans (hba.mono (by simp)))
  clear hba HAW
  obtain ⟨b0, b1, b2⟩ := (show _ ∧ _ ∧ _ from ⟨HBk.out.cell 0 rfl, HBk.out.cell 1 rfl, HBk.out.cell 2 rfl⟩)
  go_wp2_with fail
  refine (HST.out _ HWA.out).mono ?_
  rintro _ w1 ⟨V, s0, rfl, hv, hMd, hb1⟩
  have B1 := Lib.hid (HWA.out.trans (hb1.mono HWA.out.size))
  have OK0 := Lib.hid hMd.ok
  obtain ⟨A1, n1, c1', P1, q1, d1, X1, x1, y1, Y1, u1, z1, t1⟩ := V
  dsimp only at hv ⊢
  have V1 := Lib.hid hv
  clear hv hb1 hMd HST HWA HBk b0 b1 b2
  go_upto_region 4 with fail
  have al := (Below.refl w1.heap.size w1).alloc (Nat.le_refl _) (.cells #[.slice A1 n1 c1', .slice P1 q1 d1, .slice X1 x1 y1, .slice Y1 u1 z1, .int .i64 t1] 34)
  have G1 := Lib.hid (Blk.new w1 34 #[.slice A1 n1 c1', .slice P1 q1 d1, .slice X1 x1 y1, .slice Y1 u1 z1, .int .i64 t1])
  have W1 := Lib.hid (V1.out.below al)
  have B2 := Lib.hid (B1.out.trans (al.mono B1.out.size))
  have hg : w.heap.size ≤ w1.heap.size := B1.out.size
  clear al V1 B1
  generalize w1.alloc (.cells #[.slice A1 n1 c1', .slice P1 q1 d1, .slice X1 x1 y1, .slice Y1 u1 z1, .int .i64 t1] 34) = w2 at G1 W1 B2 ⊢
  generalize w1.heap.size = g at G1 hg ⊢
  go_wp2
  go_loopw [24] (fun i wr => ∃ (k : Nat) (V : Sv) (s : St), k ≤ l3 ∧ i = .int .i64 (k : Int) ∧ Blk wr g 34 V.cells ∧ SvAt wr V s ∧ Ok s ∧ Below w.heap.size w wr) (fun i _ => l3 - (intOf i).toNat)
  case atStart => exact ⟨0, ⟨A1, n1, c1', P1, q1, d1, X1, x1, y1, Y1, u1, z1, t1⟩, s0, by omega, rfl, G1.out, W1.out, OK0.out, B2.out⟩
  case round =>
    obtain ⟨k, V, s, hk, rfl, hG, hV, hOK, hB⟩ := hrel
    obtain ⟨A3, n3, c3', P3, q3, d3, X3, x3, y3, Y3, u3, z3, t3⟩ := V
    unfold Sv.cells at hG
    dsimp only at hG
    have G3 := Lib.hid hG
    have V3 := Lib.hid hV
    have B3 := Lib.hid hB
    have OK3 := Lib.hid hOK
    clear hG hV hB hOK
    by_cases hlt : k < l3
    · obtain ⟨z, hz⟩ : ∃ z, zk[k]? = some z := ⟨_, List.getElem?_eq_getElem (by rw [HKL.out]; exact hlt)⟩
      obtain ⟨ad, rfl, hat⟩ := (HZK.out.below B3.out).at_ hz
      obtain ⟨p0, p1, p2, p3, p4, p5, p6⟩ := ask_cells hat
      have HAS := Lib.hid (fun W => ask_any z (HKF.out k z hz) W)
      have HDO := Lib.hid (fun W (h : SvAt W ⟨A3, n3, c3', P3, q3, d3, X3, x3, y3, Y3, u3, z3, t3⟩ s) (hW : Below w.heap.size w W) => sv_do _ s z.req W h (HH.out.below hW) OK3.out.right OK3.out.few)
      have OKN := Lib.hid (z.keeps OK3.out)
      obtain ⟨r, hr⟩ : ∃ r, z.req = r := ⟨_, rfl⟩
      rw [hr] at HAS HDO OKN
      obtain ⟨S2, hS2⟩ : ∃ S2, opS s r = S2 := ⟨_, rfl⟩
      rw [hS2] at HDO OKN
      obtain ⟨E2, hE2⟩ : ∃ e, opE s r = e := ⟨_, rfl⟩
      obtain ⟨I2, hI2⟩ : ∃ e, opI s r = e := ⟨_, rfl⟩
      rw [hE2, hI2] at HDO
      obtain ⟨rk, ro, ra, rb, rm, rl, ru⟩ := r
      obtain ⟨key, op, qa, qb, amt, legs, til⟩ := z
      unfold AskRes Ak.val Rq.val at HAS
      unfold Rq.val Sv.val Sv.cells at HDO
      dsimp only at p0 p1 p2 p3 p4 p5 p6 HAS HDO
      clear hz hat hr hS2 hE2 hI2
      go_upto_region 7 with fail
      have hgk : g ≠ wr.heap.size := by have := G3.out.lt; omega
      have G4 := Lib.hid (G3.out.more (.cells #[.int .u8 (key : Int), .int .u8 (op : Int), .int .u8 (qa : Int), .int .u8 (qb : Int), .int .u16 (amt : Int), .int .u8 (legs : Int), .int .u8 (til : Int)] 38))
      have V4 := Lib.hid (V3.out.alloc (.cells #[.int .u8 (key : Int), .int .u8 (op : Int), .int .u8 (qa : Int), .int .u8 (qb : Int), .int .u16 (amt : Int), .int .u8 (legs : Int), .int .u8 (til : Int)] 38))
      have B4 := Lib.hid (B3.out.alloc B3.out.size (.cells #[.int .u8 (key : Int), .int .u8 (op : Int), .int .u8 (qa : Int), .int .u8 (qb : Int), .int .u16 (amt : Int), .int .u8 (legs : Int), .int .u8 (til : Int)] 38))
      have Q4 := Lib.hid (Blk.new wr 38 #[.int .u8 (key : Int), .int .u8 (op : Int), .int .u8 (qa : Int), .int .u8 (qb : Int), .int .u16 (amt : Int), .int .u8 (legs : Int), .int .u8 (til : Int)])
      clear p0 p1 p2 p3 p4 p5 p6 G3 V3 B3
      generalize wr.alloc (.cells #[.int .u8 (key : Int), .int .u8 (op : Int), .int .u8 (qa : Int), .int .u8 (qb : Int), .int .u16 (amt : Int), .int .u8 (legs : Int), .int .u8 (til : Int)] 38) = w4 at G4 V4 B4 Q4 ⊢
      generalize wr.heap.size = gk at Q4 hgk ⊢
      go_cut [24] from 24 to 71 (fun s24 wx => s24 = .int .i64 (k : Int) ∧ ∃ V' : Sv, Blk wx g 34 V'.cells ∧ SvAt wx V' S2 ∧ Below w.heap.size w wx)
      case first =>
        refine wp_region_held_drew (S := fun w' => Blk w' gk 38 #[.int .u8 (key : Int), .int .u8 (op : Int), .int .u8 (qa : Int), .int .u8 (qb : Int), .int .u16 (amt : Int), .int .u8 (legs : Int), .int .u8 (til : Int)]) (by kernel_rfl) Q4.out.drew (fun hHeld => ?_)
        refine take_at 1 31 (v := ?_) rfl rfl (by kernel_rfl) (by kernel_rfl) (by kernel_rfl) (fun _ _ _ h => h) (Or.inl ⟨by rfl, ?_⟩) (by assumption) ?_
        rotate_left
        · intro w' hSw
          have hSw' := hSw
          (try dsimp only at hSw')
          obtain ⟨k0, k1, k2, k3, k4, k5, k6⟩ := (show _ ∧ _ ∧ _ ∧ _ ∧ _ ∧ _ ∧ _ from ⟨hSw'.cell 0 rfl, hSw'.cell 1 rfl, hSw'.cell 2 rfl, hSw'.cell 3 rfl, hSw'.cell 4 rfl, hSw'.cell 5 rfl, hSw'.cell 6 rfl⟩)
          go_simp
          (try with_reducible rfl)
        (try simp only [Act.put]); (try simp only [List.setIfInBounds_toArray]); (try simp only [List.set_cons_succ]); (try simp only [List.set_cons_zero])
        refine wpAnyH_ready (rs := [0, 2]) (by kernel_rfl) (by simp) ?_
        refine AllReadyH.cons (i := 0) rfl (fun K hK => ?_) (AllReadyH.cons (i := 2) rfl (fun K hK => ?_) AllReadyH.nil)
        · obtain ⟨k0, k1, k2, k3, k4⟩ := (show _ ∧ _ ∧ _ ∧ _ ∧ _ from ⟨(G4.out).cell 0 rfl, (G4.out).cell 1 rfl, (G4.out).cell 2 rfl, (G4.out).cell 3 rfl, (G4.out).cell 4 rfl⟩)
          go_simp
          refine hK.out _ _ hHeld (fun hHeld => ?_)
          clear hK K
          (try simp only [Act.put]); (try simp only [List.setIfInBounds_toArray]); (try simp only [List.set_cons_succ]); (try simp only [List.set_cons_zero])
          clear k0 k1 k2 k3 k4
          refine wpAnyH_ready (rs := [2]) (by kernel_rfl) (by simp) ?_
          refine AllReadyH.cons (i := 2) rfl (fun K hK => ?_) AllReadyH.nil
          go_simp
          go_at_call 8
          refine (HAS.out _).mono ?_
          rintro _ w5 ⟨rfl, hb5⟩
          have hb5' : Below w4.heap.size w4 w5 := (Below.refl w4.heap.size w4).drew.trans hb5
          refine hK.out _ _ (Q4.out.later hb5') (fun hHeld => ?_)
          clear hK K
          (try simp only [Act.put]); (try simp only [List.setIfInBounds_toArray]); (try simp only [List.set_cons_succ]); (try simp only [List.set_cons_zero])
          refine wpAnyH_ready (rs := [3]) (by kernel_rfl) (by simp) ?_
          refine AllReadyH.cons (i := 3) rfl (fun K hK => ?_) AllReadyH.nil
          go_simp
          go_at_call 7
          refine (HDO.out _ (V4.out.below hb5') (B4.out.trans (hb5'.mono B4.out.size))).mono ?_
          rintro _ w6 ⟨V6, rfl, hv6, hb6⟩
          have hb6' : Below w4.heap.size w4 w6 := hb5'.trans (hb6.mono hb5'.size)
          obtain ⟨A6, n6, c6, P6, q6, d6, X6, x6, y6, Y6, u6, z6, t6⟩ := V6
          dsimp only at hv6 ⊢
          refine hK.out _ _ (Q4.out.later hb6') (fun hHeld => ?_)
          clear hK K
          (try simp only [Act.put]); (try simp only [List.setIfInBounds_toArray]); (try simp only [List.set_cons_succ]); (try simp only [List.set_cons_zero])
          refine take_at 4 29 (v := ?_) rfl rfl (by kernel_rfl) (by kernel_rfl) (by kernel_rfl) (fun _ _ _ h => h) (Or.inl ⟨by rfl, ?_⟩) (by assumption) ?_
          rotate_left
          · intro w' hSw
            go_simp
            (try with_reducible rfl)
          (try simp only [Act.put, List.setIfInBounds_toArray, List.set_cons_zero, List.set_cons_succ])
          refine take_at 5 34 (v := ?_) rfl rfl (by kernel_rfl) (by kernel_rfl) (by kernel_rfl) (fun _ _ _ h => h) (Or.inl ⟨by rfl, ?_⟩) (by assumption) ?_
          rotate_left
          · intro w' hSw
            go_simp
            (try with_reducible rfl)
          (try simp only [Act.put, List.setIfInBounds_toArray, List.set_cons_zero, List.set_cons_succ])
          refine take_at 6 35 (v := ?_) rfl rfl (by kernel_rfl) (by kernel_rfl) (by kernel_rfl) (fun _ _ _ h => h) (Or.inl ⟨by rfl, ?_⟩) (by assumption) ?_
          rotate_left
          · intro w' hSw
            go_simp
            (try with_reducible rfl)
          (try simp only [Act.put, List.setIfInBounds_toArray, List.set_cons_zero, List.set_cons_succ])
          have G6 := Lib.hid (G4.out.later hb6')
          have HV6 := Lib.hid hv6
          have B6 := Lib.hid (B4.out.trans (hb6'.mono B4.out.size))
          have Q6 := Lib.hid (Q4.out.later hb6')
          clear hv6 hb6 hb6' hb5 hb5'
          obtain ⟨e0, e1, e2, e3, e4⟩ := (show _ ∧ _ ∧ _ ∧ _ ∧ _ from ⟨G6.out.cell 0 rfl, G6.out.cell 1 rfl, G6.out.cell 2 rfl, G6.out.cell 3 rfl, G6.out.cell 4 rfl⟩)
          obtain ⟨f0, f1, f2, f3, f4⟩ := (show _ ∧ _ ∧ _ ∧ _ ∧ _ from ⟨G6.out.loose 0, G6.out.loose 1, G6.out.loose 2, G6.out.loose 3, G6.out.loose 4⟩)
          have hg6 : g < w6.heap.size := G6.out.lt
          refine wpAnyH_ready (rs := [7]) (by kernel_rfl) (by simp) ?_
          refine AllReadyH.cons (i := 7) rfl (fun K hK => ?_) AllReadyH.nil
          go_simp
          refine hK.out _ (((((w6.setCell ⟨g, 0, none⟩ (.slice A6 n6 c6)).setCell ⟨g, 1, none⟩ (.slice P6 q6 d6)).setCell ⟨g, 2, none⟩ (.slice X6 x6 y6)).setCell ⟨g, 3, none⟩ (.slice Y6 u6 z6)).setCell ⟨g, 4, none⟩ (.int .i64 t6)) (st_other (g := g) Q6.out hgk (.slice A6 n6 c6) (.slice P6 q6 d6) (.slice X6 x6 y6) (.slice Y6 u6 z6) (.int .i64 t6)) (fun hHeld => ?_)
          clear hK K
          (try simp only [Act.put]); (try simp only [List.setIfInBounds_toArray]); (try simp only [List.set_cons_succ]); (try simp only [List.set_cons_zero])
          refine wpAnyH_done (by kernel_rfl) ?_ _
          go_wp2_with fail
          go_meet
          exact ⟨rfl, ⟨A6, n6, c6, P6, q6, d6, X6, x6, y6, Y6, u6, z6, t6⟩, st_put G6.out rfl (.slice A6 n6 c6) (.slice P6 q6 d6) (.slice X6 x6 y6) (.slice Y6 u6 z6) (.int .i64 t6), sv_put (V0 := ⟨A3, n3, c3', P3, q3, d3, X3, x3, y3, Y3, u3, z3, t3⟩) HV6.out G6.out (.slice A6 n6 c6) (.slice P6 q6 d6) (.slice X6 x6 y6) (.slice Y6 u6 z6) (.int .i64 t6), st_below B6.out hg (.slice A6 n6 c6) (.slice P6 q6 d6) (.slice X6 x6 y6) (.slice Y6 u6 z6) (.int .i64 t6)⟩
        · go_simp
          go_at_call 8
          refine (HAS.out _).mono ?_
          rintro _ w5 ⟨rfl, hb5⟩
          have hb5' : Below w4.heap.size w4 w5 := (Below.refl w4.heap.size w4).drew.trans hb5
          refine hK.out _ _ (Q4.out.later hb5') (fun hHeld => ?_)
          clear hK K
          (try simp only [Act.put]); (try simp only [List.setIfInBounds_toArray]); (try simp only [List.set_cons_succ]); (try simp only [List.set_cons_zero])
          refine wpAnyH_ready (rs := [0]) (by kernel_rfl) (by simp) ?_
          refine AllReadyH.cons (i := 0) rfl (fun K hK => ?_) AllReadyH.nil
          obtain ⟨k0, k1, k2, k3, k4⟩ := (show _ ∧ _ ∧ _ ∧ _ ∧ _ from ⟨(G4.out.later hb5').cell 0 rfl, (G4.out.later hb5').cell 1 rfl, (G4.out.later hb5').cell 2 rfl, (G4.out.later hb5').cell 3 rfl, (G4.out.later hb5').cell 4 rfl⟩)
          go_simp
          refine hK.out _ _ (Q4.out.later hb5') (fun hHeld => ?_)
          clear hK K
          (try simp only [Act.put]); (try simp only [List.setIfInBounds_toArray]); (try simp only [List.set_cons_succ]); (try simp only [List.set_cons_zero])
          clear k0 k1 k2 k3 k4
          refine wpAnyH_ready (rs := [3]) (by kernel_rfl) (by simp) ?_
          refine AllReadyH.cons (i := 3) rfl (fun K hK => ?_) AllReadyH.nil
          go_simp
          go_at_call 7
          refine (HDO.out _ (V4.out.below hb5') (B4.out.trans (hb5'.mono B4.out.size))).mono ?_
          rintro _ w6 ⟨V6, rfl, hv6, hb6⟩
          have hb6' : Below w4.heap.size w4 w6 := hb5'.trans (hb6.mono hb5'.size)
          obtain ⟨A6, n6, c6, P6, q6, d6, X6, x6, y6, Y6, u6, z6, t6⟩ := V6
          dsimp only at hv6 ⊢
          refine hK.out _ _ (Q4.out.later hb6') (fun hHeld => ?_)
          clear hK K
          (try simp only [Act.put]); (try simp only [List.setIfInBounds_toArray]); (try simp only [List.set_cons_succ]); (try simp only [List.set_cons_zero])
          refine take_at 4 29 (v := ?_) rfl rfl (by kernel_rfl) (by kernel_rfl) (by kernel_rfl) (fun _ _ _ h => h) (Or.inl ⟨by rfl, ?_⟩) (by assumption) ?_
          rotate_left
          · intro w' hSw
            go_simp
            (try with_reducible rfl)
          (try simp only [Act.put, List.setIfInBounds_toArray, List.set_cons_zero, List.set_cons_succ])
          refine take_at 5 34 (v := ?_) rfl rfl (by kernel_rfl) (by kernel_rfl) (by kernel_rfl) (fun _ _ _ h => h) (Or.inl ⟨by rfl, ?_⟩) (by assumption) ?_
          rotate_left
          · intro w' hSw
            go_simp
            (try with_reducible rfl)
          (try simp only [Act.put, List.setIfInBounds_toArray, List.set_cons_zero, List.set_cons_succ])
          refine take_at 6 35 (v := ?_) rfl rfl (by kernel_rfl) (by kernel_rfl) (by kernel_rfl) (fun _ _ _ h => h) (Or.inl ⟨by rfl, ?_⟩) (by assumption) ?_
          rotate_left
          · intro w' hSw
            go_simp
            (try with_reducible rfl)
          (try simp only [Act.put, List.setIfInBounds_toArray, List.set_cons_zero, List.set_cons_succ])
          have G6 := Lib.hid (G4.out.later hb6')
          have HV6 := Lib.hid hv6
          have B6 := Lib.hid (B4.out.trans (hb6'.mono B4.out.size))
          have Q6 := Lib.hid (Q4.out.later hb6')
          clear hv6 hb6 hb6' hb5 hb5'
          obtain ⟨e0, e1, e2, e3, e4⟩ := (show _ ∧ _ ∧ _ ∧ _ ∧ _ from ⟨G6.out.cell 0 rfl, G6.out.cell 1 rfl, G6.out.cell 2 rfl, G6.out.cell 3 rfl, G6.out.cell 4 rfl⟩)
          obtain ⟨f0, f1, f2, f3, f4⟩ := (show _ ∧ _ ∧ _ ∧ _ ∧ _ from ⟨G6.out.loose 0, G6.out.loose 1, G6.out.loose 2, G6.out.loose 3, G6.out.loose 4⟩)
          have hg6 : g < w6.heap.size := G6.out.lt
          refine wpAnyH_ready (rs := [7]) (by kernel_rfl) (by simp) ?_
          refine AllReadyH.cons (i := 7) rfl (fun K hK => ?_) AllReadyH.nil
          go_simp
          refine hK.out _ (((((w6.setCell ⟨g, 0, none⟩ (.slice A6 n6 c6)).setCell ⟨g, 1, none⟩ (.slice P6 q6 d6)).setCell ⟨g, 2, none⟩ (.slice X6 x6 y6)).setCell ⟨g, 3, none⟩ (.slice Y6 u6 z6)).setCell ⟨g, 4, none⟩ (.int .i64 t6)) (st_other (g := g) Q6.out hgk (.slice A6 n6 c6) (.slice P6 q6 d6) (.slice X6 x6 y6) (.slice Y6 u6 z6) (.int .i64 t6)) (fun hHeld => ?_)
          clear hK K
          (try simp only [Act.put]); (try simp only [List.setIfInBounds_toArray]); (try simp only [List.set_cons_succ]); (try simp only [List.set_cons_zero])
          refine wpAnyH_done (by kernel_rfl) ?_ _
          go_wp2_with fail
          go_meet
          exact ⟨rfl, ⟨A6, n6, c6, P6, q6, d6, X6, x6, y6, Y6, u6, z6, t6⟩, st_put G6.out rfl (.slice A6 n6 c6) (.slice P6 q6 d6) (.slice X6 x6 y6) (.slice Y6 u6 z6) (.int .i64 t6), sv_put (V0 := ⟨A3, n3, c3', P3, q3, d3, X3, x3, y3, Y3, u3, z3, t3⟩) HV6.out G6.out (.slice A6 n6 c6) (.slice P6 q6 d6) (.slice X6 x6 y6) (.slice Y6 u6 z6) (.int .i64 t6), st_below B6.out hg (.slice A6 n6 c6) (.slice P6 q6 d6) (.slice X6 x6 y6) (.slice Y6 u6 z6) (.int .i64 t6)⟩
      case rest =>
        obtain ⟨rfl, V5, hG5, hV5, hB5⟩ := hcut
        obtain ⟨A5, n5, c5, P5, q5, d5, X5, x5, y5, Y5, u5, z5, t5⟩ := V5
        unfold Sv.cells at hG5
        dsimp only at hG5
        have G5 := Lib.hid hG5
        have V5 := Lib.hid hV5
        have B5 := Lib.hid hB5
        clear hG5 hV5 hB5 G4 V4 B4 Q4
        have hk4 : (k : Int).tmod 4 = ((k % 4 : Nat) : Int) := by rw [Int.tmod_eq_emod_of_nonneg (by omega)]; omega
        obtain ⟨KM, hKM⟩ : ∃ KM : Nat, k % 4 = KM := ⟨_, rfl⟩
        rw [hKM] at hk4
        clear hKM
        have HTK := Lib.hid (fun W (h : SvAt W ⟨A5, n5, c5, P5, q5, d5, X5, x5, y5, Y5, u5, z5, t5⟩ S2) => sv_tick _ S2 W h OKN.out)
        unfold Sv.val Sv.cells at HTK
        dsimp only at HTK
        go_upto_if 41 with fail
        go_cut [24] from 24 to 71 (fun s24 wx => s24 = .int .i64 (k : Int) ∧ ∃ (V' : Sv) (s' : St), Blk wx g 34 V'.cells ∧ SvAt wx V' s' ∧ Ok s' ∧ Below w.heap.size w wx)
        case first =>
          by_cases hq : (KM : Int) = (M : Int)
          · have qe := eqT hq
            obtain ⟨e0, e1, e2, e3, e4⟩ := (show _ ∧ _ ∧ _ ∧ _ ∧ _ from ⟨G5.out.cell 0 rfl, G5.out.cell 1 rfl, G5.out.cell 2 rfl, G5.out.cell 3 rfl, G5.out.cell 4 rfl⟩)
            go_wp2_with fail
            refine (HTK.out _ V5.out).mono ?_
            rintro _ w7 ⟨V7, rfl, hv7, hb7⟩
            obtain ⟨A7, n7, c7, P7, q7, d7, X7, x7, y7, Y7, u7, z7, t7⟩ := V7
            dsimp only at hv7 ⊢
            have G7 := Lib.hid (G5.out.later hb7)
            have V7 := Lib.hid hv7
            have B7 := Lib.hid (B5.out.trans (hb7.mono B5.out.size))
            clear e0 e1 e2 e3 e4 hv7 hb7
            obtain ⟨e0, e1, e2, e3, e4⟩ := (show _ ∧ _ ∧ _ ∧ _ ∧ _ from ⟨G7.out.cell 0 rfl, G7.out.cell 1 rfl, G7.out.cell 2 rfl, G7.out.cell 3 rfl, G7.out.cell 4 rfl⟩)
            obtain ⟨f0, f1, f2, f3, f4⟩ := (show _ ∧ _ ∧ _ ∧ _ ∧ _ from ⟨G7.out.loose 0, G7.out.loose 1, G7.out.loose 2, G7.out.loose 3, G7.out.loose 4⟩)
            have hg7 : g < w7.heap.size := G7.out.lt
            go_wp2_with fail
            go_meet
            exact ⟨rfl, ⟨A7, n7, c7, P7, q7, d7, X7, x7, y7, Y7, u7, z7, t7⟩, _, st_put G7.out rfl (.slice A7 n7 c7) (.slice P7 q7 d7) (.slice X7 x7 y7) (.slice Y7 u7 z7) (.int .i64 t7), sv_put (V0 := ⟨A5, n5, c5, P5, q5, d5, X5, x5, y5, Y5, u5, z5, t5⟩) V7.out G7.out (.slice A7 n7 c7) (.slice P7 q7 d7) (.slice X7 x7 y7) (.slice Y7 u7 z7) (.int .i64 t7), OKN.out.tick, st_below B7.out hg (.slice A7 n7 c7) (.slice P7 q7 d7) (.slice X7 x7 y7) (.slice Y7 u7 z7) (.int .i64 t7)⟩
          · have qe := eqF hq
            go_wp2_with fail
            go_meet
            exact ⟨rfl, ⟨A5, n5, c5, P5, q5, d5, X5, x5, y5, Y5, u5, z5, t5⟩, _, G5.out, V5.out, OKN.out, B5.out⟩
        case rest =>
          obtain ⟨rfl, V6, s6, hG6, hV6, hO6, hB6⟩ := hcut
          obtain ⟨A6, n6, c6, P6, q6, d6, X6, x6, y6, Y6, u6, z6, t6⟩ := V6
          unfold Sv.cells at hG6
          dsimp only at hG6
          have e1 := hV6.n
          have e2 := hV6.q
          dsimp only at e1 e2
          have hn6 := (right_len hO6.right).2
          have hq6 := hO6.few
          rw [e2] at hq6
          have E1 := Lib.hid e1
          have E2 := Lib.hid e2
          have G6 := Lib.hid hG6
          have V6 := Lib.hid hV6
          have B6 := Lib.hid hB6
          have OK6 := Lib.hid hO6
          have hn64 : n6 ≤ 64 := by omega
          have HRI := Lib.hid (fun W (h : SvAt W ⟨A6, n6, c6, P6, q6, d6, X6, x6, y6, Y6, u6, z6, t6⟩ s6) => right_any A6 n6 c6 s6.acs W E1.out h.st.accs (by omega))
          have HSU := Lib.hid (fun W (h : SvAt W ⟨A6, n6, c6, P6, q6, d6, X6, x6, y6, Y6, u6, z6, t6⟩ s6) => sums_any A6 n6 c6 s6.acs W E1.out h.st.accs (by omega))
          have HHE := Lib.hid (fun W (h : SvAt W ⟨A6, n6, c6, P6, q6, d6, X6, x6, y6, Y6, u6, z6, t6⟩ s6) => held_any _ s6 W h OK6.out (by rw [E1.out]; exact hn64))
          rw [hO6.right] at HRI
          rw [gsum_zero (hO6.sums 0 (by omega)), gsum_zero (hO6.sums 1 (by omega)), gsum_zero (hO6.sums 2 (by omega))] at HSU
          unfold Sv.val Sv.cells at HHE
          dsimp only at HHE
          clear e1 e2 hG6 hV6 hB6 hO6 hn6 G5 V5 B5 HTK
          have b0 := G6.out.cell 0 rfl
          go_wp2_with fail
          refine (HRI.out _ V6.out).mono ?_
          rintro _ w7 ⟨rfl, hb7⟩
          have G7 := Lib.hid (G6.out.later hb7)
          have V7 := Lib.hid (V6.out.below hb7)
          have B7 := Lib.hid (B6.out.trans (hb7.mono B6.out.size))
          clear b0 hb7 G6 V6 B6
          have b0 := G7.out.cell 0 rfl
          go_wp2_with fail
          refine (HSU.out _ V7.out).mono ?_
          rintro _ w8 ⟨rfl, hb8⟩
          have G8 := Lib.hid (G7.out.later hb8)
          have V8 := Lib.hid (V7.out.below hb8)
          have B8 := Lib.hid (B7.out.trans (hb8.mono B7.out.size))
          clear b0 hb8 G7 V7 B7
          obtain ⟨b0, b1, b2, b3, b4⟩ := (show _ ∧ _ ∧ _ ∧ _ ∧ _ from ⟨G8.out.cell 0 rfl, G8.out.cell 1 rfl, G8.out.cell 2 rfl, G8.out.cell 3 rfl, G8.out.cell 4 rfl⟩)
          have hez : (Op.equalIn 10000 50 (.agg #[.int .i64 0, .int .i64 0, .int .i64 0]) (.agg #[.int .i64 0, .int .i64 0, .int .i64 0])).run Tryz.prog w8 = .ok true w8 := arr_cmp 0 0 0 w8
          go_wp2_with fail
          refine (HHE.out _ V8.out).mono ?_
          rintro _ w9 ⟨rfl, hb9⟩
          have G9 := Lib.hid (G8.out.later hb9)
          have V9 := Lib.hid (V8.out.below hb9)
          have B9 := Lib.hid (B8.out.trans (hb9.mono B8.out.size))
          clear b0 b1 b2 b3 b4 hb9 G8 V8 B8
          have b1 := G9.out.cell 1 rfl
          go_wp2
          go_loopw [63] (fun i wr => ∃ (j : Nat), j ≤ q6 ∧ i = .int .i64 (j : Int) ∧ Below w9.heap.size w9 wr) (fun i _ => q6 - (intOf i).toNat)
          case atStart => exact ⟨0, by omega, rfl, Below.refl _ _⟩
          case round =>
            obtain ⟨j, hj, rfl, hL⟩ := hrel
            have L9 := Lib.hid hL
            clear hL b1
            by_cases hlj : j < q6
            · obtain ⟨p, hp⟩ : ∃ p, s6.pys[j]? = some p := ⟨_, List.getElem?_eq_getElem (by rw [E2.out]; exact hlj)⟩
              obtain ⟨pa, hpa, hat⟩ := (V9.out.below L9.out).st.pays.at_ hp
              dsimp only at hpa
              subst hpa
              obtain ⟨p0, p1, p2, p3, p4, p5, p6, p7⟩ := pay_cells hat
              have hmem := List.mem_of_getElem? hp
              have HPR := Lib.hid (fun W => pright_any p W (OK6.out.fits hmem (by rw [E1.out]; exact hn64)))
              rw [decide_eq_true (OK6.out.pays p hmem).1] at HPR
              obtain ⟨pf, pd, pau, pcp, prf, pcg, ptl, pst⟩ := p
              unfold BoolRes Py.val at HPR
              dsimp only at p0 p1 p2 p3 p4 p5 p6 p7 HPR
              clear hp hat hmem
              go_wp2_with fail
              refine (HPR.out _).mono ?_
              rintro _ wy ⟨rfl, hby⟩
              have LY := Lib.hid ((L9.out.alloc L9.out.size (.cells #[.int .i64 pf, .int .i64 pd, .int .i64 pau, .int .i64 pcp, .int .i64 prf, .int .i64 pcg, .int .i64 ptl, .int .i64 pst] 55)).trans (hby.mono (by have := L9.out.size; simp; omega)))
              clear hby p0 p1 p2 p3 p4 p5 p6 p7
              go_wp2
              go_roundw
              · exact ⟨j + 1, by omega, rfl, LY.out⟩
              · simp [intOf]; omega
            · go_wp2
              go_roundw
              · exact ⟨k + 1, ⟨A6, n6, c6, P6, q6, d6, X6, x6, y6, Y6, u6, z6, t6⟩, s6, by omega, by first | (congr 1; done) | (congr 1; omega), G9.out.later L9.out, V9.out.below L9.out, OK6.out, B9.out.trans (L9.out.mono B9.out.size)⟩
              · simp [intOf]; omega
    · have hn6 := (right_len OK3.out.right).2
      have HHE := Lib.hid (held_any _ s wr V3.out OK3.out (by omega))
      unfold Sv.val Sv.cells at HHE
      dsimp only at HHE
      obtain ⟨b0, b1, b2, b3, b4⟩ := (show _ ∧ _ ∧ _ ∧ _ ∧ _ from ⟨G3.out.cell 0 rfl, G3.out.cell 1 rfl, G3.out.cell 2 rfl, G3.out.cell 3 rfl, G3.out.cell 4 rfl⟩)
      clear hn6
      go_wp2_with fail
      refine HHE.out.mono ?_
      rintro _ w9 ⟨rfl, hb9⟩
      go_wp2
      go_ret
      exact ⟨rfl, B3.out.trans (hb9.mono B3.out.size)⟩

theorem opsRight_walk (w : World) (v0 : Value) (w0 : BookAt w v0) (a1 : Option Addr) (len1 cap1 : Nat) (w1 : IsRecs paids Pd.fits w a1 len1 cap1) (r1 : cap1 ≤ 1048576) (a2 : Int) (w2 : (Lit.int .u8 a2).wf = true) (a3 : Option Addr) (len3 cap3 : Nat) (w3 : IsRecs asks Ak.fits w a3 len3 cap3) (r3 : cap3 ≤ 1048576) (a4 : Int) (w4 : (Lit.int .u8 a4).wf = true) (hh : HasErr w) :
    Calls Tryz.prog 3 #[v0, .slice a1 len1 cap1, .int .u8 a2, .slice a3 len3 cap3, .int .u8 a4] w fun e w' => e = .returned (.bool true) ∧ Below w.heap.size w w' := by
  obtain ⟨zs, hl, hr, hf, hlc, _, _⟩ := recs_list w1
  obtain ⟨zk, hkl, hk, hkf, hkc, _, _⟩ := recs_list w3
  obtain ⟨t, rfl, ht⟩ := u8_nat w2
  obtain ⟨m, rfl, hm⟩ := u8_nat w4
  exact opsRight_core w v0 w0 a1 len1 cap1 zs hl hr hf (by omega) t ht a3 len3 cap3 zk hkl hk hkf (by omega) m hm hh
end Go.Proofs.YtjnmppdohglcaaaGreatDoor

