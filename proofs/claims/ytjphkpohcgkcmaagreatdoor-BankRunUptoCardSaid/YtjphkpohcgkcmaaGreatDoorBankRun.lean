/-
  What a bank does of requests, one behind the other: the program's Run by its contract.
-/
import Derived.Test.YtjphkpohcgkcmaaGreatDoorBankDo
import Derived.Test.YtjphkpohcgkcmaaGreatDoorGrI
import Derived.Deep.RegionHeld3
import Derived.LoopTactic
namespace Go.Proofs.YtjphkpohcgkcmaaGreatDoor
open Go Go.RowKit
set_option linter.unusedVariables false

/-- A state, the replies; nothing below is turned. -/
def RnRes (w : World) (sl : List Sg) (Y : Ru) (e : Ending) (w' : World) : Prop :=
  ∃ (V' : Sv) (g n c : Nat), e = .returned (.tuple #[V'.val, .slice (some ⟨g, 0, none⟩) n c]) ∧ SkAt w' V' Y.T sl Y.kl ∧ OwnS rps w' w.heap.size (.slice (some ⟨g, 0, none⟩) n c) Y.os ∧ Y.os.length = n ∧ Below w.heap.size w w'

set_option maxRecDepth 100000 in
set_option maxHeartbeats 4000000 in
theorem brun_any (V0 : Sv) (X : Ru) (sl : List Sg) (w : World) (ra : Option Addr) (rn rc : Nat) (rs : List Rq) (la : Option Addr) (ln lc : Nat) (hv : SkAt w V0 X.T sl X.kl) (hok : Ok X.T) (hsl : sl.length ≤ 2000000) (hkl : X.kl.length ≤ 256) (hh : HasErr w) (hr : RdS rqs w ra rs) (hrn : rs.length = rn) (hrm : rn ≤ 8796093022207) (hl : RdS flags w la X.ls) (hln : X.ls.length = ln) (hlc : ln ≤ lc) (hm : lc ≤ 9223372036854775806) (hX : X.os = []) :
    Calls Tryz.prog 12 #[V0.val, .slice ra rn rc, .slice la ln lc] w (RnRes w sl (runR X rs)) := by
  have HV := Lib.hid hv
  have HH := Lib.hid hh
  have HR := Lib.hid hr
  have HRN := Lib.hid hrn
  have HF := Lib.hid hl
  have HFN := Lib.hid hln
  have HOK := Lib.hid hok
  have HKL := Lib.hid hkl
  have HXO := Lib.hid hX
  have hmk := fun W => run_make_rps rn hrm W
  unfold RnRes
  obtain ⟨A0, n0, c0, B0, q0, d0, X0, xn0, xc0, Y0, yn0, yc0, t0⟩ := V0
  unfold Sv.val Sv.cells
  dsimp only
  clear hv hok hkl hh hr hl hX hrn hln
  go_enter Tryz.func12, Tryz.ntmps12
  go_upto_region 1 with fail
  have B1 := Lib.hid (((Below.refl w.heap.size w).alloc (Nat.le_refl _) (.cells #[.slice A0 n0 c0, .slice B0 q0 d0, .slice X0 xn0 xc0, .slice Y0 yn0 yc0, .int .i64 t0] 34)).alloc (by simp) (.cells #[.slice none 0 0, .slice none 0 0, .slice none 0 0, .slice none 0 0, .int .i64 0] 34))
  have S1 := Lib.hid ((Blk.new w 34 #[.slice A0 n0 c0, .slice B0 q0 d0, .slice X0 xn0 xc0, .slice Y0 yn0 yc0, .int .i64 t0]).more (.cells #[.slice none 0 0, .slice none 0 0, .slice none 0 0, .slice none 0 0, .int .i64 0] 34))
  have z1 := Blk.new (w.alloc (.cells #[.slice A0 n0 c0, .slice B0 q0 d0, .slice X0 xn0 xc0, .slice Y0 yn0 yc0, .int .i64 t0] 34)) 34 #[.slice none 0 0, .slice none 0 0, .slice none 0 0, .slice none 0 0, .int .i64 0]
  rw [alloc_size] at z1
  have Z1 := Lib.hid z1
  clear z1
  generalize (w.alloc (.cells #[.slice A0 n0 c0, .slice B0 q0 d0, .slice X0 xn0 xc0, .slice Y0 yn0 yc0, .int .i64 t0] 34)).alloc (.cells #[.slice none 0 0, .slice none 0 0, .slice none 0 0, .slice none 0 0, .int .i64 0] 34) = w1 at B1 S1 Z1 ⊢
  have hg1 : w.heap.size + 1 < w1.heap.size := Z1.out.lt
  have HV_1 := Lib.hid (HV.out.below B1.out)
  have B_1 := Lib.hid B1.out
  have S_1 := Lib.hid S1.out
  have Z_1 := Lib.hid Z1.out
  have HO1 := Lib.hid (own_room w1 rn hrm)
  clear B1 S1 Z1
  go_upto_region 2 with fail
  have al := (Below.refl w1.heap.size w1).alloc (Nat.le_refl _) (.cells (madeCells #[.int .i64 0, .int .i64 0] (rn * 2)) 50)
  have B_2 := Lib.hid (B_1.out.trans (al.mono B_1.out.size))
  have S_2 := Lib.hid (S_1.out.later al)
  have Z_2 := Lib.hid (Z_1.out.later al)
  have HV_2 := Lib.hid (HV_1.out.below al)
  clear al B_1 S_1 Z_1 HV_1
  generalize w1.alloc (.cells (madeCells #[.int .i64 0, .int .i64 0] (rn * 2)) 50) = w2 at B_2 S_2 Z_2 HV_2 HO1 ⊢
  generalize w1.heap.size = gr at hg1 HO1 ⊢
  have hgw2 : w.heap.size ≤ gr := by omega
  go_wp2
  go_loopw [2, 8, 19] (fun lv rv i wr => ∃ (k : Nat) (V : Sv) (la' : Option Addr) (ln' lc' : Nat), k ≤ rn ∧ i = .int .i64 (k : Int) ∧ lv = .slice la' ln' lc' ∧ rv = .slice (some ⟨gr, 0, none⟩) k rn ∧ Blk wr w.heap.size 34 V.cells ∧ Blk wr (w.heap.size + 1) 34 #[.slice none 0 0, .slice none 0 0, .slice none 0 0, .slice none 0 0, .int .i64 0] ∧ SkAt wr V (runR X (rs.take k)).T sl (runR X (rs.take k)).kl ∧ RdS flags w la' (runR X (rs.take k)).ls ∧ (runR X (rs.take k)).ls.length = ln' ∧ ln' ≤ lc' ∧ lc' ≤ 9223372036854775806 ∧ OwnS rps wr gr (.slice (some ⟨gr, 0, none⟩) k rn) (runR X (rs.take k)).os ∧ V.in_ (fun b => b ≠ gr) ∧ Below w.heap.size w wr) (fun _ _ i _ => rn - (intOf i).toNat)
  case atStart => exact ⟨0, ⟨A0, n0, c0, B0, q0, d0, X0, xn0, xc0, Y0, yn0, yc0, t0⟩, la, ln, lc, by omega, rfl, rfl, rfl, S_2.out, Z_2.out, HV_2.out, HF.out, HFN.out, hlc, hm, by rw [List.take_zero, runR_nil, HXO.out]; exact HO1.out, Sv.in_.mono (HV.out.in_lt) (fun b hb => by omega), B_2.out⟩
  case round =>
    obtain ⟨k, V, la', ln', lc', hk, rfl, rfl, rfl, hG, hZ, hV, hF, hFn, hFc, hFm, hO, hI, hB⟩ := hrel
    obtain ⟨A3, n3, c3, B3, q3, d3, X3, xn3, xc3, Y3, yn3, yc3, t3⟩ := V
    unfold Sv.cells at hG
    dsimp only at hG
    have G_0 := Lib.hid hG
    have Z_0 := Lib.hid hZ
    have HV_0 := Lib.hid hV
    have OR_0 := Lib.hid hO
    have HL_0 := Lib.hid hB
    have FL := Lib.hid hF
    have FN := Lib.hid hFn
    have HIN := Lib.hid hI
    clear hG hZ hV hF hFn hO hI hB HV_2 S_2 Z_2 B_2 HO1
    have hgrr : gr < wr.heap.size := (World.ownsRow.lt OR_0.out gr rfl).2
    by_cases hlt : k < rn
    · obtain ⟨r, hrk⟩ : ∃ r, rs[k]? = some r := ⟨_, List.getElem?_eq_getElem (by rw [HRN.out]; exact hlt)⟩
      have hnx := runR_at (X := X) hrk
      obtain ⟨ad, rfl, hat⟩ := (HR.out.below HL_0.out).at_ hrk
      obtain ⟨p0, p1, p2, p3, p4, p5, p6⟩ := rqs_cells hat
      have hok1 : Ok (runR X (rs.take k)).T := runR_ok HOK.out
      have hkl1 := runR_kl (rs := rs.take k) HKL.out
      have hosn : (runR X (rs.take k)).os.length = k := by
        have h1 := runR_os (rs := rs.take k) (X := X)
        have h2 := HRN.out
        rw [HXO.out, List.length_take, List.length_nil] at h1
        omega
      generalize runR X (rs.take k) = Y at hnx hok1 hkl1 hosn HV_0 OR_0 FL FN
      obtain ⟨T, kl, os, ls⟩ := Y
      unfold goR Ru.at at hnx
      dsimp only at hnx hok1 hkl1 hosn HV_0 OR_0 FL FN
      have hble := bkO_le T kl r ls
      have HD1 := Lib.hid (fun W (h1 : SkAt W ⟨A3, n3, c3, B3, q3, d3, X3, xn3, xc3, Y3, yn3, yc3, t3⟩ T sl kl) (h2 : Below w.heap.size w W) => bdo_any ⟨A3, n3, c3, B3, q3, d3, X3, xn3, xc3, Y3, yn3, yc3, t3⟩ T sl kl r W la' ln' lc' ls h1 ⟨hok1.right, hok1.few, hsl, by omega⟩ (HH.out.below h2) (FL.out.below h2) FN.out (by omega) (by omega))
      unfold BkRes at HD1
      generalize bkO T kl r ls = Z at HD1 hnx hble
      obtain ⟨T9, K9, E9, I9, N9⟩ := Z
      dsimp only at HD1 hnx hble
      have HNX := Lib.hid hnx
      have HLE := Lib.hid hble
      have HOS := Lib.hid hosn
      obtain ⟨rk, ro, ra, rb, rm, rl, ru⟩ := r
      unfold Sv.val Sv.cells Rq.val at HD1
      dsimp only at p0 p1 p2 p3 p4 p5 p6 HD1
      clear hrk hat hnx hble hok1 hkl1 hosn hsl
      go_upto_region 5 with fail
      have al := (Below.refl wr.heap.size wr).alloc (Nat.le_refl _) (.cells (rqC rk ro ra rb rm rl ru) 42)
      have nb0 := Blk.new wr 42 (rqC rk ro ra rb rm rl ru)
      have HL_1 := Lib.hid (HL_0.out.trans (al.mono HL_0.out.size))
      have HV_1 := Lib.hid (HV_0.out.below al)
      have G_1 := Lib.hid (G_0.out.later al)
      have Z_1 := Lib.hid (Z_0.out.later al)
      have OR_1 := Lib.hid (OR_0.out.below al)
      clear al HL_0 HV_0 G_0 Z_0 OR_0
      have R_1 := Lib.hid (nb0)
      clear nb0
      generalize wr.alloc (.cells (rqC rk ro ra rb rm rl ru) 42) = wb at HL_1 HV_1 G_1 Z_1 OR_1 R_1 ⊢
      clear p0 p1 p2 p3 p4 p5 p6
      have hgb : gr < wr.heap.size := hgrr
      generalize wr.heap.size = gq at R_1 hgb ⊢
      have D1 := Lib.hid (HD1.out wb HV_1.out HL_1.out)
      have hgwb : gr < wb.heap.size := (World.ownsRow.lt OR_1.out gr rfl).2
      obtain ⟨x0, x1, x2, x3, x4⟩ := (show _ ∧ _ ∧ _ ∧ _ ∧ _ from ⟨G_1.out.cell 0 rfl, G_1.out.cell 1 rfl, G_1.out.cell 2 rfl, G_1.out.cell 3 rfl, G_1.out.cell 4 rfl⟩)
      obtain ⟨r0, r1, r2, r3, r4, r5, r6⟩ := (show _ ∧ _ ∧ _ ∧ _ ∧ _ ∧ _ ∧ _ from ⟨R_1.out.cell 0 rfl, R_1.out.cell 1 rfl, R_1.out.cell 2 rfl, R_1.out.cell 3 rfl, R_1.out.cell 4 rfl, R_1.out.cell 5 rfl, R_1.out.cell 6 rfl⟩)
      go_upto_region 6 with (first
        | (go_at_call 14; refine D1.out.mono ?_; rintro _ we ⟨V, rfl, hv, hb, hnw⟩
           obtain ⟨A4, n4, c4, B4, q4, d4, X4, xn4, xc4, Y4, yn4, yc4, t4⟩ := V
           dsimp only at hv ⊢
           have HVa := Lib.hid hv
           have HXe := Lib.hid hb
           have HNW := Lib.hid hnw
           clear hv hb hnw x0 x1 x2 x3 x4 r0 r1 r2 r3 r4 r5 r6))
      clear R_1 HV_1
      have HL_2 := Lib.hid (HL_1.out.trans (HXe.out.mono HL_1.out.size))
      have G_2 := Lib.hid (G_1.out.later HXe.out)
      have Z_2 := Lib.hid (Z_1.out.later HXe.out)
      have OR_2 := Lib.hid (OR_1.out.below HXe.out)
      clear HL_1 G_1 Z_1 OR_1
      have HP_2 := Lib.hid (HVa.out)
      clear HVa HXe D1 HD1
      have hgwe : gr < we.heap.size := (World.ownsRow.lt OR_2.out gr rfl).2
      have hzwe : w.heap.size + 1 < we.heap.size := Z_2.out.lt
      have al := (Below.refl we.heap.size we).alloc (Nat.le_refl _) (.cells #[.slice A4 n4 c4, .slice B4 q4 d4, .slice X4 xn4 xc4, .slice Y4 yn4 yc4, .int .i64 t4] 34)
      replace al := al.alloc (by simp; try omega) (.cells #[.int .i64 E9, .int .i64 I9] 50)
      have nb0 := (Blk.new we 34 #[.slice A4 n4 c4, .slice B4 q4 d4, .slice X4 xn4 xc4, .slice Y4 yn4 yc4, .int .i64 t4]).more (.cells #[.int .i64 E9, .int .i64 I9] 50)
      have nb1 := Blk.new (we.alloc (.cells #[.slice A4 n4 c4, .slice B4 q4 d4, .slice X4 xn4 xc4, .slice Y4 yn4 yc4, .int .i64 t4] 34)) 50 #[.int .i64 E9, .int .i64 I9]
      rw [alloc_size] at nb1
      have HL_3 := Lib.hid (HL_2.out.trans (al.mono HL_2.out.size))
      have G_3 := Lib.hid (G_2.out.later al)
      have Z_3 := Lib.hid (Z_2.out.later al)
      have OR_3 := Lib.hid (OR_2.out.below al)
      have HP_3 := Lib.hid (HP_2.out.below al)
      clear al HL_2 G_2 Z_2 OR_2 HP_2
      have S1_3 := Lib.hid (nb0)
      have P1_3 := Lib.hid (nb1)
      clear nb0 nb1
      generalize (we.alloc (.cells #[.slice A4 n4 c4, .slice B4 q4 d4, .slice X4 xn4 xc4, .slice Y4 yn4 yc4, .int .i64 t4] 34)).alloc (.cells #[.int .i64 E9, .int .i64 I9] 50) = wf at HL_3 G_3 Z_3 OR_3 HP_3 S1_3 P1_3 ⊢
      generalize we.heap.size = g13 at S1_3 P1_3 hgwe hzwe ⊢
      have hbk := fun W' => run_backl W' la' ln' lc' N9 (by have := HLE.out; have := FN.out; omega)
      have hgs : w.heap.size ≠ g13 := by omega
      refine wp_region_held_drew (S := fun w' => Blk w' g13 34 #[.slice A4 n4 c4, .slice B4 q4 d4, .slice X4 xn4 xc4, .slice Y4 yn4 yc4, .int .i64 t4]) (by kernel_rfl) S1_3.out.drew (fun hHeld => ?_)
      have hbd : Below wf.heap.size wf wf.drew := (Below.refl _ _).drew
      have HL_4 := Lib.hid (HL_3.out.trans (hbd.mono HL_3.out.size))
      have G_4 := Lib.hid (G_3.out.later hbd)
      have Z_4 := Lib.hid (Z_3.out.later hbd)
      have OR_4 := Lib.hid (OR_3.out.below hbd)
      have HP_4 := Lib.hid (HP_3.out.below hbd)
      have S1_4 := Lib.hid (S1_3.out.later hbd)
      have P1_4 := Lib.hid (P1_3.out.later hbd)
      clear HL_3 G_3 Z_3 OR_3 HP_3 S1_3 P1_3
      clear hbd
      generalize wf.drew = wn at hHeld HL_4 G_4 Z_4 OR_4 HP_4 S1_4 P1_4 ⊢
      refine take_at 0 31 (v := ?_) rfl rfl (by kernel_rfl) (by kernel_rfl) (by kernel_rfl) (fun _ _ _ h => h) (Or.inl ⟨by rfl, ?_⟩) (by assumption) ?_
      rotate_left
      · intro w' hSw
        have hSw' := hSw
        (try dsimp only at hSw')
        obtain ⟨k0, k1, k2, k3, k4⟩ := (show _ ∧ _ ∧ _ ∧ _ ∧ _ from ⟨hSw'.cell 0 rfl, hSw'.cell 1 rfl, hSw'.cell 2 rfl, hSw'.cell 3 rfl, hSw'.cell 4 rfl⟩)
        go_simp
        (try with_reducible rfl)
      (try simp only [Act.put]); (try simp only [List.setIfInBounds_toArray]); (try simp only [List.set_cons_succ]); (try simp only [List.set_cons_zero])
      refine take_at 1 32 (v := ?_) rfl rfl (by kernel_rfl) (by kernel_rfl) (by kernel_rfl) (fun _ _ _ h => h) (Or.inl ⟨by rfl, ?_⟩) (by assumption) ?_
      rotate_left
      · intro w' hSw
        go_simp
        (try with_reducible rfl)
      (try simp only [Act.put]); (try simp only [List.setIfInBounds_toArray]); (try simp only [List.set_cons_succ]); (try simp only [List.set_cons_zero])
      refine take_at 2 33 (v := ?_) rfl rfl (by kernel_rfl) (by kernel_rfl) (by kernel_rfl) (fun _ _ _ h => h) (Or.inl ⟨by rfl, ?_⟩) (by assumption) ?_
      rotate_left
      · intro w' hSw
        go_simp
        (try with_reducible rfl)
      (try simp only [Act.put]); (try simp only [List.setIfInBounds_toArray]); (try simp only [List.set_cons_succ]); (try simp only [List.set_cons_zero])
      refine take_at 3 34 (v := ?_) rfl rfl (by kernel_rfl) (by kernel_rfl) (by kernel_rfl) (fun _ _ _ h => h) (Or.inl ⟨by rfl, ?_⟩) (by assumption) ?_
      rotate_left
      · intro w' hSw
        go_simp
        (try with_reducible rfl)
      (try simp only [Act.put]); (try simp only [List.setIfInBounds_toArray]); (try simp only [List.set_cons_succ]); (try simp only [List.set_cons_zero])
      obtain ⟨y0, y1, y2, y3, y4⟩ := (show _ ∧ _ ∧ _ ∧ _ ∧ _ from ⟨G_4.out.cell 0 rfl, G_4.out.cell 1 rfl, G_4.out.cell 2 rfl, G_4.out.cell 3 rfl, G_4.out.cell 4 rfl⟩)
      obtain ⟨f0, f1, f2, f3, f4⟩ := (show _ ∧ _ ∧ _ ∧ _ ∧ _ from ⟨G_4.out.loose 0, G_4.out.loose 1, G_4.out.loose 2, G_4.out.loose 3, G_4.out.loose 4⟩)
      refine wpAnyH_ready (rs := [4]) (by kernel_rfl) (by simp) ?_
      refine AllReadyH.cons (i := 4) rfl (fun K0 hK => ?_) AllReadyH.nil
      go_simp
      refine hK.out _ (((((wn.setCell ⟨w.heap.size, 0, none⟩ (.slice A4 n4 c4)).setCell ⟨w.heap.size, 1, none⟩ (.slice B4 q4 d4)).setCell ⟨w.heap.size, 2, none⟩ (.slice X4 xn4 xc4)).setCell ⟨w.heap.size, 3, none⟩ (.slice Y4 yn4 yc4)).setCell ⟨w.heap.size, 4, none⟩ (.int .i64 t4)) (st_other S1_4.out hgs (.slice A4 n4 c4) (.slice B4 q4 d4) (.slice X4 xn4 xc4) (.slice Y4 yn4 yc4) (.int .i64 t4)) (fun hHeld => ?_)
      clear hK K0
      (try simp only [Act.put]); (try simp only [List.setIfInBounds_toArray]); (try simp only [List.set_cons_succ]); (try simp only [List.set_cons_zero])
      refine take_at 5 2 (v := ?_) rfl rfl (by kernel_rfl) (by kernel_rfl) (by kernel_rfl) (fun _ _ _ h => h) (Or.inl ⟨by rfl, ?_⟩) (by assumption) ?_
      rotate_left
      · intro w' hSw
        go_simp
        (try with_reducible rfl)
      (try simp only [Act.put]); (try simp only [List.setIfInBounds_toArray]); (try simp only [List.set_cons_succ]); (try simp only [List.set_cons_zero])
      refine wpAnyH_done (by kernel_rfl) ?_ _
      clear hHeld y0 y1 y2 y3 y4 f0 f1 f2 f3 f4
      have GX := Lib.hid (st_put G_4.out rfl (.slice A4 n4 c4) (.slice B4 q4 d4) (.slice X4 xn4 xc4) (.slice Y4 yn4 yc4) (.int .i64 t4))
      have ZX := Lib.hid (st_other Z_4.out (show w.heap.size ≠ w.heap.size + 1 by omega) (.slice A4 n4 c4) (.slice B4 q4 d4) (.slice X4 xn4 xc4) (.slice Y4 yn4 yc4) (.int .i64 t4))
      have PX := Lib.hid (st_other P1_4.out (show w.heap.size ≠ g13 + 1 by omega) (.slice A4 n4 c4) (.slice B4 q4 d4) (.slice X4 xn4 xc4) (.slice Y4 yn4 yc4) (.int .i64 t4))
      have VX := Lib.hid (sk_put (V0 := ⟨A3, n3, c3, B3, q3, d3, X3, xn3, xc3, Y3, yn3, yc3, t3⟩) HP_4.out G_4.out (.slice A4 n4 c4) (.slice B4 q4 d4) (.slice X4 xn4 xc4) (.slice Y4 yn4 yc4) (.int .i64 t4))
      have OX := Lib.hid (own_st OR_4.out (OR_4.out.ne G_4.out (by decide)) (.slice A4 n4 c4) (.slice B4 q4 d4) (.slice X4 xn4 xc4) (.slice Y4 yn4 yc4) (.int .i64 t4))
      have LX := Lib.hid (st_below HL_4.out (Nat.le_refl _) (.slice A4 n4 c4) (.slice B4 q4 d4) (.slice X4 xn4 xc4) (.slice Y4 yn4 yc4) (.int .i64 t4))
      clear HL_4 G_4 Z_4 OR_4 HP_4 S1_4 P1_4
      generalize ((((wn.setCell ⟨w.heap.size, 0, none⟩ (.slice A4 n4 c4)).setCell ⟨w.heap.size, 1, none⟩ (.slice B4 q4 d4)).setCell ⟨w.heap.size, 2, none⟩ (.slice X4 xn4 xc4)).setCell ⟨w.heap.size, 3, none⟩ (.slice Y4 yn4 yc4)).setCell ⟨w.heap.size, 4, none⟩ (.int .i64 t4) = wx at GX ZX PX VX OX LX ⊢
      have hgwx : gr < wx.heap.size := (World.ownsRow.lt OX.out gr rfl).2
      have hgwz : w.heap.size + 1 < wx.heap.size := ZX.out.lt
      obtain ⟨q0, q1⟩ := (show _ ∧ _ from ⟨PX.out.cell 0 rfl, PX.out.cell 1 rfl⟩)
      go_upto_region 8 with (at_builtin; first
        | (refine wpList_append_in (S := rps) _ rfl info_rps rfl _ rfl (.tmp 35) (.tmp 37) rfl gr gr k rn os rfl (OX.out.alloc _) HOS.out (by omega) ⟨_, 0, none⟩ _ (E9, I9) rfl (AtS.new rfl) ?_
           intro w1' ho1 hg1
           have HO1 := Lib.hid ho1
           have HG1 := Lib.hid hg1
           clear ho1 hg1))
      have al := (Below.refl wx.heap.size wx).alloc (Nat.le_refl _) (.cells #[.int .i64 E9, .int .i64 I9] 50)
      have GY := Lib.hid ((GX.out.later al).grow HG1.out (by intro e; injection e with e; omega))
      have ZY := Lib.hid ((ZX.out.later al).grow HG1.out (by intro e; injection e with e; omega))
      have hin4 : Sv.in_ ⟨A4, n4, c4, B4, q4, d4, X4, xn4, xc4, Y4, yn4, yc4, t4⟩ (fun b => b ≠ gr) := HNW.out (fun b => b ≠ gr) (fun b hb => by omega) HIN.out
      have VY := Lib.hid ((VX.out.below al).grow HG1.out (Sv.in_.mono hin4 (fun b hb e => hb (by injection e with e; exact e.symm))))
      have LY := Lib.hid (below_grown (g := gr) (n := 0) (c := 0) (LX.out.trans (al.mono LX.out.size)) HG1.out (by simp; omega) (by omega))
      clear al
      go_wp2
      go_roundw
      · exact ⟨k + 1, ⟨A4, n4, c4, B4, q4, d4, X4, xn4, xc4, Y4, yn4, yc4, t4⟩, _, _, _, by omega, by first | rfl | (congr 1; omega), rfl, rfl, GY.out, ZY.out, by rw [HNX.out]; exact VY.out, by rw [HNX.out]; exact flags_drop FL.out FN.out hFc (by have := HLE.out; have := FN.out; omega), by rw [HNX.out]; dsimp only; rw [List.length_drop, FN.out], by omega, by omega, by rw [HNX.out]; exact HO1.out, hin4, LY.out⟩
      · simp [intOf]; omega
    · obtain rfl : k = rn := by omega
      have htk : rs.take k = rs := List.take_of_length_le (by rw [HRN.out]; exact Nat.le_refl _)
      rw [htk] at HV_0 OR_0
      have hol : (runR X rs).os.length = k := by
        have h1 := runR_os (rs := rs) (X := X)
        have h2 := HRN.out
        rw [HXO.out, List.length_nil] at h1
        omega
      obtain ⟨x0, x1, x2, x3, x4⟩ := (show _ ∧ _ ∧ _ ∧ _ ∧ _ from ⟨G_0.out.cell 0 rfl, G_0.out.cell 1 rfl, G_0.out.cell 2 rfl, G_0.out.cell 3 rfl, G_0.out.cell 4 rfl⟩)
      obtain ⟨y0, y1, y2, y3, y4⟩ := (show _ ∧ _ ∧ _ ∧ _ ∧ _ from ⟨Z_0.out.cell 0 rfl, Z_0.out.cell 1 rfl, Z_0.out.cell 2 rfl, Z_0.out.cell 3 rfl, Z_0.out.cell 4 rfl⟩)
      obtain ⟨f0, f1, f2, f3, f4⟩ := (show _ ∧ _ ∧ _ ∧ _ ∧ _ from ⟨Z_0.out.loose 0, Z_0.out.loose 1, Z_0.out.loose 2, Z_0.out.loose 3, Z_0.out.loose 4⟩)
      go_wp2
      have HP := st_put Z_0.out rfl (.slice A3 n3 c3) (.slice B3 q3 d3) (.slice X3 xn3 xc3) (.slice Y3 yn3 yc3) (.int .i64 t3)
      have HPB := st_below HL_0.out (show w.heap.size ≤ w.heap.size + 1 by omega) (.slice A3 n3 c3) (.slice B3 q3 d3) (.slice X3 xn3 xc3) (.slice Y3 yn3 yc3) (.int .i64 t3)
      have HPV := sk_zero HV_0.out Z_0.out (.slice A3 n3 c3) (.slice B3 q3 d3) (.slice X3 xn3 xc3) (.slice Y3 yn3 yc3) (.int .i64 t3)
      have HPO := own_st (OR_0.out.less hgw2) (OR_0.out.ne Z_0.out (by decide)) (.slice A3 n3 c3) (.slice B3 q3 d3) (.slice X3 xn3 xc3) (.slice Y3 yn3 yc3) (.int .i64 t3)
      refine bodyPost_ret (results_st1 (p := 6) (x := 7) (ty := 34) rfl _ _ (w.heap.size + 1) _ _ (0, 0) _ rfl HP Tryz.underlying34 rfl (by kernel_rfl)) rfl ?_
      exact ⟨⟨A3, n3, c3, B3, q3, d3, X3, xn3, xc3, Y3, yn3, yc3, t3⟩, _, k, k, rfl, HPV, HPO, hol, HPB⟩
end Go.Proofs.YtjphkpohcgkcmaaGreatDoor
