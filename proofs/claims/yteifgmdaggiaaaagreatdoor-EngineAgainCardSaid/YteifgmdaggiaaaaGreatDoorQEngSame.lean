/-
  The law's Same, of the same state: it says yes.
-/
import Derived.Test.YteifgmdaggiaaaaGreatDoorQGrJ
import Derived.Test.YteifgmdaggiaaaaGreatDoorQBankSame
import Derived.Deep.RegionHeld3
set_option linter.unusedSimpArgs false
namespace Go.Proofs.YteifgmdaggiaaaaGreatDoor
open Go Go.RowKit
set_option linter.unusedVariables false
set_option maxRecDepth 100000 in
set_option maxHeartbeats 1000000 in
theorem esame_yes (V V' : Sv) (T : St) (sl : List Sg) (kl : List Kn) (w : World) (h : SkAt w V T sl kl) (h' : SkAt w V' T sl kl) (hn : T.acs.length ≤ 64) (hq : T.pys.length ≤ 2000000) (hk : kl.length ≤ 2000000) (hsl : sl.length ≤ 2000000) :
  Calls Tryz.prog 22 #[V.val, V'.val] w (BoolRes w true) := by
 have HSA := Lib.hid (fun W (hb : Below w.heap.size w W) => sk_same V V' T sl sl kl W (h.below hb) (h'.below hb) hn hq hk)
 have HV_0 := Lib.hid h
 have HW_0 := Lib.hid h'
 have HL_0 := Lib.hid (Below.refl w.heap.size w)
 have hx1 := h.xn
 have hx2 := h'.xn
 obtain ⟨A1, n1, c1, B1, q1, d1, X1, xn1, xc1, Y1, yn1, yc1, t1⟩ := V
 obtain ⟨A2, n2, c2, B2, q2, d2, X2, xn2, xc2, Y2, yn2, yc2, t2⟩ := V'
 unfold BoolRes Sv.val Sv.cells at HSA
 unfold BoolRes Sv.val Sv.cells
 dsimp only at HSA hx1 hx2 ⊢
 have hx12 : xn2 = xn1 := by omega
 subst hx12
 clear h h' hx2
 have HX1 := Lib.hid hx1
 have hxs : xn2 ≤ 2000000 := by omega
 clear hx1
 go_enter Tryz.func22, Tryz.ntmps22
 go_upto_region 1 with fail
 have al := (Below.refl w.heap.size w).alloc (Nat.le_refl _) (.cells #[.slice A1 n1 c1, .slice B1 q1 d1, .slice X1 xn2 xc1, .slice Y1 yn1 yc1, .int .i64 t1] 35)
 replace al := al.alloc (by simp; try omega) (.cells #[.slice A2 n2 c2, .slice B2 q2 d2, .slice X2 xn2 xc2, .slice Y2 yn2 yc2, .int .i64 t2] 35)
 have nb0 := (Blk.new w 35 #[.slice A1 n1 c1, .slice B1 q1 d1, .slice X1 xn2 xc1, .slice Y1 yn1 yc1, .int .i64 t1]).more (.cells #[.slice A2 n2 c2, .slice B2 q2 d2, .slice X2 xn2 xc2, .slice Y2 yn2 yc2, .int .i64 t2] 35)
 have nb1 := Blk.new (w.alloc (.cells #[.slice A1 n1 c1, .slice B1 q1 d1, .slice X1 xn2 xc1, .slice Y1 yn1 yc1, .int .i64 t1] 35)) 35 #[.slice A2 n2 c2, .slice B2 q2 d2, .slice X2 xn2 xc2, .slice Y2 yn2 yc2, .int .i64 t2]
 rw [alloc_size] at nb1
 have HL_1 := Lib.hid (HL_0.out.trans (al.mono HL_0.out.size))
 have HV_1 := Lib.hid (HV_0.out.below al)
 have HW_1 := Lib.hid (HW_0.out.below al)
 clear al HL_0 HV_0 HW_0
 have S_1 := Lib.hid (nb0)
 have U_1 := Lib.hid (nb1)
 clear nb0 nb1
 generalize (w.alloc (.cells #[.slice A1 n1 c1, .slice B1 q1 d1, .slice X1 xn2 xc1, .slice Y1 yn1 yc1, .int .i64 t1] 35)).alloc (.cells #[.slice A2 n2 c2, .slice B2 q2 d2, .slice X2 xn2 xc2, .slice Y2 yn2 yc2, .int .i64 t2] 35) = w1 at HL_1 HV_1 HW_1 S_1 U_1 ⊢
 obtain ⟨x0, x1, x2, x3, x4⟩ := (show _ ∧ _ ∧ _ ∧ _ ∧ _ from ⟨S_1.out.cell 0 rfl, S_1.out.cell 1 rfl, S_1.out.cell 2 rfl, S_1.out.cell 3 rfl, S_1.out.cell 4 rfl⟩)
 obtain ⟨y0, y1, y2, y3, y4⟩ := (show _ ∧ _ ∧ _ ∧ _ ∧ _ from ⟨U_1.out.cell 0 rfl, U_1.out.cell 1 rfl, U_1.out.cell 2 rfl, U_1.out.cell 3 rfl, U_1.out.cell 4 rfl⟩)
 go_upto_region 3 with (first
   | (go_at_call 14; refine (HSA.out _ HL_1.out).mono ?_; rintro _ w2 ⟨rfl, hb⟩
      have HX := Lib.hid hb
      have x2 := (S_1.out.later hb).cell 2 rfl
      have y2 := (U_1.out.later hb).cell 2 rfl
      clear hb x0 x1 x3 x4 y0 y1 y3 y4))
 clear HSA x2 y2
 have HL_2 := Lib.hid (HL_1.out.trans (HX.out.mono HL_1.out.size))
 have HV_2 := Lib.hid (HV_1.out.below HX.out)
 have HW_2 := Lib.hid (HW_1.out.below HX.out)
 have S_2 := Lib.hid (S_1.out.later HX.out)
 have U_2 := Lib.hid (U_1.out.later HX.out)
 clear HL_1 HV_1 HW_1 S_1 U_1
 have x2 := S_2.out.cell 2 rfl
 go_wp2
 go_loopw [22] (fun i wj => ∃ j : Nat, j ≤ xn2 ∧ i = .int .i64 (j : Int) ∧ Below w2.heap.size w2 wj) (fun i _ => xn2 - (intOf i).toNat)
 case atStart => exact ⟨0, Nat.zero_le _, rfl, Below.refl _ _⟩
 case round =>
  obtain ⟨j, hj, rfl, hbj⟩ := hrel
  have HBJ := Lib.hid hbj
  clear hbj x2
  by_cases hlt : j < xn2
  · obtain ⟨s, hs⟩ : ∃ s, sl[j]? = some s := ⟨_, List.getElem?_eq_getElem (by rw [HX1.out]; exact hlt)⟩
    obtain ⟨ad, ea, hat⟩ := (HV_2.out.below HBJ.out).sag.at_ hs
    obtain ⟨ad2, eb, hat2⟩ := (HW_2.out.below HBJ.out).sag.at_ hs
    dsimp only at ea eb
    subst ea eb
    obtain ⟨e0, e1, e2, e3, e4, e5, e6, e7, e8, e9, e10⟩ := sg_cells hat
    obtain ⟨h0, h1, h2, h3, h4, h5, h6, h7, h8, h9, h10⟩ := sg_cells hat2
    have x2 := (S_2.out.later HBJ.out).cell 2 rfl
    have y2 := (U_2.out.later HBJ.out).cell 2 rfl
    clear hat hat2
    go_upto_region 6 with fail
    refine wp_region_held_drew (S := fun w' => Below wr.heap.size wr w') (by kernel_rfl) (Below.refl _ _).drew (fun hHeld => ?_)
    refine tk 0 25 (v := ?_) ?_ ?_
    rotate_left
    · intro w' hSw
      go_simp
      (try with_reducible rfl)
    (try simp only [Act.put, sA, sB, sC])
    refine tk 1 26 (v := ?_) ?_ ?_
    rotate_left
    · intro w' hSw
      have hSw' := hSw
      (try dsimp only at hSw')
      have kx2 := (hSw'.cell (World.block_lt_of_cell? _ _ x2)).trans x2
      go_simp
      (try with_reducible rfl)
    (try simp only [Act.put, sA, sB, sC])
    refine tk 2 27 (v := ?_) ?_ ?_
    rotate_left
    · intro w' hSw
      go_simp
      (try with_reducible rfl)
    (try simp only [Act.put, sA, sB, sC])
    refine tk 3 28 (v := ?_) ?_ ?_
    rotate_left
    · intro w' hSw
      go_simp
      (try with_reducible rfl)
    (try simp only [Act.put, sA, sB, sC])
    refine tk 4 29 (v := ?_) ?_ ?_
    rotate_left
    · intro w' hSw
      have hSw' := hSw
      (try dsimp only at hSw')
      have ke0 := (hSw'.cell (World.block_lt_of_cell? _ _ e0)).trans e0
      have ke1 := (hSw'.cell (World.block_lt_of_cell? _ _ e1)).trans e1
      have ke2 := (hSw'.cell (World.block_lt_of_cell? _ _ e2)).trans e2
      have ke3 := (hSw'.cell (World.block_lt_of_cell? _ _ e3)).trans e3
      have ke4 := (hSw'.cell (World.block_lt_of_cell? _ _ e4)).trans e4
      have ke5 := (hSw'.cell (World.block_lt_of_cell? _ _ e5)).trans e5
      have ke6 := (hSw'.cell (World.block_lt_of_cell? _ _ e6)).trans e6
      have ke7 := (hSw'.cell (World.block_lt_of_cell? _ _ e7)).trans e7
      have ke8 := (hSw'.cell (World.block_lt_of_cell? _ _ e8)).trans e8
      have ke9 := (hSw'.cell (World.block_lt_of_cell? _ _ e9)).trans e9
      have ke10 := (hSw'.cell (World.block_lt_of_cell? _ _ e10)).trans e10
      go_simp
      (try with_reducible rfl)
    (try simp only [Act.put, sA, sB, sC])
    refine tk 5 30 (v := ?_) ?_ ?_
    rotate_left
    · intro w' hSw
      go_simp
      (try with_reducible rfl)
    (try simp only [Act.put, sA, sB, sC])
    refine tk 6 31 (v := ?_) ?_ ?_
    rotate_left
    · intro w' hSw
      have hSw' := hSw
      (try dsimp only at hSw')
      have ky2 := (hSw'.cell (World.block_lt_of_cell? _ _ y2)).trans y2
      go_simp
      (try with_reducible rfl)
    (try simp only [Act.put, sA, sB, sC])
    refine tk 7 32 (v := ?_) ?_ ?_
    rotate_left
    · intro w' hSw
      go_simp
      (try with_reducible rfl)
    (try simp only [Act.put, sA, sB, sC])
    refine tk 8 33 (v := ?_) ?_ ?_
    rotate_left
    · intro w' hSw
      go_simp
      (try with_reducible rfl)
    (try simp only [Act.put, sA, sB, sC])
    refine tk 9 34 (v := ?_) ?_ ?_
    rotate_left
    · intro w' hSw
      have hSw' := hSw
      (try dsimp only at hSw')
      have kh0 := (hSw'.cell (World.block_lt_of_cell? _ _ h0)).trans h0
      have kh1 := (hSw'.cell (World.block_lt_of_cell? _ _ h1)).trans h1
      have kh2 := (hSw'.cell (World.block_lt_of_cell? _ _ h2)).trans h2
      have kh3 := (hSw'.cell (World.block_lt_of_cell? _ _ h3)).trans h3
      have kh4 := (hSw'.cell (World.block_lt_of_cell? _ _ h4)).trans h4
      have kh5 := (hSw'.cell (World.block_lt_of_cell? _ _ h5)).trans h5
      have kh6 := (hSw'.cell (World.block_lt_of_cell? _ _ h6)).trans h6
      have kh7 := (hSw'.cell (World.block_lt_of_cell? _ _ h7)).trans h7
      have kh8 := (hSw'.cell (World.block_lt_of_cell? _ _ h8)).trans h8
      have kh9 := (hSw'.cell (World.block_lt_of_cell? _ _ h9)).trans h9
      have kh10 := (hSw'.cell (World.block_lt_of_cell? _ _ h10)).trans h10
      go_simp
      (try with_reducible rfl)
    (try simp only [Act.put, sA, sB, sC])
    refine tk 10 35 (v := ?_) ?_ ?_
    rotate_left
    · intro w' hSw
      go_simp
      (try with_reducible rfl)
    (try simp only [Act.put, sA, sB, sC])
    refine wpAnyH_done (by kernel_rfl) ?_ _
    have hbk := HBJ.out.drew
    clear hHeld e0 e1 e2 e3 e4 e5 e6 e7 e8 e9 e10 h0 h1 h2 h3 h4 h5 h6 h7 h8 h9 h10 x2 y2
    go_wp2
    go_roundw
    · exact ⟨j + 1, by omega, by first | rfl | (congr 1; omega), hbk⟩
    · simp [intOf]; omega
  · obtain rfl : j = xn2 := by omega
    go_wp2
    go_ret
    exact ⟨rfl, HL_2.out.trans (HBJ.out.mono HL_2.out.size)⟩
end Go.Proofs.YteifgmdaggiaaaaGreatDoor
