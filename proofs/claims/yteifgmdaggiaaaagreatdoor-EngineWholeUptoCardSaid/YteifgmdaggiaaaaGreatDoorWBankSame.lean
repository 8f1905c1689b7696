/-
  The law's Same of equal states with equal keys.
-/
import Derived.Test.YteifgmdaggiaaaaGreatDoorWBankTwo
import Derived.Test.YteifgmdaggiaaaaGreatDoorWGrG
import Derived.Test.YteifgmdaggiaaaaGreatDoorWGrN
namespace Go.Proofs.YteifgmdaggiaaaaGreatDoor
open Go Go.RowKit
set_option linter.unusedVariables false
theorem sk_osame (V V' : Sv) (T : St) (sl sl' : List Sg) (kl kl' : List Kn) (w : World) (h : SkAt w V T sl kl) (h' : SkAt w V' T sl' kl') (hn : T.acs.length ≤ 64) (hq : T.pys.length ≤ 2000000) :
  Calls Tryz.prog 43 #[V.val, V'.val] w (BoolRes w true) := by
 rw [← h.val_eq, ← h'.val_eq]
 exact ssame_yes T _ _ _ _ _ _ _ _ _ _ _ _ w h.st h'.st ⟨_, _, _, rfl⟩ ⟨_, _, _, rfl⟩ ⟨_, _, _, rfl⟩ ⟨_, _, _, rfl⟩ hn hq
set_option maxRecDepth 100000 in
theorem sk_same (V V' : Sv) (T : St) (sl sl' : List Sg) (kl : List Kn) (w : World) (h : SkAt w V T sl kl) (h' : SkAt w V' T sl' kl) (hn : T.acs.length ≤ 64) (hq : T.pys.length ≤ 2000000) (hk : kl.length ≤ 2000000) :
  Calls Tryz.prog 14 #[V.val, V'.val] w (BoolRes w true) := by
 have HOS := Lib.hid (fun W (hb : Below w.heap.size w W) => sk_osame V V' T sl sl' kl kl W (h.below hb) (h'.below hb) hn hq)
 have hyy : V'.yn = V.yn := by rw [← h.yn, ← h'.yn]
 have HKS := Lib.hid (fun W (hb : Below w.heap.size w W) => ksame_yes V.Y V'.Y V.yn V.yc V'.yc kl W h.yn (h.kn.below hb) (h'.kn.below hb) (by have := h.yn; omega))
 obtain ⟨A, n, c, B, q, d, X, xn, xc, Y, yn, yc, t⟩ := V
 obtain ⟨A', n', c', B', q', d', X', xn', xc', Y', yn', yc', t'⟩ := V'
 unfold BoolRes Sv.val Sv.cells at HOS
 unfold BoolRes at HKS
 unfold BoolRes Sv.val Sv.cells
 dsimp only at HOS HKS hyy ⊢
 subst hyy
 have b1 := (Blk.new w 35 #[.slice A n c, .slice B q d, .slice X xn xc, .slice Y yn' yc, .int .i64 t]).more (.cells #[.slice A' n' c', .slice B' q' d', .slice X' xn' xc', .slice Y' yn' yc', .int .i64 t'] 35)
 have b2 := Blk.new (w.alloc (.cells #[.slice A n c, .slice B q d, .slice X xn xc, .slice Y yn' yc, .int .i64 t] 35)) 35 #[.slice A' n' c', .slice B' q' d', .slice X' xn' xc', .slice Y' yn' yc', .int .i64 t']
 rw [alloc_size] at b2
 have bl := ((Below.refl w.heap.size w).alloc (Nat.le_refl _) (.cells #[.slice A n c, .slice B q d, .slice X xn xc, .slice Y yn' yc, .int .i64 t] 35)).alloc (by simp) (.cells #[.slice A' n' c', .slice B' q' d', .slice X' xn' xc', .slice Y' yn' yc', .int .i64 t'] 35)
 have HB1 := Lib.hid b1
 have HB2 := Lib.hid b2
 have HBL := Lib.hid bl
 clear b1 b2 bl h h' hn hq hk
 go_enter Tryz.func14, Tryz.ntmps14
 go_upto_region 1 with fail
 generalize ((w.alloc (.cells #[.slice A n c, .slice B q d, .slice X xn xc, .slice Y yn' yc, .int .i64 t] 35)).alloc (.cells #[.slice A' n' c', .slice B' q' d', .slice X' xn' xc', .slice Y' yn' yc', .int .i64 t'] 35)) = w2 at HB1 HB2 HBL ⊢
 obtain ⟨x0, x1, x2, x3, x4⟩ := (show _ ∧ _ ∧ _ ∧ _ ∧ _ from ⟨HB1.out.cell 0 rfl, HB1.out.cell 1 rfl, HB1.out.cell 2 rfl, HB1.out.cell 3 rfl, HB1.out.cell 4 rfl⟩)
 obtain ⟨y0, y1, y2, y3, y4⟩ := (show _ ∧ _ ∧ _ ∧ _ ∧ _ from ⟨HB2.out.cell 0 rfl, HB2.out.cell 1 rfl, HB2.out.cell 2 rfl, HB2.out.cell 3 rfl, HB2.out.cell 4 rfl⟩)
 go_wp2_with fail
 refine (HOS.out _ HBL.out).mono ?_
 rintro _ w3 ⟨rfl, hb3⟩
 have HB13 := Lib.hid (HB1.out.later hb3)
 have HB23 := Lib.hid (HB2.out.later hb3)
 have HL3 := Lib.hid (HBL.out.trans (hb3.mono HBL.out.size))
 clear x0 x1 x2 x3 x4 y0 y1 y2 y3 y4 hb3
 have x3 := HB13.out.cell 3 rfl
 have y3 := HB23.out.cell 3 rfl
 go_wp2_with fail
 refine (HKS.out _ HL3.out).mono ?_
 rintro _ w4 ⟨rfl, hb4⟩
 have HL4 := Lib.hid (HL3.out.trans (hb4.mono HL3.out.size))
 clear hb4
 go_wp2
 go_ret
 exact ⟨rfl, HL4.out⟩
end Go.Proofs.YteifgmdaggiaaaaGreatDoor
