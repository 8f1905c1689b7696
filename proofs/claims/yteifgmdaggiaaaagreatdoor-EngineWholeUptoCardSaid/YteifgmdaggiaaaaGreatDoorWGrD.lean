/-
  The small functions of payment by their contracts: Left, Gave, excess, refusal.
  A payment's cells in a block; a struct as a named result.
  payment.Do by its contract: what an op makes of a payment, and the error by its number.
  errors.As of an api.Errno ('var n Errno; errors.As(e, &n)'), and api.Number, by their contracts: of nil it is false and 0; of an Errno it is true and its number; nothing that was there has changed.
  Conditions: the package-level variable errors.errorType holds the handle of the type 'error' (hg). After the kit's worked example Toyas.
  api.Number by its contracts: of nil it is 0, of an Errno its number; nothing that was there has changed.
  Conditions: errors.errorType holds the handle of the type 'error' (hg).
  api.Number of an error by its number.
-/
import Derived.Test.YteifgmdaggiaaaaGreatDoorWGrB
import Derived.Test.YteifgmdaggiaaaaGreatDoorWGrA
import Derived.WalkKit
import Derived.Lib.Hide
import Derived.Test.YteifgmdaggiaaaaGreatDoorProg
import Derived.Laws.Rows
import Derived.Laws.ResultCell
import Derived.LaidEql
import Derived.Stop.Asserts
import Derived.RowKitTokens
import Derived.Below
namespace Go.Proofs.YteifgmdaggiaaaaGreatDoor
open Go Go.RowKit
set_option linter.unusedVariables false
/-- An int, and nothing below is turned. -/
def IntRes (w : World) (x : Int) (e : Ending) (w' : World) : Prop := e = .returned (.int .i64 x) ∧ Below w.heap.size w w'
/-- An error by its number, and nothing below is turned. -/
def ErrRes (w : World) (n : Int) (e : Ending) (w' : World) : Prop := e = .returned (errV n) ∧ Below w.heap.size w w'
set_option maxRecDepth 100000 in
theorem left_any (p : Py) (w : World) : Calls Tryz.prog 33 #[p.val] w (IntRes w (leftP p)) := by
 obtain ⟨f, d, a, c, r, g, t, s⟩ := p
 unfold Py.val leftP
 dsimp only
 by_cases h : s = 0
 · have q1 := neF h
   rw [if_pos h]
   clear h
   go_enter Tryz.func33, Tryz.ntmps33
   go_wp2
   go_ret
   exact ⟨rfl, (Below.refl _ _).alloc (Nat.le_refl _) _⟩
 · have q1 := neT h
   rw [if_neg h]
   clear h
   go_enter Tryz.func33, Tryz.ntmps33
   go_wp2
   go_ret
   exact ⟨rfl, (Below.refl _ _).alloc (Nat.le_refl _) _⟩
set_option maxRecDepth 100000 in
theorem gave_any (p : Py) (w : World) : Calls Tryz.prog 189 #[p.val] w (IntRes w (gaveP p)) := by
 obtain ⟨f, d, a, c, r, g, t, s⟩ := p
 unfold Py.val gaveP
 dsimp only
 go_enter Tryz.func189, Tryz.ntmps189
 go_wp2
 go_ret
 exact ⟨rfl, (Below.refl _ _).alloc (Nat.le_refl _) _⟩
set_option maxRecDepth 100000 in
theorem excess_any (n m : Int) (w : World) : Calls Tryz.prog 188 #[.int .i64 n, .int .i64 m] w fun e w' => e = .returned (errV (excE n m)) ∧ w = w' := by
 unfold excE
 by_cases h1 : n < 1
 · rw [if_pos h1]
   go_enter Tryz.func188, Tryz.ntmps188
   go_wp2
   go_ret
   exact ⟨rfl, rfl⟩
 · rw [if_neg h1]
   by_cases h2 : m < n
   · rw [if_pos h2]
     go_enter Tryz.func188, Tryz.ntmps188
     go_wp2
     go_ret
     exact ⟨rfl, rfl⟩
   · rw [if_neg h2]
     go_enter Tryz.func188, Tryz.ntmps188
     go_wp2
     go_ret
     exact ⟨rfl, rfl⟩
set_option maxRecDepth 100000 in
theorem refusal_any (p : Py) (op n : Int) (w : World) : Calls Tryz.prog 183 #[p.val, .int .i64 op, .int .i64 n] w (ErrRes w (payE p op n)) := by
 have HL := Lib.hid (fun W => left_any p W)
 have HG := Lib.hid (fun W => gave_any p W)
 unfold payE
 obtain ⟨l, hl⟩ : ∃ l, leftP p = l := ⟨_, rfl⟩
 obtain ⟨v, hv⟩ : ∃ v, gaveP p = v := ⟨_, rfl⟩
 rw [hl] at HL ⊢
 rw [hv] at HG ⊢
 have HXL := Lib.hid (fun W => excess_any n l W)
 have HXG := Lib.hid (fun W => excess_any n v W)
 clear hl hv
 obtain ⟨f, d, a, c, r, g, t, s⟩ := p
 unfold Py.val at HL HG ⊢
 dsimp only at HL HG ⊢
 by_cases h4 : op = 4
 · rw [if_pos h4]
   obtain ⟨x, hx⟩ : ∃ x, excE n l = x := ⟨_, rfl⟩
   rw [hx] at HXL ⊢
   subst h4
   clear hx HXG HG
   go_enter Tryz.func183, Tryz.ntmps183
   go_wp2_with (first
     | (go_at_call 33; refine (HL.out _).mono ?_; rintro e w1 ⟨rfl, hb1⟩)
     | (go_at_call 188; refine (HXL.out _).mono ?_; rintro e w2 ⟨rfl, rfl⟩))
   go_ret
   exact ⟨rfl, ((Below.refl _ _).alloc (Nat.le_refl _) _).trans (hb1.mono (by simp))⟩
 · rw [if_neg h4]
   have q4 := eqF h4
   by_cases h5 : op = 5
   · rw [if_pos h5]
     subst h5
     by_cases hs : s = 0
     · rw [if_pos hs]
       have q0 := neF hs
       clear hs h4
       go_enter Tryz.func183, Tryz.ntmps183
       go_wp2
       go_ret
       exact ⟨rfl, (Below.refl _ _).alloc (Nat.le_refl _) _⟩
     · rw [if_neg hs]
       have q0 := neT hs
       clear hs h4
       go_enter Tryz.func183, Tryz.ntmps183
       go_wp2
       go_ret
       exact ⟨rfl, (Below.refl _ _).alloc (Nat.le_refl _) _⟩
   · rw [if_neg h5]
     have q5 := eqF h5
     by_cases h67 : op = 6 ∨ op = 7
     · rw [show (if op = 6 then excE n v else if op = 7 then excE n v else 13) = excE n v by rcases h67 with rfl | rfl <;> simp]
       obtain ⟨x, hx⟩ : ∃ x, excE n v = x := ⟨_, rfl⟩
       rw [hx] at HXG ⊢
       clear hx HXL HL h4 h5 q4 q5
       rcases h67 with rfl | rfl
       all_goals
        go_enter Tryz.func183, Tryz.ntmps183
        go_wp2_with (first
          | (go_at_call 189; refine (HG.out _).mono ?_; rintro e w1 ⟨rfl, hb1⟩)
          | (go_at_call 188; refine (HXG.out _).mono ?_; rintro e w2 ⟨rfl, rfl⟩))
        go_ret
        exact ⟨rfl, ((Below.refl _ _).alloc (Nat.le_refl _) _).trans (hb1.mono (by simp))⟩
     · rw [if_neg (fun h => h67 (.inl h)), if_neg (fun h => h67 (.inr h))]
       have q6 := eqF (show ¬ op = 6 from fun h => h67 (.inl h))
       have q7 := eqF (show ¬ op = 7 from fun h => h67 (.inr h))
       clear h4 h5 h67 HL HG HXL HXG
       go_enter Tryz.func183, Tryz.ntmps183
       go_wp2
       go_ret
       exact ⟨rfl, (Below.refl _ _).alloc (Nat.le_refl _) _⟩
/-- A payment's cells in a block. -/
def Py8 (w : World) (g : Nat) (t : TypeId) (x0 x1 x2 x3 x4 x5 x6 x7 : Int) : Prop := w.heap[g]? = some (.cells #[.int .i64 x0, .int .i64 x1, .int .i64 x2, .int .i64 x3, .int .i64 x4, .int .i64 x5, .int .i64 x6, .int .i64 x7] t (0, 0))
theorem Py8.new (w : World) (t : TypeId) (x0 x1 x2 x3 x4 x5 x6 x7 : Int) : Py8 (w.alloc (.cells #[.int .i64 x0, .int .i64 x1, .int .i64 x2, .int .i64 x3, .int .i64 x4, .int .i64 x5, .int .i64 x6, .int .i64 x7] t)) w.heap.size t x0 x1 x2 x3 x4 x5 x6 x7 := heap_alloc_new w _
theorem Py8.below {w w' : World} {B g : Nat} {t : TypeId} {x0 x1 x2 x3 x4 x5 x6 x7 : Int} (h : Py8 w g t x0 x1 x2 x3 x4 x5 x6 x7) (hb : Below B w w') (hg : g < B) : Py8 w' g t x0 x1 x2 x3 x4 x5 x6 x7 := (hb.block g hg).trans h
theorem Py8.alloc {w : World} {g : Nat} {t : TypeId} {x0 x1 x2 x3 x4 x5 x6 x7 : Int} (h : Py8 w g t x0 x1 x2 x3 x4 x5 x6 x7) (o : Obj) (hg : g < w.heap.size) : Py8 (w.alloc o) g t x0 x1 x2 x3 x4 x5 x6 x7 := (Below.heap_alloc w o g hg).trans h
theorem Py8.cells {w : World} {g : Nat} {t : TypeId} {x0 x1 x2 x3 x4 x5 x6 x7 : Int} (h : Py8 w g t x0 x1 x2 x3 x4 x5 x6 x7) : w.cell? ⟨g, 0, none⟩ = some (.int .i64 x0) ∧ w.cell? ⟨g, 1, none⟩ = some (.int .i64 x1) ∧ w.cell? ⟨g, 2, none⟩ = some (.int .i64 x2) ∧ w.cell? ⟨g, 3, none⟩ = some (.int .i64 x3) ∧ w.cell? ⟨g, 4, none⟩ = some (.int .i64 x4) ∧ w.cell? ⟨g, 5, none⟩ = some (.int .i64 x5) ∧ w.cell? ⟨g, 6, none⟩ = some (.int .i64 x6) ∧ w.cell? ⟨g, 7, none⟩ = some (.int .i64 x7) :=
 ⟨cell_of_row w g 0 _ _ _ h, cell_of_row w g 1 _ _ _ h, cell_of_row w g 2 _ _ _ h, cell_of_row w g 3 _ _ _ h, cell_of_row w g 4 _ _ _ h, cell_of_row w g 5 _ _ _ h, cell_of_row w g 6 _ _ _ h, cell_of_row w g 7 _ _ _ h⟩
theorem Py8.loose {w : World} {g : Nat} {t : TypeId} {x0 x1 x2 x3 x4 x5 x6 x7 : Int} (h : Py8 w g t x0 x1 x2 x3 x4 x5 x6 x7) : w.frozen? ⟨g, 0, none⟩ = false ∧ w.frozen? ⟨g, 1, none⟩ = false ∧ w.frozen? ⟨g, 2, none⟩ = false ∧ w.frozen? ⟨g, 3, none⟩ = false ∧ w.frozen? ⟨g, 4, none⟩ = false ∧ w.frozen? ⟨g, 5, none⟩ = false ∧ w.frozen? ⟨g, 6, none⟩ = false ∧ w.frozen? ⟨g, 7, none⟩ = false :=
 ⟨frozen_of_row w g 0 _ _ h, frozen_of_row w g 1 _ _ h, frozen_of_row w g 2 _ _ h, frozen_of_row w g 3 _ _ h, frozen_of_row w g 4 _ _ h, frozen_of_row w g 5 _ _ h, frozen_of_row w g 6 _ _ h, frozen_of_row w g 7 _ _ h⟩
theorem Py8.drew {w : World} {g : Nat} {t : TypeId} {x0 x1 x2 x3 x4 x5 x6 x7 : Int} (h : Py8 w g t x0 x1 x2 x3 x4 x5 x6 x7) : Py8 w.drew g t x0 x1 x2 x3 x4 x5 x6 x7 := h
/-- A cell of another block laid anew. -/
theorem Py8.setOther {w : World} {g : Nat} {t : TypeId} {x0 x1 x2 x3 x4 x5 x6 x7 : Int} (h : Py8 w g t x0 x1 x2 x3 x4 x5 x6 x7) {b : Nat} (hb : b ≠ g) (i : Nat) (y : Int) : Py8 (w.setCell ⟨b, i, none⟩ (.int .i64 y)) g t x0 x1 x2 x3 x4 x5 x6 x7 := by
 unfold Py8 at h ⊢
 simp [World.setCell, Array.getElem?_modify, h, hb]
/-- All eight laid anew. -/
theorem Py8.put {w : World} {g : Nat} {t : TypeId} {x0 x1 x2 x3 x4 x5 x6 x7 : Int} (h : Py8 w g t x0 x1 x2 x3 x4 x5 x6 x7) (y0 y1 y2 y3 y4 y5 y6 y7 : Int) : Py8 ((((((((w.setCell ⟨g, 0, none⟩ (.int .i64 y0)).setCell ⟨g, 1, none⟩ (.int .i64 y1)).setCell ⟨g, 2, none⟩ (.int .i64 y2)).setCell ⟨g, 3, none⟩ (.int .i64 y3)).setCell ⟨g, 4, none⟩ (.int .i64 y4)).setCell ⟨g, 5, none⟩ (.int .i64 y5)).setCell ⟨g, 6, none⟩ (.int .i64 y6)).setCell ⟨g, 7, none⟩ (.int .i64 y7)) g t y0 y1 y2 y3 y4 y5 y6 y7 := by
 unfold Py8 at h ⊢
 simp [World.setCell, Array.getElem?_modify, h]
theorem Py8.put_below {w w' : World} {B g : Nat} (h : Below B w w') (hg : B ≤ g) (y0 y1 y2 y3 y4 y5 y6 y7 : Int) : Below B w ((((((((w'.setCell ⟨g, 0, none⟩ (.int .i64 y0)).setCell ⟨g, 1, none⟩ (.int .i64 y1)).setCell ⟨g, 2, none⟩ (.int .i64 y2)).setCell ⟨g, 3, none⟩ (.int .i64 y3)).setCell ⟨g, 4, none⟩ (.int .i64 y4)).setCell ⟨g, 5, none⟩ (.int .i64 y5)).setCell ⟨g, 6, none⟩ (.int .i64 y6)).setCell ⟨g, 7, none⟩ (.int .i64 y7)) :=
 ((((((((h.setCell (p := ⟨g, 0, none⟩) hg _).setCell (p := ⟨g, 1, none⟩) hg _).setCell (p := ⟨g, 2, none⟩) hg _).setCell (p := ⟨g, 3, none⟩) hg _).setCell (p := ⟨g, 4, none⟩) hg _).setCell (p := ⟨g, 5, none⟩) hg _).setCell (p := ⟨g, 6, none⟩) hg _).setCell (p := ⟨g, 7, none⟩) hg _)
theorem results_pay {P : Program} {fn : Func} {p x : Tmp} {ty : TypeId} (h : fn.results = #[.cell p ty, .tmp x]) (tmps : Array Value) (w : World) (g : Nat) (t : TypeId) (cs : Array Value) (fr : Nat × Nat) (d : TypeDesc)
  (hp : tmps.getD p undef = .pointer (some ⟨g, 0, none⟩)) (hg : w.heap[g]? = some (.cells cs t fr))
  (hu : P.underlying ty = some d) (hd : (match d with | .struct _ | .array _ _ => true | _ => false) = true) (hi : (P.info? ty).map (·.size) = some cs.size) :
  (results fn tmps).run P w = .ok (.tuple #[.agg cs, tmps.getD x undef]) w := by
 have hp' : tmps[p]?.getD undef = .pointer (some ⟨g, 0, none⟩) := by simpa using hp
 simp [results, h, hp', asAddr, run_loadVar_row w g t ty cs fr d hg hu hd hi, Result.andThen]
/-- A payment and an error by its number; nothing below is turned. -/
def PayRes (w : World) (r : Py) (n : Int) (e : Ending) (w' : World) : Prop := e = .returned (.tuple #[r.val, errV n]) ∧ Below w.heap.size w w'
/-- The two blocks that Do begins with. -/
abbrev doW (w : World) (f d a c r g t s : Int) : World := (w.alloc (.cells #[.int .i64 f, .int .i64 d, .int .i64 a, .int .i64 c, .int .i64 r, .int .i64 g, .int .i64 t, .int .i64 s] 96)).alloc (.cells #[.int .i64 0, .int .i64 0, .int .i64 0, .int .i64 0, .int .i64 0, .int .i64 0, .int .i64 0, .int .i64 0] 96)
theorem doW_below (w : World) (f d a c r g t s : Int) : Below w.heap.size w (doW w f d a c r g t s) := ((Below.refl _ _).alloc (Nat.le_refl _) _).alloc (by simp) _
theorem doW_zero (w : World) (f d a c r g t s : Int) : Py8 (doW w f d a c r g t s) (w.heap.size + 1) 96 0 0 0 0 0 0 0 0 := heap_alloc2_new w _ _
theorem doW_pay (w : World) (f d a c r g t s : Int) : Py8 (doW w f d a c r g t s) w.heap.size 96 f d a c r g t s := (Py8.new w _ f d a c r g t s).alloc _ (by simp)
set_option maxRecDepth 100000 in
theorem do_wrong (p : Py) (op n : Int) (w : World) (h : ¬ payE p op n = 0) : Calls Tryz.prog 172 #[p.val, .int .i64 op, .int .i64 n] w (PayRes w Py.zero (payE p op n)) := by
 have HR := Lib.hid (fun W => refusal_any p op n W)
 obtain ⟨x, hx⟩ : ∃ x, payE p op n = x := ⟨_, rfl⟩
 rw [hx] at HR h ⊢
 unfold ErrRes at HR
 rw [show errV x = eno x from if_neg h] at HR
 obtain ⟨f, d, a, c, r, g, t, s⟩ := p
 unfold Py.val at HR
 unfold PayRes Py.val Py.zero errV
 rw [if_neg h]
 dsimp only at HR ⊢
 clear hx h
 go_enter Tryz.func172, Tryz.ntmps172
 go_wp2_with fail
 refine (HR.out _).mono ?_
 rintro _ w1 ⟨rfl, hb1⟩
 have HZ := Lib.hid ((doW_zero w f d a c r g t s).below hb1 (by simp))
 have HB := Lib.hid ((doW_below w f d a c r g t s).trans (hb1.mono (by simp; omega)))
 clear hb1 HR
 obtain ⟨c0, c1, c2, c3, c4, c5, c6, c7⟩ := HZ.out.cells
 obtain ⟨f0, f1, f2, f3, f4, f5, f6, f7⟩ := HZ.out.loose
 go_wp2
 refine bodyPost_ret (results_pay (p := 6) (x := 7) (ty := 96) rfl _ _ (w.heap.size + 1) _ _ (0, 0) _ rfl (HZ.out.put 0 0 0 0 0 0 0 0) Tryz.underlying96 rfl (by kernel_rfl)) rfl ?_
 exact ⟨rfl, Py8.put_below HB.out (by omega) 0 0 0 0 0 0 0 0⟩
set_option maxRecDepth 100000 in
set_option maxHeartbeats 1000000 in
theorem do_void (p : Py) (n : Int) (w : World) (h : payE p 5 n = 0) : Calls Tryz.prog 172 #[p.val, .int .i64 5, .int .i64 n] w (PayRes w (payP p 5 n) 0) := by
 have HR := Lib.hid (fun W => refusal_any p 5 n W)
 unfold ErrRes at HR
 rw [h, show errV 0 = .nilIface from rfl] at HR
 obtain ⟨f, d, a, c, r, g, t, s⟩ := p
 unfold Py.val at HR
 unfold PayRes Py.val payP errV
 clear h
 rw [if_neg (by decide), if_pos rfl, if_pos rfl]
 dsimp only at HR ⊢
 go_enter Tryz.func172, Tryz.ntmps172
 go_wp2_with fail
 refine (HR.out _).mono ?_
 rintro _ w1 ⟨rfl, hb1⟩
 have HZ := Lib.hid ((doW_zero w f d a c r g t s).below hb1 (by simp))
 have HP := Lib.hid ((doW_pay w f d a c r g t s).below hb1 (by simp; omega))
 have HB := Lib.hid ((doW_below w f d a c r g t s).trans (hb1.mono (by simp; omega)))
 clear hb1 HR
 obtain ⟨c0, c1, c2, c3, c4, c5, c6, c7⟩ := HZ.out.cells
 obtain ⟨f0, f1, f2, f3, f4, f5, f6, f7⟩ := HZ.out.loose
 obtain ⟨p0, p1, p2, p3, p4, p5, p6, p7⟩ := HP.out.cells
 obtain ⟨g0, g1, g2, g3, g4, g5, g6, g7⟩ := HP.out.loose
 go_wp2
 refine bodyPost_ret (results_pay (p := 6) (x := 7) (ty := 96) rfl _ _ (w.heap.size + 1) _ _ (0, 0) _ rfl ((HZ.out.setOther (by omega) 7 1).put f d a c r g t 1) Tryz.underlying96 rfl (by kernel_rfl)) rfl ?_
 exact ⟨rfl, Py8.put_below (HB.out.setCell (p := ⟨w.heap.size, 7, none⟩) (Nat.le_refl _) _) (by omega) f d a c r g t 1⟩
set_option maxRecDepth 100000 in
set_option maxHeartbeats 1000000 in
theorem do_refund (p : Py) (n : Int) (w : World) (h : payE p 6 n = 0) : Calls Tryz.prog 172 #[p.val, .int .i64 6, .int .i64 n] w (PayRes w (payP p 6 n) 0) := by
 have HR := Lib.hid (fun W => refusal_any p 6 n W)
 unfold ErrRes at HR
 rw [h, show errV 0 = .nilIface from rfl] at HR
 obtain ⟨f, d, a, c, r, g, t, s⟩ := p
 unfold Py.val at HR
 unfold PayRes Py.val payP errV
 clear h
 rw [if_neg (by decide), if_neg (by decide), if_pos rfl, if_pos rfl]
 obtain ⟨x, hx⟩ : ∃ x, wrap64 (r + n) = x := ⟨_, rfl⟩
 rw [hx]
 dsimp only at HR ⊢
 go_enter Tryz.func172, Tryz.ntmps172
 go_wp2_with fail
 refine (HR.out _).mono ?_
 rintro _ w1 ⟨rfl, hb1⟩
 have HZ := Lib.hid ((doW_zero w f d a c r g t s).below hb1 (by simp))
 have HP := Lib.hid ((doW_pay w f d a c r g t s).below hb1 (by simp; omega))
 have HB := Lib.hid ((doW_below w f d a c r g t s).trans (hb1.mono (by simp; omega)))
 clear hb1 HR
 obtain ⟨c0, c1, c2, c3, c4, c5, c6, c7⟩ := HZ.out.cells
 obtain ⟨f0, f1, f2, f3, f4, f5, f6, f7⟩ := HZ.out.loose
 obtain ⟨p0, p1, p2, p3, p4, p5, p6, p7⟩ := HP.out.cells
 obtain ⟨g0, g1, g2, g3, g4, g5, g6, g7⟩ := HP.out.loose
 go_wp2
 refine bodyPost_ret (results_pay (p := 6) (x := 7) (ty := 96) rfl _ _ (w.heap.size + 1) _ _ (0, 0) _ rfl ((HZ.out.setOther (by omega) 4 x).put f d a c x g t s) Tryz.underlying96 rfl (by kernel_rfl)) rfl ?_
 exact ⟨rfl, Py8.put_below (HB.out.setCell (p := ⟨w.heap.size, 4, none⟩) (Nat.le_refl _) _) (by omega) f d a c x g t s⟩
set_option maxRecDepth 100000 in
set_option maxHeartbeats 1000000 in
theorem do_charge (p : Py) (n : Int) (w : World) (h : payE p 7 n = 0) : Calls Tryz.prog 172 #[p.val, .int .i64 7, .int .i64 n] w (PayRes w (payP p 7 n) 0) := by
 have HR := Lib.hid (fun W => refusal_any p 7 n W)
 unfold ErrRes at HR
 rw [h, show errV 0 = .nilIface from rfl] at HR
 obtain ⟨f, d, a, c, r, g, t, s⟩ := p
 unfold Py.val at HR
 unfold PayRes Py.val payP errV
 clear h
 rw [if_neg (by decide), if_neg (by decide), if_neg (by decide), if_pos rfl, if_pos rfl]
 obtain ⟨x, hx⟩ : ∃ x, wrap64 (g + n) = x := ⟨_, rfl⟩
 rw [hx]
 dsimp only at HR ⊢
 go_enter Tryz.func172, Tryz.ntmps172
 go_wp2_with fail
 refine (HR.out _).mono ?_
 rintro _ w1 ⟨rfl, hb1⟩
 have HZ := Lib.hid ((doW_zero w f d a c r g t s).below hb1 (by simp))
 have HP := Lib.hid ((doW_pay w f d a c r g t s).below hb1 (by simp; omega))
 have HB := Lib.hid ((doW_below w f d a c r g t s).trans (hb1.mono (by simp; omega)))
 clear hb1 HR
 obtain ⟨c0, c1, c2, c3, c4, c5, c6, c7⟩ := HZ.out.cells
 obtain ⟨f0, f1, f2, f3, f4, f5, f6, f7⟩ := HZ.out.loose
 obtain ⟨p0, p1, p2, p3, p4, p5, p6, p7⟩ := HP.out.cells
 obtain ⟨g0, g1, g2, g3, g4, g5, g6, g7⟩ := HP.out.loose
 go_wp2
 refine bodyPost_ret (results_pay (p := 6) (x := 7) (ty := 96) rfl _ _ (w.heap.size + 1) _ _ (0, 0) _ rfl ((HZ.out.setOther (by omega) 5 x).put f d a c r x t s) Tryz.underlying96 rfl (by kernel_rfl)) rfl ?_
 exact ⟨rfl, Py8.put_below (HB.out.setCell (p := ⟨w.heap.size, 5, none⟩) (Nat.le_refl _) _) (by omega) f d a c r x t s⟩
set_option maxRecDepth 100000 in
set_option maxHeartbeats 1000000 in
theorem do_capture (p : Py) (n : Int) (w : World) (h : payE p 4 n = 0) : Calls Tryz.prog 172 #[p.val, .int .i64 4, .int .i64 n] w (PayRes w (payP p 4 n) 0) := by
 have HR := Lib.hid (fun W => refusal_any p 4 n W)
 unfold ErrRes at HR
 rw [h, show errV 0 = .nilIface from rfl] at HR
 obtain ⟨f, d, a, c, r, g, t, s⟩ := p
 unfold Py.val at HR
 unfold PayRes Py.val payP errV
 clear h
 rw [if_pos rfl, if_pos rfl]
 obtain ⟨x, hx⟩ : ∃ x, wrap64 (c + n) = x := ⟨_, rfl⟩
 rw [hx]
 dsimp only at HR ⊢
 obtain ⟨z, hz⟩ : ∃ z, (if x = a then 1 else s) = z := ⟨_, rfl⟩
 rw [hz]
 go_enter Tryz.func172, Tryz.ntmps172
 go_wp2_with fail
 refine (HR.out _).mono ?_
 rintro _ w1 ⟨rfl, hb1⟩
 have HZ := Lib.hid ((doW_zero w f d a c r g t s).below hb1 (by simp))
 have HP := Lib.hid ((doW_pay w f d a c r g t s).below hb1 (by simp; omega))
 have HB := Lib.hid ((doW_below w f d a c r g t s).trans (hb1.mono (by simp; omega)))
 clear hb1 HR
 obtain ⟨c0, c1, c2, c3, c4, c5, c6, c7⟩ := HZ.out.cells
 obtain ⟨f0, f1, f2, f3, f4, f5, f6, f7⟩ := HZ.out.loose
 obtain ⟨p0, p1, p2, p3, p4, p5, p6, p7⟩ := HP.out.cells
 obtain ⟨g0, g1, g2, g3, g4, g5, g6, g7⟩ := HP.out.loose
 by_cases q : x = a
 · rw [if_pos q] at hz
   subst hz
   have q1 := eqT q
   clear q
   go_wp2
   refine bodyPost_ret (results_pay (p := 6) (x := 7) (ty := 96) rfl _ _ (w.heap.size + 1) _ _ (0, 0) _ rfl (((HZ.out.setOther (by omega) 3 x).setOther (by omega) 7 1).put f d a x r g t 1) Tryz.underlying96 rfl (by kernel_rfl)) rfl ?_
   exact ⟨rfl, Py8.put_below ((HB.out.setCell (p := ⟨w.heap.size, 3, none⟩) (Nat.le_refl _) _).setCell (p := ⟨w.heap.size, 7, none⟩) (Nat.le_refl _) _) (by omega) f d a x r g t 1⟩
 · rw [if_neg q] at hz
   subst hz
   have q1 := eqF q
   clear q
   go_wp2
   refine bodyPost_ret (results_pay (p := 6) (x := 7) (ty := 96) rfl _ _ (w.heap.size + 1) _ _ (0, 0) _ rfl ((HZ.out.setOther (by omega) 3 x).put f d a x r g t s) Tryz.underlying96 rfl (by kernel_rfl)) rfl ?_
   exact ⟨rfl, Py8.put_below (HB.out.setCell (p := ⟨w.heap.size, 3, none⟩) (Nat.le_refl _) _) (by omega) f d a x r g t s⟩
/-- What Do answers. -/
theorem do_any (p : Py) (op n : Int) (w : World) : Calls Tryz.prog 172 #[p.val, .int .i64 op, .int .i64 n] w (PayRes w (payR p op n) (payE p op n)) := by
 by_cases h : payE p op n = 0
 · have h' := h
   unfold payR
   rw [if_pos h, h]
   by_cases h4 : op = 4
   · subst h4; exact do_capture p n w h'
   · by_cases h5 : op = 5
     · subst h5; exact do_void p n w h'
     · by_cases h6 : op = 6
       · subst h6; exact do_refund p n w h'
       · by_cases h7 : op = 7
         · subst h7; exact do_charge p n w h'
         · unfold payE at h'
           rw [if_neg h4, if_neg h5, if_neg h6, if_neg h7] at h'
           omega
 · unfold payR
   rw [if_neg h]
   exact do_wrong p op n w h
end Go.Proofs.YteifgmdaggiaaaaGreatDoor
namespace Go.Proofs.YteifgmdaggiaaaaGreatDoor
open Go.RowKit Go.Extern.Stop Go.Stop Go.Extern
/-- errors.As(nil, target). -/
theorem as_nil (t : Value) (w : World) :
  Calls Tryz.prog 99 #[.nilIface, t] w fun e w' => e = .returned (.bool false) ∧ w' = w := by
 go_enter Tryz.func99, Tryz.ntmps99
 go_wp2
 go_ret
 exact ⟨rfl, rfl⟩
theorem Tryz.valueOfP (t : Addr) (w : World) : (ReflectliteValue.unpack (.iface 164 (.pointer (some t)))).run Tryz.prog w
  = .ok (.agg #[.pointer (some ⟨1, 164, none⟩), .pointer (some ⟨w.heap.size, 0, none⟩), .int .u64 150]) (w.alloc (.cells #[.pointer (some t)] 164)) := by kernel_rfl
theorem Tryz.typeP (a : Addr) (w : World) : (ReflectliteValue.methodAny (ReflectliteValue.valueError "reflectlite.Value.Type" 0) (fun t _ _ _ => ReflectliteType.toType t) #[.agg #[.pointer (some ⟨1, 164, none⟩), .pointer (some a), .int .u64 150]]).run Tryz.prog w
  = .ok (.iface 225 (.agg #[.pointer (some ⟨1, 164, none⟩)])) w := by kernel_rfl
theorem Tryz.methodKind (h : Value) (w : World) : (Go.method 406 225 (.agg #[h]) "Kind").run Tryz.prog w = .ok (204, h) w := by kernel_rfl
theorem Tryz.kindP (w : World) : ((ReflectliteType.abiMethod fun t => (fun a : Nat => Value.int IntKind.u8 (a : Int)) <$> Rtype.kind t) #[.pointer (some ⟨1, 164, none⟩)]).run Tryz.prog w = .ok (.int .u8 22) w := by kernel_rfl
theorem Tryz.kindE (w : World) : ((ReflectliteType.abiMethod fun t => (fun a : Nat => Value.int IntKind.u8 (a : Int)) <$> Rtype.kind t) #[.pointer (some ⟨1, 44, none⟩)]).run Tryz.prog w = .ok (.int .u8 2) w := by kernel_rfl
theorem Tryz.isNilAt (a : Addr) (w : World) : (ReflectliteValue.method (ReflectliteValue.valueError "reflectlite.Value.IsNil" 0) ReflectliteValue.isNil #[.agg #[.pointer (some ⟨1, 164, none⟩), .pointer (some a), .int .u64 150]]).run Tryz.prog w = (ReflectliteValue.isNil 164 a 150 22).run Tryz.prog w := by kernel_rfl
/-- (Value).IsNil at the Value of a *Errno that is not nil. -/
theorem Tryz.isNilP (a p : Addr) (W : World) (ha : W.cell? a = some (.pointer (some p))) :
  (ReflectliteValue.method (ReflectliteValue.valueError "reflectlite.Value.IsNil" 0) ReflectliteValue.isNil #[.agg #[.pointer (some ⟨1, 164, none⟩), .pointer (some a), .int .u64 150]]).run Tryz.prog W = .ok (.bool false) W := by
 rw [Tryz.isNilAt]
 simp [ReflectliteValue.isNil, loadVar, isAgg, underlying, Tryz.underlying164, ha, Result.andThen]
theorem Tryz.methodElem (h : Value) (w : World) : (Go.method 406 225 (.agg #[h]) "Elem").run Tryz.prog w = .ok (216, .agg #[h]) w := by kernel_rfl
theorem Tryz.methodImplements (h : Value) (w : World) : (Go.method 406 225 (.agg #[h]) "Implements").run Tryz.prog w = .ok (217, .agg #[h]) w := by kernel_rfl
theorem Tryz.methodAssignableTo (h : Value) (w : World) : (Go.method 406 225 (.agg #[h]) "AssignableTo").run Tryz.prog w = .ok (214, .agg #[h]) w := by kernel_rfl
theorem Tryz.elemP (w : World) : (ReflectliteType.method ReflectliteType.elem #[.agg #[.pointer (some ⟨1, 164, none⟩)]]).run Tryz.prog w = .ok (.iface 225 (.agg #[.pointer (some ⟨1, 44, none⟩)])) w := by kernel_rfl
theorem Tryz.implementsE (w : World) : (ReflectliteType.relation "Implements" ReflectliteType.implements_ #[.agg #[.pointer (some ⟨1, 44, none⟩)], .iface 225 (.agg #[.pointer (some ⟨1, 100, none⟩)])]).run Tryz.prog w = .ok (.bool true) w := by kernel_rfl
theorem Tryz.typeOfE (v : Value) (w : World) : (ReflectliteType.typeOf #[.iface 44 v]).run Tryz.prog w = .ok (.iface 225 (.agg #[.pointer (some ⟨1, 44, none⟩)])) w := by kernel_rfl
theorem Tryz.assignableE (w : World) : (ReflectliteType.relation "AssignableTo" ReflectliteType.assignableTo #[.agg #[.pointer (some ⟨1, 44, none⟩)], .iface 225 (.agg #[.pointer (some ⟨1, 44, none⟩)])]).run Tryz.prog w = .ok (.bool true) w := by kernel_rfl
theorem Tryz.valueOfE (n : Int) (w : World) : (ReflectliteValue.unpack (.iface 44 (.int .i64 n))).run Tryz.prog w
  = .ok (.agg #[.pointer (some ⟨1, 44, none⟩), .pointer (some ⟨w.heap.size, 0, none⟩), .int .u64 130]) (w.alloc (.cells #[.int .i64 n] 44)) := by kernel_rfl
theorem Tryz.elemOfP (w : World) : (Rtype.elem? 164).run Tryz.prog w = .ok (some 44) w := by kernel_rfl
theorem Tryz.mkE (p : Addr) (w : World) : (ReflectliteValue.mk 44 p ReflectliteValue.flagAddr).run Tryz.prog w = .ok (.agg #[.pointer (some ⟨1, 44, none⟩), .pointer (some p), .int .u64 386]) w := by kernel_rfl
theorem Tryz.elemVAt (a : Addr) (w : World) : (ReflectliteValue.method (ReflectliteValue.valueError "reflectlite.Value.Elem" 0) ReflectliteValue.elem #[.agg #[.pointer (some ⟨1, 164, none⟩), .pointer (some a), .int .u64 150]]).run Tryz.prog w = (ReflectliteValue.elem 164 a 150 22).run Tryz.prog w := by kernel_rfl
/-- (Value).Elem at the Value of a *Errno that is not nil. -/
theorem Tryz.elemVP (a p : Addr) (W : World) (ha : W.cell? a = some (.pointer (some p))) :
  (ReflectliteValue.method (ReflectliteValue.valueError "reflectlite.Value.Elem" 0) ReflectliteValue.elem #[.agg #[.pointer (some ⟨1, 164, none⟩), .pointer (some a), .int .u64 150]]).run Tryz.prog W
    = .ok (.agg #[.pointer (some ⟨1, 44, none⟩), .pointer (some p), .int .u64 386]) W := by
 rw [Tryz.elemVAt]
 simp [ReflectliteValue.elem, loadVar, isAgg, underlying, Tryz.underlying164, ha, Result.andThen, Tryz.elemOfP, Tryz.mkE]
theorem Tryz.setAt (ta b : Addr) (w : World) : (ReflectliteValue.set #[.agg #[.pointer (some ⟨1, 44, none⟩), .pointer (some ta), .int .u64 386], .agg #[.pointer (some ⟨1, 44, none⟩), .pointer (some b), .int .u64 130]]).run Tryz.prog w
  = (loadVar 44 b >>= fun x => storeVar 44 ta x >>= fun _ => pure (.tuple #[])).run Tryz.prog w := by kernel_rfl
/-- (Value).Set: the Errno at 'ta' gets what the Value's own variable 'b' holds. -/
theorem Tryz.setE (ta b : Addr) (n : Int) (old : Value) (W : World) (hb : W.cell? b = some (.int .i64 n)) (ht : W.cell? ta = some old) (hf : W.frozen? ta = false) :
  (ReflectliteValue.set #[.agg #[.pointer (some ⟨1, 44, none⟩), .pointer (some ta), .int .u64 386], .agg #[.pointer (some ⟨1, 44, none⟩), .pointer (some b), .int .u64 130]]).run Tryz.prog W
    = .ok (.tuple #[]) (W.setCell ta (.int .i64 n)) := by
 rw [Tryz.setAt]
 simp [loadVar, isAgg, underlying, Tryz.underlying44, hb, Result.andThen, storeVar, Value.cells, storeCells, Addr.add]
 rw [run_store Tryz.prog W ta _ _ (by rfl)]
 simp [ht, hf]
set_option maxHeartbeats 4000000 in
theorem as_hit (n : Int) (t : Addr) (old : Value) (w : World) (hg : w.cell? ⟨0, 0, none⟩ = some (.iface 225 (.agg #[.pointer (some ⟨1, 100, none⟩)]))) (ht0 : w.cell? t = some old) (hf0 : w.frozen? t = false) :
  Calls Tryz.prog 99 #[.iface 44 (.int .i64 n), .iface 164 (.pointer (some t))] w fun ev w' => ev = .returned (.bool true) ∧ w' = ((((w.alloc (.cells #[.pointer (some t)] 164)).alloc (.cells #[.pointer (some ⟨1, 164, none⟩), .pointer (some ⟨w.heap.size, 0, none⟩), .int .u64 150] 200)).alloc (.cells #[.pointer (some ⟨1, 164, none⟩), .pointer (some ⟨w.heap.size, 0, none⟩), .int .u64 150] 200)).alloc (.cells #[.int .i64 n] 44)).setCell t (.int .i64 n) := by
 have h6 := @run_callFunc_extern Tryz.prog 127 _ (fun args => ReflectliteValue.unpack (args.getD 0 (.tuple #[]))) Tryz.func127 (by kernel_rfl) (by kernel_rfl) (by kernel_rfl) (by kernel_rfl)
 have h7 := @run_callFunc_extern Tryz.prog 128 _ (ReflectliteValue.methodAny (ReflectliteValue.valueError "reflectlite.Value.Type" 0) (fun t _ _ _ => ReflectliteType.toType t)) Tryz.func128 (by kernel_rfl) (by kernel_rfl) (by kernel_rfl) (by kernel_rfl)
 have h8 := @run_callFunc_extern Tryz.prog 129 _ (ReflectliteValue.method (ReflectliteValue.valueError "reflectlite.Value.IsNil" 0) ReflectliteValue.isNil) Tryz.func129 (by kernel_rfl) (by kernel_rfl) (by kernel_rfl) (by kernel_rfl)
 have h27 := @run_callFunc_extern Tryz.prog 204 _ (ReflectliteType.abiMethod fun t => do pure (.int .u8 (← Rtype.kind t))) Tryz.func204 (by kernel_rfl) (by kernel_rfl) (by kernel_rfl) (by kernel_rfl)
 have h37 := @run_callFunc_extern Tryz.prog 216 _ (ReflectliteType.method ReflectliteType.elem) Tryz.func216 (by kernel_rfl) (by kernel_rfl) (by kernel_rfl) (by kernel_rfl)
 have h38 := @run_callFunc_extern Tryz.prog 217 _ (ReflectliteType.relation "Implements" ReflectliteType.implements_) Tryz.func217 (by kernel_rfl) (by kernel_rfl) (by kernel_rfl) (by kernel_rfl)
 have h10 := @run_callFunc_extern Tryz.prog 152 _ ReflectliteType.typeOf Tryz.func152 (by kernel_rfl) (by kernel_rfl) (by kernel_rfl) (by kernel_rfl)
 have h35 := @run_callFunc_extern Tryz.prog 214 _ (ReflectliteType.relation "AssignableTo" ReflectliteType.assignableTo) Tryz.func214 (by kernel_rfl) (by kernel_rfl) (by kernel_rfl) (by kernel_rfl)
 have h11 := @run_callFunc_extern Tryz.prog 153 _ (ReflectliteValue.method (ReflectliteValue.valueError "reflectlite.Value.Elem" 0) ReflectliteValue.elem) Tryz.func153 (by kernel_rfl) (by kernel_rfl) (by kernel_rfl) (by kernel_rfl)
 have h12 := @run_callFunc_extern Tryz.prog 154 _ ReflectliteValue.set Tryz.func154 (by kernel_rfl) (by kernel_rfl) (by kernel_rfl) (by kernel_rfl)
 have tO := Tryz.typeOfE
 have mA := Tryz.methodAssignableTo
 have a25 := Tryz.assignableE
 have v25 := Tryz.valueOfE
 have f6 := Tryz.valueOfP
 have f7 := Tryz.typeP
 have mK := Tryz.methodKind
 have mE := Tryz.methodElem
 have mI := Tryz.methodImplements
 have k27 := Tryz.kindP
 have k25 := Tryz.kindE
 have e27 := Tryz.elemP
 have i25 := Tryz.implementsE
 have n8 := Tryz.isNilP ⟨w.heap.size, 0, none⟩ t ((w.alloc (.cells #[.pointer (some t)] 164)).alloc (.cells #[.pointer (some ⟨1, 164, none⟩), .pointer (some ⟨w.heap.size, 0, none⟩), .int .u64 150] 200)) (by simp)
 have hlt : 0 < w.heap.size := by
  rcases Nat.lt_or_ge 0 w.heap.size with h | h
  · exact h
  · simp [World.cell?, Array.getElem?_eq_none h] at hg
 have hg2 : ((w.alloc (.cells #[.pointer (some t)] 164)).alloc (.cells #[.pointer (some ⟨1, 164, none⟩), .pointer (some ⟨w.heap.size, 0, none⟩), .int .u64 150] 200)).cell? ⟨0, 0, none⟩ = some (.iface 225 (.agg #[.pointer (some ⟨1, 100, none⟩)])) := by
  rw [World.cell?_alloc_lt _ _ ⟨0, 0, none⟩ (by simp), World.cell?_alloc_lt _ _ ⟨0, 0, none⟩ hlt]; exact hg
 have htl : t.block < w.heap.size := by
  rcases Nat.lt_or_ge t.block w.heap.size with h | h
  · exact h
  · simp [World.cell?, Array.getElem?_eq_none h] at ht0
 have el := Tryz.elemVP ⟨w.heap.size, 0, none⟩ t (((w.alloc (.cells #[.pointer (some t)] 164)).alloc (.cells #[.pointer (some ⟨1, 164, none⟩), .pointer (some ⟨w.heap.size, 0, none⟩), .int .u64 150] 200)).alloc (.cells #[.pointer (some ⟨1, 164, none⟩), .pointer (some ⟨w.heap.size, 0, none⟩), .int .u64 150] 200)) (by rw [World.cell?_alloc_lt _ _ ⟨w.heap.size, 0, none⟩ (by simp; omega)]; simp)
 have st := Tryz.setE t ⟨w.heap.size + 1 + 1 + 1, 0, none⟩ n old ((((w.alloc (.cells #[.pointer (some t)] 164)).alloc (.cells #[.pointer (some ⟨1, 164, none⟩), .pointer (some ⟨w.heap.size, 0, none⟩), .int .u64 150] 200)).alloc (.cells #[.pointer (some ⟨1, 164, none⟩), .pointer (some ⟨w.heap.size, 0, none⟩), .int .u64 150] 200)).alloc (.cells #[.int .i64 n] 44))
  (by rw [World.cell?_alloc_at _ _ _ _ (by simp)]; rfl)
  (by rw [World.cell?_alloc_lt _ _ t (by simp; omega), World.cell?_alloc_lt _ _ t (by simp; omega), World.cell?_alloc_lt _ _ t (by simp; omega), World.cell?_alloc_lt _ _ t htl]; exact ht0)
  (by rw [World.frozen?_alloc_old _ _ t (by simp; omega), World.frozen?_alloc_old _ _ t (by simp; omega), World.frozen?_alloc_old _ _ t (by simp; omega), World.frozen?_alloc_old _ _ t (Nat.ne_of_lt htl)]; exact hf0)
 go_enter Tryz.func99, Tryz.ntmps99
 go_wp2
 refine wp_loop_rounds 1 ?_
 rw [rounds_succ]
 go_wp2
 go_ret
 exact ⟨rfl, rfl⟩
end Go.Proofs.YteifgmdaggiaaaaGreatDoor
namespace Go.Proofs.YteifgmdaggiaaaaGreatDoor
open Go.RowKit
/-- What the package-level variable errors.errorType holds. -/
def HasErr (w : World) : Prop := w.cell? ⟨0, 0, none⟩ = some (.iface 225 (.agg #[.pointer (some ⟨1, 100, none⟩)]))
theorem HasErr.lt {w : World} (h : HasErr w) : 0 < w.heap.size := by
 unfold HasErr at h
 rcases Nat.lt_or_ge 0 w.heap.size with h' | h'
 · exact h'
 · simp [World.cell?, Array.getElem?_eq_none h'] at h
theorem HasErr.below {w w' : World} (h : HasErr w) (hb : Below w.heap.size w w') : HasErr w' := by
 unfold HasErr
 rw [hb.cell (p := ⟨0, 0, none⟩) h.lt]; exact h
theorem number_nil (w : World) : Calls Tryz.prog 73 #[.nilIface] w fun e w' => e = .returned (.int .i64 0) ∧ Below w.heap.size w w' := by
 go_enter Tryz.func73, Tryz.ntmps73
 go_wp2_with (go_at_call 99; refine (as_nil _ _).mono ?_; rintro e w' ⟨rfl, rfl⟩)
 go_ret
 exact ⟨rfl, (Below.refl _ _).alloc (Nat.le_refl _) _⟩
set_option maxHeartbeats 1000000 in
theorem number_err (n : Int) (w : World) (hh : HasErr w) : Calls Tryz.prog 73 #[.iface 44 (.int .i64 n)] w fun e w' => e = .returned (.int .i64 n) ∧ Below w.heap.size w w' := by
 have hl := hh.lt
 have hg : (w.alloc (.cells #[.int .i64 0] 44)).cell? ⟨0, 0, none⟩ = some (.iface 225 (.agg #[.pointer (some ⟨1, 100, none⟩)])) := by
  rw [World.cell?_alloc_lt _ _ ⟨0, 0, none⟩ hl]; exact hh
 have ht : (w.alloc (.cells #[.int .i64 0] 44)).cell? ⟨w.heap.size, 0, none⟩ = some (.int .i64 0) := by simp
 have hf : (w.alloc (.cells #[.int .i64 0] 44)).frozen? ⟨w.heap.size, 0, none⟩ = false := by simp
 clear hh
 go_enter Tryz.func73, Tryz.ntmps73
 go_wp2_with (go_at_call 99; refine (as_hit _ _ (.int .i64 0) _ hg ht hf).mono ?_; rintro e w' ⟨rfl, rfl⟩)
 go_ret
 refine ⟨rfl, ?_⟩
 exact (((((Below.refl _ _).alloc (Nat.le_refl _) _).alloc (by simp) _).alloc (by simp; omega) _).alloc (by simp; omega) _).alloc (by simp; omega) _
end Go.Proofs.YteifgmdaggiaaaaGreatDoor
namespace Go.Proofs.YteifgmdaggiaaaaGreatDoor
open Go Go.RowKit
theorem number_of (n : Int) (w : World) (hh : HasErr w) : Calls Tryz.prog 73 #[errV n] w fun e w' => e = .returned (.int .i64 n) ∧ Below w.heap.size w w' := by
 unfold errV
 by_cases h : n = 0
 · rw [if_pos h, h]; exact number_nil w
 · rw [if_neg h]; exact number_err n w hh
end Go.Proofs.YteifgmdaggiaaaaGreatDoor
