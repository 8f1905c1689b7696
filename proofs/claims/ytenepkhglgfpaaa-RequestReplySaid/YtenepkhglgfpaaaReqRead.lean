/-
  request.Read by its contract: the request that bytes begin with, or none.
-/
import Derived.Test.YtenepkhglgfpaaaReqMay
import Derived.Test.YtenepkhglgfpaaaVarTake
import Derived.Deep.RegionWith
namespace Go.Proofs.Ytenepkhglgfpaaa
open Go Go.RowKit
set_option linter.unusedVariables false

/-- A request, bytes of its own behind it, and true. -/
def ReadYes (w : World) (r : Rq) (t : List Nat) (e : Ending) (w' : World) : Prop :=
  ∃ v, e = .returned (.tuple #[r.val, v, .bool true]) ∧ Own 5 .u8 w' w.heap.size v t.length (ints t) ∧ Below w.heap.size w w'
/-- The zero request, nothing, and false. -/
def ReadNo (w : World) (e : Ending) (w' : World) : Prop := e = .returned (.tuple #[Rq.zero.val, .slice none 0 0, .bool false]) ∧ Below w.heap.size w w'

/-- Seven numbers are there to be taken. -/
theorem take_seven (A : Option Addr) (n c : Nat) (r : Rq) (t : List Nat) (w : World) (hr : Rd .u8 w A n (ints (encs r.nums ++ t))) (hnc : n ≤ c) (hl : c ≤ maxLen) (hn : n ≤ 200000000000000) (ht : ∀ x ∈ t, x < 256) (hf : r.fits) :
    Calls Try.prog 23 #[.slice A n c, .int .i64 7] w (TakeRes w r.nums t) := by
  have h := take_yes A n c r.nums t 7 w hr hnc hl hn ht hf (by omega) (by omega) (by rw [r.nums_len]; omega)
  exact h

/-- A request's cells in a block. -/
def Rq7 (w : World) (g : Nat) (t : TypeId) (x0 x1 x2 x3 x4 x5 x6 : Int) : Prop := w.heap[g]? = some (.cells #[.int .i64 x0, .int .i64 x1, .int .i64 x2, .int .i64 x3, .int .i64 x4, .int .i64 x5, .int .i64 x6] t (0, 0))
theorem Rq7.new (w : World) (t : TypeId) (x0 x1 x2 x3 x4 x5 x6 : Int) : Rq7 (w.alloc (.cells #[.int .i64 x0, .int .i64 x1, .int .i64 x2, .int .i64 x3, .int .i64 x4, .int .i64 x5, .int .i64 x6] t)) w.heap.size t x0 x1 x2 x3 x4 x5 x6 := heap_alloc_new w _
theorem Rq7.below {w w' : World} {B g : Nat} {t : TypeId} {x0 x1 x2 x3 x4 x5 x6 : Int} (h : Rq7 w g t x0 x1 x2 x3 x4 x5 x6) (hb : Below B w w') (hg : g < B) : Rq7 w' g t x0 x1 x2 x3 x4 x5 x6 := (hb.block g hg).trans h
theorem Rq7.alloc {w : World} {g : Nat} {t : TypeId} {x0 x1 x2 x3 x4 x5 x6 : Int} (h : Rq7 w g t x0 x1 x2 x3 x4 x5 x6) (o : Obj) (hg : g < w.heap.size) : Rq7 (w.alloc o) g t x0 x1 x2 x3 x4 x5 x6 := (Below.heap_alloc w o g hg).trans h
theorem Rq7.cells {w : World} {g : Nat} {t : TypeId} {x0 x1 x2 x3 x4 x5 x6 : Int} (h : Rq7 w g t x0 x1 x2 x3 x4 x5 x6) : w.cell? ⟨g, 0, none⟩ = some (.int .i64 x0) ∧ w.cell? ⟨g, 1, none⟩ = some (.int .i64 x1) ∧ w.cell? ⟨g, 2, none⟩ = some (.int .i64 x2) ∧ w.cell? ⟨g, 3, none⟩ = some (.int .i64 x3) ∧ w.cell? ⟨g, 4, none⟩ = some (.int .i64 x4) ∧ w.cell? ⟨g, 5, none⟩ = some (.int .i64 x5) ∧ w.cell? ⟨g, 6, none⟩ = some (.int .i64 x6) :=
  ⟨cell_of_row w g 0 _ _ _ h, cell_of_row w g 1 _ _ _ h, cell_of_row w g 2 _ _ _ h, cell_of_row w g 3 _ _ _ h, cell_of_row w g 4 _ _ _ h, cell_of_row w g 5 _ _ _ h, cell_of_row w g 6 _ _ _ h⟩
theorem Rq7.loose {w : World} {g : Nat} {t : TypeId} {x0 x1 x2 x3 x4 x5 x6 : Int} (h : Rq7 w g t x0 x1 x2 x3 x4 x5 x6) : w.frozen? ⟨g, 0, none⟩ = false ∧ w.frozen? ⟨g, 1, none⟩ = false ∧ w.frozen? ⟨g, 2, none⟩ = false ∧ w.frozen? ⟨g, 3, none⟩ = false ∧ w.frozen? ⟨g, 4, none⟩ = false ∧ w.frozen? ⟨g, 5, none⟩ = false ∧ w.frozen? ⟨g, 6, none⟩ = false :=
  ⟨frozen_of_row w g 0 _ _ h, frozen_of_row w g 1 _ _ h, frozen_of_row w g 2 _ _ h, frozen_of_row w g 3 _ _ h, frozen_of_row w g 4 _ _ h, frozen_of_row w g 5 _ _ h, frozen_of_row w g 6 _ _ h⟩
/-- All seven laid anew. -/
theorem Rq7.put {w : World} {g : Nat} {t : TypeId} {x0 x1 x2 x3 x4 x5 x6 : Int} (h : Rq7 w g t x0 x1 x2 x3 x4 x5 x6) (y0 y1 y2 y3 y4 y5 y6 : Int) : Rq7 (((((((w.setCell ⟨g, 0, none⟩ (.int .i64 y0)).setCell ⟨g, 1, none⟩ (.int .i64 y1)).setCell ⟨g, 2, none⟩ (.int .i64 y2)).setCell ⟨g, 3, none⟩ (.int .i64 y3)).setCell ⟨g, 4, none⟩ (.int .i64 y4)).setCell ⟨g, 5, none⟩ (.int .i64 y5)).setCell ⟨g, 6, none⟩ (.int .i64 y6)) g t y0 y1 y2 y3 y4 y5 y6 := by
  unfold Rq7 at h ⊢
  simp [World.setCell, Array.getElem?_modify, h]
theorem Rq7.put_below {w w' : World} {B g : Nat} (h : Below B w w') (hg : B ≤ g) (y0 y1 y2 y3 y4 y5 y6 : Int) : Below B w (((((((w'.setCell ⟨g, 0, none⟩ (.int .i64 y0)).setCell ⟨g, 1, none⟩ (.int .i64 y1)).setCell ⟨g, 2, none⟩ (.int .i64 y2)).setCell ⟨g, 3, none⟩ (.int .i64 y3)).setCell ⟨g, 4, none⟩ (.int .i64 y4)).setCell ⟨g, 5, none⟩ (.int .i64 y5)).setCell ⟨g, 6, none⟩ (.int .i64 y6)) :=
  (((((((h.setCell (p := ⟨g, 0, none⟩) hg _).setCell (p := ⟨g, 1, none⟩) hg _).setCell (p := ⟨g, 2, none⟩) hg _).setCell (p := ⟨g, 3, none⟩) hg _).setCell (p := ⟨g, 4, none⟩) hg _).setCell (p := ⟨g, 5, none⟩) hg _).setCell (p := ⟨g, 6, none⟩) hg _)

theorem results_row3 {P : Program} {fn : Func} {p x y : Tmp} {ty : TypeId} (h : fn.results = #[.cell p ty, .tmp x, .tmp y]) (tmps : Array Value) (w : World) (g : Nat) (t : TypeId) (cs : Array Value) (fr : Nat × Nat) (d : TypeDesc)
    (hp : tmps.getD p undef = .pointer (some ⟨g, 0, none⟩)) (hg : w.heap[g]? = some (.cells cs t fr))
    (hu : P.underlying ty = some d) (hd : (match d with | .struct _ | .array _ _ => true | _ => false) = true) (hi : (P.info? ty).map (·.size) = some cs.size) :
    (results fn tmps).run P w = .ok (.tuple #[.agg cs, tmps.getD x undef, tmps.getD y undef]) w := by
  have hp' : tmps[p]?.getD undef = .pointer (some ⟨g, 0, none⟩) := by simpa using hp
  simp [results, h, hp', asAddr, run_loadVar_row w g t ty cs fr d hg hu hd hi, Result.andThen]

set_option maxRecDepth 100000 in
theorem read_short (A : Option Addr) (n c : Nat) (ns : List Int) (t : List Nat) (w : World) (hr : Rd .u8 w A n (ints (encs ns ++ t))) (hnc : n ≤ c) (hl : c ≤ maxLen) (hn : n ≤ 200000000000000) (ht : ∀ x ∈ t, x < 256)
    (hw : ∀ x ∈ ns, -9223372036854775808 ≤ x ∧ x ≤ 9223372036854775807) (hm : ns.length < 7) (hd : rd t = none) :
    Calls Try.prog 16 #[.slice A n c] w (ReadNo w) := by
  have HB0 := Lib.hid ((Below.refl w.heap.size w).alloc (Nat.le_refl _) (.cells #[.int .i64 0, .int .i64 0, .int .i64 0, .int .i64 0, .int .i64 0, .int .i64 0, .int .i64 0] 24))
  have HT := Lib.hid (fun W (h : Rd .u8 W A n (ints (encs ns ++ t))) => take_no A n c ns t 7 W h hnc hl hn ht hw (by omega) (by omega) (by omega) hd)
  have HR := Lib.hid hr
  have HZ := Lib.hid (Rq7.new w 24 0 0 0 0 0 0 0)
  clear hr ht hw hm hd
  go_enter Try.func16, Try.ntmps16
  go_wp2_with fail
  refine (HT.out _ (HR.out.alloc _)).mono ?_
  rintro _ w2 ⟨rfl, hb2⟩
  have HZ2 := Lib.hid (HZ.out.below hb2 (by simp))
  obtain ⟨c0, c1, c2, c3, c4, c5, c6⟩ := HZ2.out.cells
  obtain ⟨f0, f1, f2, f3, f4, f5, f6⟩ := HZ2.out.loose
  have HB2 := Lib.hid (HB0.out.trans (hb2.mono (by simp)))
  clear hb2 HT
  go_wp2
  refine bodyPost_ret (results_row3 (p := 2) (x := 3) (y := 4) (ty := 24) rfl _ _ w.heap.size _ _ (0, 0) _ rfl (HZ2.out.put 0 0 0 0 0 0 0) Try.underlying24 rfl (by kernel_rfl)) rfl ?_
  exact ⟨rfl, Rq7.put_below HB2.out (Nat.le_refl _) 0 0 0 0 0 0 0⟩
end Go.Proofs.Ytenepkhglgfpaaa
