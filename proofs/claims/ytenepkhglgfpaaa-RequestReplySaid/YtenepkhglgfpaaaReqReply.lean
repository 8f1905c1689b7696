/-
  request.ReadReply by its contract.
-/
import Derived.Test.YtenepkhglgfpaaaReqReadYes
namespace Go.Proofs.Ytenepkhglgfpaaa
open Go Go.RowKit
set_option linter.unusedVariables false

/-- A reply, bytes of its own behind it, and true. -/
def ReplyYes (w : World) (e i : Int) (t : List Nat) (x : Ending) (w' : World) : Prop :=
  ∃ v, x = .returned (.tuple #[.agg #[.int .i64 e, .int .i64 i], v, .bool true]) ∧ Own 5 .u8 w' w.heap.size v t.length (ints t) ∧ Below w.heap.size w w'
/-- The zero reply, nothing, and false. -/
def ReplyNo (w : World) (x : Ending) (w' : World) : Prop := x = .returned (.tuple #[.agg #[.int .i64 0, .int .i64 0], .slice none 0 0, .bool false]) ∧ Below w.heap.size w w'
def ReplyRes (w : World) (e i : Int) (t : List Nat) (x : Ending) (w' : World) : Prop := ((0 ≤ e ∧ e ≤ 13) ∧ ReplyYes w e i t x w') ∨ (¬ (0 ≤ e ∧ e ≤ 13) ∧ ReplyNo w x w')

/-- Two numbers are there to be taken. -/
theorem take_two (A : Option Addr) (n c : Nat) (a b : Int) (t : List Nat) (w : World) (hr : Rd .u8 w A n (ints (encs [a, b] ++ t))) (hnc : n ≤ c) (hl : c ≤ maxLen) (hn : n ≤ 200000000000000) (ht : ∀ x ∈ t, x < 256) (hf : ∀ x ∈ [a, b], inI x) :
    Calls Try.prog 23 #[.slice A n c, .int .i64 2] w (TakeRes w [a, b] t) := by
  have h := take_yes A n c [a, b] t 2 w hr hnc hl hn ht hf (by omega) (by omega) (by simp)
  exact h

/-- A reply's cells in a block. -/
def Rq2 (w : World) (g : Nat) (t : TypeId) (x0 x1 : Int) : Prop := w.heap[g]? = some (.cells #[.int .i64 x0, .int .i64 x1] t (0, 0))
theorem Rq2.new (w : World) (t : TypeId) (x0 x1 : Int) : Rq2 (w.alloc (.cells #[.int .i64 x0, .int .i64 x1] t)) w.heap.size t x0 x1 := heap_alloc_new w _
theorem Rq2.below {w w' : World} {B g : Nat} {t : TypeId} {x0 x1 : Int} (h : Rq2 w g t x0 x1) (hb : Below B w w') (hg : g < B) : Rq2 w' g t x0 x1 := (hb.block g hg).trans h
theorem Rq2.cells {w : World} {g : Nat} {t : TypeId} {x0 x1 : Int} (h : Rq2 w g t x0 x1) : w.cell? ⟨g, 0, none⟩ = some (.int .i64 x0) ∧ w.cell? ⟨g, 1, none⟩ = some (.int .i64 x1) :=
  ⟨cell_of_row w g 0 _ _ _ h, cell_of_row w g 1 _ _ _ h⟩
theorem Rq2.loose {w : World} {g : Nat} {t : TypeId} {x0 x1 : Int} (h : Rq2 w g t x0 x1) : w.frozen? ⟨g, 0, none⟩ = false ∧ w.frozen? ⟨g, 1, none⟩ = false :=
  ⟨frozen_of_row w g 0 _ _ h, frozen_of_row w g 1 _ _ h⟩
theorem Rq2.drew {w : World} {g : Nat} {t : TypeId} {x0 x1 : Int} (h : Rq2 w g t x0 x1) : Rq2 w.drew g t x0 x1 := h
/-- Both laid anew. -/
theorem Rq2.put {w : World} {g : Nat} {t : TypeId} {x0 x1 : Int} (h : Rq2 w g t x0 x1) (y0 y1 : Int) : Rq2 ((w.setCell ⟨g, 0, none⟩ (.int .i64 y0)).setCell ⟨g, 1, none⟩ (.int .i64 y1)) g t y0 y1 := by
  unfold Rq2 at h ⊢
  simp [World.setCell, Array.getElem?_modify, h]
theorem Rq2.put_below {w w' : World} {B g : Nat} (h : Below B w w') (hg : B ≤ g) (y0 y1 : Int) : Below B w ((w'.setCell ⟨g, 0, none⟩ (.int .i64 y0)).setCell ⟨g, 1, none⟩ (.int .i64 y1)) :=
  (h.setCell (p := ⟨g, 0, none⟩) hg _).setCell (p := ⟨g, 1, none⟩) hg _
theorem Own.put2 {e : TypeId} {k : IntKind} {w : World} {B n g : Nat} {v : Value} {zs : List Int} (h : Own e k w B v n zs) (hg : g < B) (y0 y1 : Int) : Own e k ((w.setCell ⟨g, 0, none⟩ (.int .i64 y0)).setCell ⟨g, 1, none⟩ (.int .i64 y1)) B v n zs :=
  ownsRow_setCell_below (ownsRow_setCell_below h (a := ⟨g, 0, none⟩) hg _) (a := ⟨g, 1, none⟩) hg _

set_option maxRecDepth 100000 in
theorem reply_short (A : Option Addr) (n c : Nat) (ns : List Int) (t : List Nat) (w : World) (hr : Rd .u8 w A n (ints (encs ns ++ t))) (hnc : n ≤ c) (hl : c ≤ maxLen) (hn : n ≤ 200000000000000) (ht : ∀ x ∈ t, x < 256)
    (hw : ∀ x ∈ ns, -9223372036854775808 ≤ x ∧ x ≤ 9223372036854775807) (hm : ns.length < 2) (hd : rd t = none) :
    Calls Try.prog 18 #[.slice A n c] w (ReplyNo w) := by
  have HB0 := Lib.hid ((Below.refl w.heap.size w).alloc (Nat.le_refl _) (.cells #[.int .i64 0, .int .i64 0] 43))
  have HT := Lib.hid (fun W (h : Rd .u8 W A n (ints (encs ns ++ t))) => take_no A n c ns t 2 W h hnc hl hn ht hw (by omega) (by omega) (by omega) hd)
  have HR := Lib.hid hr
  have HZ := Lib.hid (Rq2.new w 43 0 0)
  clear hr ht hw hm hd
  go_enter Try.func18, Try.ntmps18
  go_wp2_with fail
  refine (HT.out _ (HR.out.alloc _)).mono ?_
  rintro _ w2 ⟨rfl, hb2⟩
  have HZ2 := Lib.hid (HZ.out.below hb2 (by simp))
  obtain ⟨c0, c1⟩ := HZ2.out.cells
  obtain ⟨f0, f1⟩ := HZ2.out.loose
  have HB2 := Lib.hid (HB0.out.trans (hb2.mono (by simp)))
  clear hb2 HT
  go_wp2
  refine bodyPost_ret (results_row3 (p := 2) (x := 3) (y := 4) (ty := 43) rfl _ _ w.heap.size _ _ (0, 0) _ rfl (HZ2.out.put 0 0) Try.underlying43 rfl (by kernel_rfl)) rfl ?_
  exact ⟨rfl, Rq2.put_below HB2.out (Nat.le_refl _) 0 0⟩

set_option maxRecDepth 100000 in
theorem reply_two (A : Option Addr) (n c : Nat) (x i : Int) (t : List Nat) (w : World) (hr : Rd .u8 w A n (ints (encs [x, i] ++ t))) (hnc : n ≤ c) (hl : c ≤ maxLen) (hn : n ≤ 200000000000000) (ht : ∀ x ∈ t, x < 256) (hf : ∀ y ∈ [x, i], inI y) :
    Calls Try.prog 18 #[.slice A n c] w (ReplyRes w x i t) := by
  have HB0 := Lib.hid ((Below.refl w.heap.size w).alloc (Nat.le_refl _) (.cells #[.int .i64 0, .int .i64 0] 43))
  have HT := Lib.hid (fun W (h : Rd .u8 W A n (ints (encs [x, i] ++ t))) => take_two A n c x i t W h hnc hl hn ht hf)
  have HR := Lib.hid hr
  have HZ := Lib.hid (Rq2.new w 43 0 0)
  clear hr ht hf
  go_enter Try.func18, Try.ntmps18
  go_wp2_with fail
  refine (HT.out _ (HR.out.alloc _)).mono ?_
  rintro _ w2 ⟨v, u, rfl, hov, hou, hb2⟩
  have hz2 : w.heap.size + 1 ≤ w2.heap.size := by have := hb2.size; simpa using this
  have HZ2 := Lib.hid (HZ.out.below hb2 (by simp))
  have HB2 := Lib.hid (HB0.out.trans (hb2.mono (by simp)))
  have hov : Own 3 .i64 w2 _ v 2 [x, i] := hov
  obtain ⟨A2, c2, rfl, _, _, hrv, _⟩ := hov.form
  obtain ⟨Au, cu, rfl, hu1, hu2, _, _⟩ := hou.form
  have HOU := Lib.hid (show Own 5 .u8 w2 (w.heap.size + 1) (.slice Au t.length cu) t.length (ints t) from hou.less (by simp))
  obtain ⟨ad, rfl, h0⟩ := hrv.2 (by omega)
  have hz : ad.add 0 = ad := by unfold Addr.add; split <;> simp_all
  have q0 := h0 0 (by omega)
  rw [hz] at q0
  have q1 : w2.cell? ⟨ad.block, ad.off + 1, none⟩ = some (.int .i64 i) := h0 1 (by omega)
  have q0 : w2.cell? ad = some (.int .i64 x) := q0
  have hne := World.new_ne w2 ad q0
  obtain ⟨c0, c1⟩ := HZ2.out.cells
  obtain ⟨f0, f1⟩ := HZ2.out.loose
  clear hb2 hov hou hrv HT HR HZ HB0 h0 hz
  by_cases hx : 0 ≤ x ∧ x ≤ 13
  · have HI := Lib.hid (fun W => isFrom_is true 0 x 13 W (decide_eq_true hx).symm)
    have HX := Lib.hid hx
    clear hx
    go_wp2_with (first | (go_at_call 19; refine (HI.out _).mono ?_; rintro _ w3 ⟨rfl, rfl⟩))
    go_region
    go_wp2
    refine bodyPost_ret (results_row3 (p := 2) (x := 3) (y := 4) (ty := 43) rfl _ _ w.heap.size _ _ (0, 0) _ rfl (HZ2.out.put x i).drew Try.underlying43 rfl (by kernel_rfl)) rfl ?_
    exact .inl ⟨HX.out, _, rfl, (HOU.out.put2 (by omega) x i).drew.less (by omega), (Rq2.put_below HB2.out (Nat.le_refl _) x i).drew⟩
  · have HI := Lib.hid (fun W => isFrom_is false 0 x 13 W (decide_eq_false hx).symm)
    have HX := Lib.hid hx
    clear hx
    go_wp2_with (first | (go_at_call 19; refine (HI.out _).mono ?_; rintro _ w3 ⟨rfl, rfl⟩))
    refine bodyPost_ret (results_row3 (p := 2) (x := 3) (y := 4) (ty := 43) rfl _ _ w.heap.size _ _ (0, 0) _ rfl (HZ2.out.put 0 0) Try.underlying43 rfl (by kernel_rfl)) rfl ?_
    exact .inr ⟨HX.out, rfl, Rq2.put_below HB2.out (Nat.le_refl _) 0 0⟩
end Go.Proofs.Ytenepkhglgfpaaa
