/-
  Elements and replies that came in.
-/
import Derived.Test.YtmokdmojhfhopaaDoorKeyPlain
import Derived.Test.YtmokdmojhfhopaaDoorShapeArg
import Derived.Test.YtmokdmojhfhopaaDoorReqIn
namespace Go.Proofs.YtmokdmojhfhopaaDoor
open Go Go.RowKit Go.ChangeShapes Go.WideShapes Go.Deep Go.Joins
set_option linter.unusedVariables false

def Kn.fits (k : Kn) : Prop := k.rq.fits ∧ inI k.err ∧ inI k.id
section
variable {H : Type} {enc : TypeId × Value → H} {w : World} {base fuel : Nat} {spare : Nat → Bool} {held : Bool} {cs : List Value} {x : DataW H × List MemPlace}

set_option maxRecDepth 100000 in
theorem rq_of (h : DataW.trod enc Tryd.prog w base spare held fuel 33 cs = some x) : ∃ z : Rq, z.fits ∧ cs = z.nums.map (Value.int .i64) := by
  have hl : cs.length = 7 := by obtain ⟨_, _, _, _, hl, _⟩ := DataW.trod_struct Tryd.underlying33 h; exact hl.trans (by kernel_rfl)
  obtain ⟨x0, e0, w0⟩ := trod_num Tryd.underlying33 h .i64 0 _ rfl 0 rfl (by kernel_rfl) (by kernel_rfl)
  obtain ⟨x1, e1, w1⟩ := trod_num Tryd.underlying33 h .i64 1 _ rfl 1 rfl (by kernel_rfl) (by kernel_rfl)
  obtain ⟨x2, e2, w2⟩ := trod_num Tryd.underlying33 h .i64 2 _ rfl 2 rfl (by kernel_rfl) (by kernel_rfl)
  obtain ⟨x3, e3, w3⟩ := trod_num Tryd.underlying33 h .i64 3 _ rfl 3 rfl (by kernel_rfl) (by kernel_rfl)
  obtain ⟨x4, e4, w4⟩ := trod_num Tryd.underlying33 h .i64 4 _ rfl 4 rfl (by kernel_rfl) (by kernel_rfl)
  obtain ⟨x5, e5, w5⟩ := trod_num Tryd.underlying33 h .i64 5 _ rfl 5 rfl (by kernel_rfl) (by kernel_rfl)
  obtain ⟨x6, e6, w6⟩ := trod_num Tryd.underlying33 h .i64 6 _ rfl 6 rfl (by kernel_rfl) (by kernel_rfl)
  match cs, hl with
  | [v0, v1, v2, v3, v4, v5, v6], _ =>
    simp at e0 e1 e2 e3 e4 e5 e6
    subst e0 e1 e2 e3 e4 e5 e6
    exact ⟨⟨x0, x1, x2, x3, x4, x5, x6⟩, (Rq.fits_iff _).2 ⟨int_inI w0, int_inI w1, int_inI w2, int_inI w3, int_inI w4, int_inI w5, int_inI w6⟩, rfl⟩

set_option maxRecDepth 100000 in
theorem rp_of (h : DataW.trod enc Tryd.prog w base spare held fuel 37 cs = some x) : ∃ e i : Int, inI e ∧ inI i ∧ cs = [.int .i64 e, .int .i64 i] := by
  have hl : cs.length = 2 := by obtain ⟨_, _, _, _, hl, _⟩ := DataW.trod_struct Tryd.underlying37 h; exact hl.trans (by kernel_rfl)
  obtain ⟨x0, e0, w0⟩ := trod_num Tryd.underlying37 h .i64 0 _ rfl 0 rfl (by kernel_rfl) (by kernel_rfl)
  obtain ⟨x1, e1, w1⟩ := trod_num Tryd.underlying37 h .i64 1 _ rfl 1 rfl (by kernel_rfl) (by kernel_rfl)
  match cs, hl with
  | [v0, v1], _ =>
    simp at e0 e1
    subst e0 e1
    exact ⟨x0, x1, int_inI w0, int_inI w1, rfl⟩

set_option maxRecDepth 100000 in
theorem kn_of (h : DataW.trod enc Tryd.prog w base spare held fuel 39 cs = some x) : ∃ z : Kn, z.fits ∧ cs = known.cells z := by
  have hl : cs.length = 10 := by obtain ⟨_, _, _, _, hl, _⟩ := DataW.trod_struct Tryd.underlying39 h; exact hl.trans (by kernel_rfl)
  obtain ⟨_, _, g0⟩ := trod_field Tryd.underlying39 h 0 _ rfl 0 7 rfl (by kernel_rfl)
  obtain ⟨_, _, g1⟩ := trod_field Tryd.underlying39 h 1 _ rfl 7 2 rfl (by kernel_rfl)
  obtain ⟨b, e2⟩ := trod_flag Tryd.underlying39 h 2 _ rfl 9 rfl (by kernel_rfl) (by kernel_rfl)
  obtain ⟨⟨a0, a1, a2, a3, a4, a5, a6⟩, f0, e0⟩ := rq_of g0
  obtain ⟨e, i, f1, f2, e1⟩ := rp_of g1
  match cs, hl with
  | [v0, v1, v2, v3, v4, v5, v6, v7, v8, v9], _ =>
    simp [Rq.nums] at e0 e1 e2
    obtain ⟨rfl, rfl, rfl, rfl, rfl, rfl, rfl⟩ := e0
    obtain ⟨rfl, rfl⟩ := e1
    subst e2
    exact ⟨⟨⟨a0, a1, a2, a3, a4, a5, a6⟩, e, i, b⟩, ⟨f0, f1, f2⟩, rfl⟩

set_option maxRecDepth 100000 in
/-- A reply that came in. -/
theorem reply_arg {r : Reach} {b0 : Nat} {v : Value} {d : DataW H} {p : List MemPlace} (hv : Value.okWide Tryd.prog w r b0 37 v)
    (h : DataW.Trod enc Tryd.prog w base spare held 37 v d p) : ∃ e i : Int, v = .agg #[.int .i64 e, .int .i64 i] ∧ inI e ∧ inI i := by
  obtain ⟨v0, v1, y0, y1, n, rfl, _, _, h0, h1⟩ := open_agg2 Tryd.underlying37 (by kernel_rfl) (by kernel_rfl) hv h
  obtain ⟨x0, e0, _, w0⟩ := DataW.trod_int Tryd.underlying35 h0
  obtain ⟨x1, e1, _, w1⟩ := DataW.trod_int Tryd.underlying3 h1
  simp at e0 e1
  subst e0 e1
  exact ⟨x0, x1, rfl, int_inI w0, int_inI w1⟩
end
end Go.Proofs.YtmokdmojhfhopaaDoor
