/-
  Acts of layer 11 that came in; an act's cells in a block.
-/
import Derived.Test.YtmokdmojhfhopaaDoorReqArg
import Derived.Test.YtmokdmojhfhopaaDoorKeyArg
namespace Go.Proofs.YtmokdmojhfhopaaDoor
open Go Go.RowKit Go.ChangeShapes Go.WideShapes Go.Deep Go.Joins
set_option linter.unusedVariables false

/-- An act: whether it tells, an ask, an ID. -/
structure KA where
  tell : Bool
  ask : Ak
  id : Int
def KA.cells (z : KA) : List Value := [.bool z.tell, .int .u8 (z.ask.key : Int), .int .u8 (z.ask.op : Int), .int .u8 (z.ask.a : Int), .int .u8 (z.ask.b : Int), .int .u16 (z.ask.amt : Int), .int .u8 (z.ask.legs : Int), .int .u8 (z.ask.til : Int), .int .i8 z.id]
def KAct.fits (z : KA) : Prop := z.ask.fits ∧ -128 ≤ z.id ∧ z.id ≤ 127
def kact : Shape KA := ⟨9, 30, KA.cells, by omega, fun _ => rfl, fun a u hu => by
  simp only [KA.cells, List.mem_cons, List.not_mem_nil, or_false] at hu
  rcases hu with rfl | rfl | rfl | rfl | rfl | rfl | rfl | rfl | rfl <;> rfl⟩

section
variable {H : Type} {enc : TypeId × Value → H} {w : World} {base fuel : Nat} {spare : Nat → Bool} {held : Bool} {cs : List Value} {x : DataW H × List MemPlace}
set_option maxRecDepth 100000 in
theorem ak_of (h : DataW.trod enc Tryd.prog w base spare held fuel 27 cs = some x) : ∃ z : Ak, z.fits ∧ cs = [.int .u8 (z.key : Int), .int .u8 (z.op : Int), .int .u8 (z.a : Int), .int .u8 (z.b : Int), .int .u16 (z.amt : Int), .int .u8 (z.legs : Int), .int .u8 (z.til : Int)] := by
  have hl : cs.length = 7 := by obtain ⟨_, _, _, _, hl, _⟩ := DataW.trod_struct Tryd.underlying27 h; exact hl.trans (by kernel_rfl)
  obtain ⟨x0, e0, w0⟩ := trod_num Tryd.underlying27 h .u8 0 _ rfl 0 rfl (by kernel_rfl) (by kernel_rfl)
  obtain ⟨x1, e1, w1⟩ := trod_num Tryd.underlying27 h .u8 1 _ rfl 1 rfl (by kernel_rfl) (by kernel_rfl)
  obtain ⟨x2, e2, w2⟩ := trod_num Tryd.underlying27 h .u8 2 _ rfl 2 rfl (by kernel_rfl) (by kernel_rfl)
  obtain ⟨x3, e3, w3⟩ := trod_num Tryd.underlying27 h .u8 3 _ rfl 3 rfl (by kernel_rfl) (by kernel_rfl)
  obtain ⟨x4, e4, w4⟩ := trod_num Tryd.underlying27 h .u16 4 _ rfl 4 rfl (by kernel_rfl) (by kernel_rfl)
  obtain ⟨x5, e5, w5⟩ := trod_num Tryd.underlying27 h .u8 5 _ rfl 5 rfl (by kernel_rfl) (by kernel_rfl)
  obtain ⟨x6, e6, w6⟩ := trod_num Tryd.underlying27 h .u8 6 _ rfl 6 rfl (by kernel_rfl) (by kernel_rfl)
  match cs, hl with
  | [v0, v1, v2, v3, v4, v5, v6], _ =>
    simp at e0 e1 e2 e3 e4 e5 e6
    subst e0 e1 e2 e3 e4 e5 e6
    obtain ⟨z0, rfl, g0⟩ := u8_nat w0
    obtain ⟨z1, rfl, g1⟩ := u8_nat w1
    obtain ⟨z2, rfl, g2⟩ := u8_nat w2
    obtain ⟨z3, rfl, g3⟩ := u8_nat w3
    obtain ⟨z4, rfl, g4⟩ := u16_nat w4
    obtain ⟨z5, rfl, g5⟩ := u8_nat w5
    obtain ⟨z6, rfl, g6⟩ := u8_nat w6
    exact ⟨⟨z0, z1, z2, z3, z4, z5, z6⟩, ⟨g0, g1, g2, g3, g4, g5, g6⟩, rfl⟩

set_option maxRecDepth 100000 in
theorem kact_of (h : DataW.trod enc Tryd.prog w base spare held fuel 30 cs = some x) : ∃ z : KA, KAct.fits z ∧ cs = kact.cells z := by
  have hl : cs.length = 9 := by obtain ⟨_, _, _, _, hl, _⟩ := DataW.trod_struct Tryd.underlying30 h; exact hl.trans (by kernel_rfl)
  obtain ⟨b, e0⟩ := trod_flag Tryd.underlying30 h 0 _ rfl 0 rfl (by kernel_rfl) (by kernel_rfl)
  obtain ⟨_, _, g1⟩ := trod_field Tryd.underlying30 h 1 _ rfl 1 7 rfl (by kernel_rfl)
  obtain ⟨n, e2, w2⟩ := trod_num Tryd.underlying30 h .i8 2 _ rfl 8 rfl (by kernel_rfl) (by kernel_rfl)
  obtain ⟨z, hz, e1⟩ := ak_of g1
  have hn : -128 ≤ n ∧ n ≤ 127 := by
    simp only [Lit.wf, Bool.and_eq_true, decide_eq_true_eq] at w2
    have e1 : IntKind.i8.min = -128 := rfl
    have e2 : IntKind.i8.max = 127 := rfl
    omega
  match cs, hl with
  | [v0, v1, v2, v3, v4, v5, v6, v7, v8], _ =>
    simp at e0 e1 e2
    obtain ⟨rfl, rfl, rfl, rfl, rfl, rfl, rfl⟩ := e1
    subst e0 e2
    exact ⟨⟨b, z, n⟩, ⟨hz, hn.1, hn.2⟩, rfl⟩
end

/-- The cells of the act at j. -/
theorem ka_cells {w : World} {ad : Addr} {j : Nat} {k : KA} (h : AtS kact w ad j k) :
    w.cell? (ad.add (j * 9)) = some (.bool k.tell) ∧ w.cell? ⟨(ad.add (j * 9)).block, (ad.add (j * 9)).off + 1, none⟩ = some (.int .u8 (k.ask.key : Int)) ∧ w.cell? ⟨(ad.add (j * 9)).block, (ad.add (j * 9)).off + 2, none⟩ = some (.int .u8 (k.ask.op : Int)) ∧
    w.cell? ⟨(ad.add (j * 9)).block, (ad.add (j * 9)).off + 3, none⟩ = some (.int .u8 (k.ask.a : Int)) ∧ w.cell? ⟨(ad.add (j * 9)).block, (ad.add (j * 9)).off + 4, none⟩ = some (.int .u8 (k.ask.b : Int)) ∧ w.cell? ⟨(ad.add (j * 9)).block, (ad.add (j * 9)).off + 5, none⟩ = some (.int .u16 (k.ask.amt : Int)) ∧
    w.cell? ⟨(ad.add (j * 9)).block, (ad.add (j * 9)).off + 6, none⟩ = some (.int .u8 (k.ask.legs : Int)) ∧ w.cell? ⟨(ad.add (j * 9)).block, (ad.add (j * 9)).off + 7, none⟩ = some (.int .u8 (k.ask.til : Int)) ∧ w.cell? ⟨(ad.add (j * 9)).block, (ad.add (j * 9)).off + 8, none⟩ = some (.int .i8 k.id) := by
  refine ⟨h 0 _ rfl, ?_, ?_, ?_, ?_, ?_, ?_, ?_, ?_⟩ <;> rw [← add_next _ _ _ (by omega)]
  · exact h 1 _ rfl
  · exact h 2 _ rfl
  · exact h 3 _ rfl
  · exact h 4 _ rfl
  · exact h 5 _ rfl
  · exact h 6 _ rfl
  · exact h 7 _ rfl
  · exact h 8 _ rfl

/-- An act's flag and its ID in a block. -/
def KA2 (w : World) (g : Nat) (t : Bool) (x : Int) : Prop := w.cell? ⟨g, 0, none⟩ = some (.bool t) ∧ w.cell? ⟨g, 8, none⟩ = some (.int .i8 x) ∧ g < w.heap.size
theorem KA2.below {w w' : World} {g : Nat} {t : Bool} {x : Int} (h : KA2 w g t x) (hb : Below w.heap.size w w') : KA2 w' g t x :=
  ⟨(hb.cell h.2.2).trans h.1, (hb.cell h.2.2).trans h.2.1, Nat.lt_of_lt_of_le h.2.2 hb.size⟩
end Go.Proofs.YtmokdmojhfhopaaDoor
