/-
  Slices of the law's Ask: their shape, cells, and one that came in.
-/
import Derived.Test.YtjphkpohcgkcmaaGreatDoorReqAsk
import Derived.Test.YtjphkpohcgkcmaaGreatDoorGrA
namespace Go.Proofs.YtjphkpohcgkcmaaGreatDoor
open Go Go.RowKit Go.ChangeShapes Go.WideShapes Go.Deep Go.Joins
set_option linter.unusedVariables false

def Ak.cells (z : Ak) : List Value := [.int .u8 (z.key : Int), .int .u8 (z.op : Int), .int .u8 (z.a : Int), .int .u8 (z.b : Int), .int .u16 (z.amt : Int), .int .u8 (z.legs : Int), .int .u8 (z.til : Int)]
def asks : Shape Ak := ⟨7, 39, Ak.cells, by omega, fun _ => rfl, fun a u hu => by
  simp only [Ak.cells, List.mem_cons, List.not_mem_nil, or_false] at hu
  rcases hu with rfl | rfl | rfl | rfl | rfl | rfl | rfl <;> rfl⟩
/-- The cells of the Ask at j. -/
theorem ask_cells {w : World} {ad : Addr} {j : Nat} {k : Ak} (h : AtS asks w ad j k) :
    w.cell? (ad.add (j * 7)) = some (.int .u8 (k.key : Int)) ∧
    w.cell? ⟨(ad.add (j * 7)).block, (ad.add (j * 7)).off + 1, none⟩ = some (.int .u8 (k.op : Int)) ∧
    w.cell? ⟨(ad.add (j * 7)).block, (ad.add (j * 7)).off + 2, none⟩ = some (.int .u8 (k.a : Int)) ∧
    w.cell? ⟨(ad.add (j * 7)).block, (ad.add (j * 7)).off + 3, none⟩ = some (.int .u8 (k.b : Int)) ∧
    w.cell? ⟨(ad.add (j * 7)).block, (ad.add (j * 7)).off + 4, none⟩ = some (.int .u16 (k.amt : Int)) ∧
    w.cell? ⟨(ad.add (j * 7)).block, (ad.add (j * 7)).off + 5, none⟩ = some (.int .u8 (k.legs : Int)) ∧
    w.cell? ⟨(ad.add (j * 7)).block, (ad.add (j * 7)).off + 6, none⟩ = some (.int .u8 (k.til : Int)) := by
  refine ⟨h 0 _ rfl, ?_, ?_, ?_, ?_, ?_, ?_⟩ <;> rw [← add_next _ _ _ (by omega)]
  · exact h 1 _ rfl
  · exact h 2 _ rfl
  · exact h 3 _ rfl
  · exact h 4 _ rfl
  · exact h 5 _ rfl
  · exact h 6 _ rfl
section
variable {H : Type} {enc : TypeId × Value → H} {w : World} {base fuel : Nat} {spare : Nat → Bool} {held : Bool} {cs : List Value} {x : DataW H × List MemPlace}
set_option maxRecDepth 100000 in
theorem ak_of (h : DataW.trod enc Tryz.prog w base spare held fuel 39 cs = some x) : ∃ z : Ak, z.fits ∧ cs = asks.cells z := by
  have hl : cs.length = 7 := by obtain ⟨_, _, _, _, hl, _⟩ := DataW.trod_struct Tryz.underlying39 h; exact hl.trans (by kernel_rfl)
  obtain ⟨x0, e0, w0⟩ := trod_num Tryz.underlying39 h .u8 0 _ rfl 0 rfl (by kernel_rfl) (by kernel_rfl)
  obtain ⟨x1, e1, w1⟩ := trod_num Tryz.underlying39 h .u8 1 _ rfl 1 rfl (by kernel_rfl) (by kernel_rfl)
  obtain ⟨x2, e2, w2⟩ := trod_num Tryz.underlying39 h .u8 2 _ rfl 2 rfl (by kernel_rfl) (by kernel_rfl)
  obtain ⟨x3, e3, w3⟩ := trod_num Tryz.underlying39 h .u8 3 _ rfl 3 rfl (by kernel_rfl) (by kernel_rfl)
  obtain ⟨x4, e4, w4⟩ := trod_num Tryz.underlying39 h .u16 4 _ rfl 4 rfl (by kernel_rfl) (by kernel_rfl)
  obtain ⟨x5, e5, w5⟩ := trod_num Tryz.underlying39 h .u8 5 _ rfl 5 rfl (by kernel_rfl) (by kernel_rfl)
  obtain ⟨x6, e6, w6⟩ := trod_num Tryz.underlying39 h .u8 6 _ rfl 6 rfl (by kernel_rfl) (by kernel_rfl)
  match cs, hl with
  | [v0, v1, v2, v3, v4, v5, v6], _ =>
    simp at e0 e1 e2 e3 e4 e5 e6
    subst e0 e1 e2 e3 e4 e5 e6
    obtain ⟨z0, rfl, g0⟩ := u8_nat w0
    obtain ⟨z1, rfl, g1⟩ := u8_nat w1
    obtain ⟨z2, rfl, g2⟩ := u8_nat w2
    obtain ⟨z3, rfl, g3⟩ := u8_nat w3
    obtain ⟨z4, rfl, g4⟩ := u16_nat w4
    obtain ⟨z5, rfl, g5⟩ := u8_nat w5
    obtain ⟨z6, rfl, g6⟩ := u8_nat w6
    exact ⟨⟨z0, z1, z2, z3, z4, z5, z6⟩, ⟨g0, g1, g2, g3, g4, g5, g6⟩, rfl⟩
end
end Go.Proofs.YtjphkpohcgkcmaaGreatDoor
