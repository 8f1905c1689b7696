/-
  Slices of the law's Paid: their shape, cells, and one that came in.
-/
import Derived.Test.YtdepidemciigkaaPaid
import Derived.Test.YtdepidemciigkaaArgNat
import Derived.Test.YtdepidemciigkaaShape
import Derived.Test.YtdepidemciigkaaShapeArg
namespace Go.Proofs.Ytdepidemciigkaa
open Go Go.RowKit Go.ChangeShapes Go.WideShapes Go.Deep Go.Joins
set_option linter.unusedVariables false

def Pd.cells (z : Pd) : List Value := [.int .u8 (z.f : Int), .int .u8 (z.t : Int), .int .u8 (z.a : Int), .int .u8 (z.c : Int), .int .u8 (z.r : Int), .int .u8 (z.g : Int), .int .u8 (z.u : Int), .bool z.cl]
def paids : Shape Pd := ⟨8, 40, Pd.cells, by omega, fun _ => rfl, fun a u hu => by
  simp only [Pd.cells, List.mem_cons, List.not_mem_nil, or_false] at hu
  rcases hu with rfl | rfl | rfl | rfl | rfl | rfl | rfl | rfl <;> rfl⟩
/-- The cells of the Paid at j. -/
theorem paid_cells {w : World} {ad : Addr} {j : Nat} {k : Pd} (h : AtS paids w ad j k) :
    w.cell? (ad.add (j * 8)) = some (.int .u8 (k.f : Int)) ∧
    w.cell? ⟨(ad.add (j * 8)).block, (ad.add (j * 8)).off + 1, none⟩ = some (.int .u8 (k.t : Int)) ∧
    w.cell? ⟨(ad.add (j * 8)).block, (ad.add (j * 8)).off + 2, none⟩ = some (.int .u8 (k.a : Int)) ∧
    w.cell? ⟨(ad.add (j * 8)).block, (ad.add (j * 8)).off + 3, none⟩ = some (.int .u8 (k.c : Int)) ∧
    w.cell? ⟨(ad.add (j * 8)).block, (ad.add (j * 8)).off + 4, none⟩ = some (.int .u8 (k.r : Int)) ∧
    w.cell? ⟨(ad.add (j * 8)).block, (ad.add (j * 8)).off + 5, none⟩ = some (.int .u8 (k.g : Int)) ∧
    w.cell? ⟨(ad.add (j * 8)).block, (ad.add (j * 8)).off + 6, none⟩ = some (.int .u8 (k.u : Int)) ∧
    w.cell? ⟨(ad.add (j * 8)).block, (ad.add (j * 8)).off + 7, none⟩ = some (.bool k.cl) := by
  refine ⟨h 0 _ rfl, ?_, ?_, ?_, ?_, ?_, ?_, ?_⟩ <;> rw [← add_next _ _ _ (by omega)]
  · exact h 1 _ rfl
  · exact h 2 _ rfl
  · exact h 3 _ rfl
  · exact h 4 _ rfl
  · exact h 5 _ rfl
  · exact h 6 _ rfl
  · exact h 7 _ rfl
theorem paid_slice : Try.prog.underlying 22 = some (.slice (Try.prog.elem 22)) := by kernel_rfl
theorem paid_size (W : World) : (sizeOf (Try.prog.elem 22)).run Try.prog W = .ok 8 W := by kernel_rfl
theorem run_frontPaid (W : World) (A : Option Addr) (n c k : Nat) (hk : k ≤ c) : (Instr.sliceAt 22 (.slice A n c) none (some (.int .i64 (k : Int))) none).run Try.prog W = .ok (.slice A k c) W := by
  rw [run_sliceAt_slice _ _ _ _ _ _ paid_slice, run_slice_h W _ _ _ _ paid_slice _ _ (by omega) (by omega), paid_size]
  have e : (A.map fun x => x.add 0) = A := by cases A <;> simp [Addr.add]
  simp [Result.andThen, sliced, e]

section
variable {H : Type} {enc : TypeId × Value → H} {w : World} {base fuel : Nat} {spare : Nat → Bool} {held : Bool} {cs : List Value} {x : DataW H × List MemPlace}
set_option maxRecDepth 100000 in
theorem pd_of (h : DataW.trod enc Try.prog w base spare held fuel 40 cs = some x) : ∃ z : Pd, z.fits ∧ cs = paids.cells z := by
  have hl : cs.length = 8 := by obtain ⟨_, _, _, _, hl, _⟩ := DataW.trod_struct Try.underlying40 h; exact hl.trans (by kernel_rfl)
  obtain ⟨x0, e0, w0⟩ := trod_num Try.underlying40 h .u8 0 _ rfl 0 rfl (by kernel_rfl) (by kernel_rfl)
  obtain ⟨x1, e1, w1⟩ := trod_num Try.underlying40 h .u8 1 _ rfl 1 rfl (by kernel_rfl) (by kernel_rfl)
  obtain ⟨x2, e2, w2⟩ := trod_num Try.underlying40 h .u8 2 _ rfl 2 rfl (by kernel_rfl) (by kernel_rfl)
  obtain ⟨x3, e3, w3⟩ := trod_num Try.underlying40 h .u8 3 _ rfl 3 rfl (by kernel_rfl) (by kernel_rfl)
  obtain ⟨x4, e4, w4⟩ := trod_num Try.underlying40 h .u8 4 _ rfl 4 rfl (by kernel_rfl) (by kernel_rfl)
  obtain ⟨x5, e5, w5⟩ := trod_num Try.underlying40 h .u8 5 _ rfl 5 rfl (by kernel_rfl) (by kernel_rfl)
  obtain ⟨x6, e6, w6⟩ := trod_num Try.underlying40 h .u8 6 _ rfl 6 rfl (by kernel_rfl) (by kernel_rfl)
  obtain ⟨x7, e7⟩ := trod_flag Try.underlying40 h 7 _ rfl 7 rfl (by kernel_rfl) (by kernel_rfl)
  match cs, hl with
  | [v0, v1, v2, v3, v4, v5, v6, v7], _ =>
    simp at e0 e1 e2 e3 e4 e5 e6 e7
    subst e0 e1 e2 e3 e4 e5 e6 e7
    obtain ⟨z0, rfl, g0⟩ := u8_nat w0
    obtain ⟨z1, rfl, g1⟩ := u8_nat w1
    obtain ⟨z2, rfl, g2⟩ := u8_nat w2
    obtain ⟨z3, rfl, g3⟩ := u8_nat w3
    obtain ⟨z4, rfl, g4⟩ := u8_nat w4
    obtain ⟨z5, rfl, g5⟩ := u8_nat w5
    obtain ⟨z6, rfl, g6⟩ := u8_nat w6
    exact ⟨⟨z0, z1, z2, z3, z4, z5, z6, x7⟩, ⟨g0, g1, g2, g3, g4, g5, g6⟩, rfl⟩
end
end Go.Proofs.Ytdepidemciigkaa
