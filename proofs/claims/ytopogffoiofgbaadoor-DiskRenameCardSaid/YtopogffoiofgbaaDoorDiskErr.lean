/-
  The disk's calls where they tell an error; Used; min and max of two numbers.
-/
import Derived.Test.YtopogffoiofgbaaDoorDiskAwake
import Derived.Test.YtopogffoiofgbaaDoorNumber
namespace Go.Proofs.YtopogffoiofgbaaDoor
open Go Go.RowKit Go.Maps
set_option linter.unusedVariables false
section
variable {S : Nat → Prop} {w w' : World} {base sb : Nat} {room : Int} {ps : List PF}

theorem used_ok (h : DiskP w S base sb room ps) (ht : ptotal ps ≤ 4611686018427387904) {t : Nat} (e : ptotal ps = t) : Calls Tryd.prog 11 #[.pointer (some ⟨sb, 0, none⟩)] w (UsedRes w t) := by
  obtain ⟨mv, fs, left, hd, rfl⟩ := h
  rw [← total_p] at ht e
  rw [← e]
  exact used_any hd ht
theorem append_no (h : DiskP w S base sb room ps) (k : Int) (B : Option Addr) (m d : Nat) (hroom : 0 ≤ room ∧ room ≤ 262144) (ht : (ptotal ps : Int) ≤ room) (hm : m ≤ 9223372036854775807) (hfit : room < (ptotal ps : Int) + m) :
    Calls Tryd.prog 8 #[.pointer (some ⟨sb, 0, none⟩), .int .i64 k, .slice B m d] w fun e w' => e = .returned (.iface 29 (.int .i64 8)) ∧ Below w.heap.size w w' := by
  obtain ⟨mv, fs, left, hd, rfl⟩ := h
  rw [← total_p] at ht hfit
  exact append_full hd k B m d hroom ht hm hfit
end
theorem min2_at {P : Program} (x y z : Int) (h : min x y = z) (W : World) (ts : Array TypeId) (t : TypeId) : (Builtin.min_ ts t #[.int .i64 x, .int .i64 y]).run P W = .ok (.int .i64 z) W := by
  rw [min2_int]
  congr 2
  split <;> omega
theorem max2_at {P : Program} (x y z : Int) (h : max x y = z) (W : World) (ts : Array TypeId) (t : TypeId) : (Builtin.max_ ts t #[.int .i64 x, .int .i64 y]).run P W = .ok (.int .i64 z) W := by
  simp [Builtin.max_, Builtin.max2]
  split <;> omega
end Go.Proofs.YtopogffoiofgbaaDoor
