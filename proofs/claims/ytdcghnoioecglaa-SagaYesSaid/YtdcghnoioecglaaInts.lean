/-
  Bytes as natural numbers in slices: the words that the contracts of this seat share.
-/
import Derived.Test.YtdcghnoioecglaaSlices
import Derived.Test.YtdcghnoioecglaaProg
namespace Go.Proofs.Ytdcghnoioecglaa
open Go.RowKit

theorem info_byte : (Try.prog.info? 5).map (fun i => (i.zero, i.size, i.bytes)) = some (some (.int .u8 0), 1, 1) := by kernel_rfl

/-- Natural numbers as integers. -/
def ints (xs : List Nat) : List Int := xs.map fun x : Nat => (x : Int)
theorem ints_append (a b : List Nat) : ints (a ++ b) = ints a ++ ints b := by simp [ints]
theorem ints_length (a : List Nat) : (ints a).length = a.length := by simp [ints]
theorem ints_one (x : Nat) : ints [x] = [(x : Int)] := rfl
theorem ints_getD (a : List Nat) (j : Nat) : (ints a).getD j 0 = ((a.getD j 0 : Nat) : Int) := by
  by_cases h : j < a.length
  · simp [ints, List.getD, h]
  · simp [ints, List.getD, h]
theorem ints_drop (a : List Nat) (j : Nat) : (ints a).drop j = ints (a.drop j) := by simp [ints, List.map_drop]
theorem ints_inj {a b : List Nat} (h : ints a = ints b) : a = b := by
  have := congrArg (List.map Int.toNat) h
  simpa [ints, List.map_map, Function.comp_def] using this

/-- One cell in a new block. -/
theorem Rd.one {k : IntKind} {w : World} {t : TypeId} (x : Int) : Rd k (w.alloc (.cells #[.int k x] t)) (some ⟨w.heap.size, 0, none⟩) 1 [x] :=
  ⟨rfl, fun _ => ⟨_, rfl, fun j hj => by
    obtain rfl : j = 0 := by omega
    simp [Addr.add]⟩⟩

theorem own_more {e : TypeId} {w : World} {base : Nat} {v : Value} {ys : List Nat} {x : Int} {q : Nat} (h : Own e .u8 w base v (ys.length + 1) (ints ys ++ [x])) (hx : x = (q : Int)) :
    Own e .u8 w base v (ys ++ [q]).length (ints (ys ++ [q])) := by
  subst hx
  rw [ints_append, ints_one, List.length_append]
  exact h

/-- It hands back bytes of its own, and turns nothing below 'base'. -/
def OwnRes (w : World) (base : Nat) (xs : List Nat) (e : Ending) (w' : World) : Prop :=
  ∃ v, e = .returned v ∧ Own 5 .u8 w' base v xs.length (ints xs) ∧ Below base w w'
end Go.Proofs.Ytdcghnoioecglaa
