/-
  Slices of requests that a law builds and cuts; slices of replies that it joins.
-/
import Derived.Test.YtjphkpohcgkcmaaGreatDoorGrI
import Derived.Test.YtjphkpohcgkcmaaGreatDoorReqAsk
import Derived.Test.YtjphkpohcgkcmaaGreatDoorOpsClone
namespace Go.Proofs.YtjphkpohcgkcmaaGreatDoor
open Go Go.RowKit
set_option linter.unusedVariables false

theorem info_rqs : (Tryz.prog.info? 42).map (fun i => (i.zero, i.size, i.bytes)) = some (some (.agg #[.int .i64 0, .int .i64 0, .int .i64 0, .int .i64 0, .int .i64 0, .int .i64 0, .int .i64 0]), 7, 56) := by kernel_rfl
theorem rqs_slice : Tryz.prog.underlying 36 = some (.slice (Tryz.prog.elem 36)) := by kernel_rfl
theorem rqs_size (W : World) : (sizeOf (Tryz.prog.elem 36)).run Tryz.prog W = .ok 7 W := by kernel_rfl
theorem run_frontRq (W : World) (A : Option Addr) (n c k : Nat) (hk : k ≤ c) : (Instr.sliceAt 36 (.slice A n c) none (some (.int .i64 (k : Int))) none).run Tryz.prog W = .ok (.slice A k c) W := by
  rw [run_sliceAt_slice _ _ _ _ _ _ rqs_slice, run_slice_h W _ _ _ _ rqs_slice _ _ (by omega) (by omega), rqs_size]
  have e : (A.map fun x => x.add 0) = A := by cases A <;> simp [Addr.add]
  simp [Result.andThen, sliced, e]
theorem run_backRq (W : World) (A : Option Addr) (n c k : Nat) (hk : k ≤ n) : (Instr.sliceAt 36 (.slice A n c) (some (.int .i64 (k : Int))) none none).run Tryz.prog W = .ok (.slice (if c = k then A else A.map (·.add (k * 7))) (n - k) (c - k)) W := by
  rw [run_sliceAt_slice _ _ _ _ _ _ rqs_slice, run_slice_l W _ _ _ _ rqs_slice _ _ (by omega) (by omega), rqs_size]
  simp [Result.andThen, sliced]
theorem rqs_drop {w : World} {A : Option Addr} {ls : List Rq} {n c k : Nat} (h : RdS rqs w A ls) (hn : ls.length = n) (hc : n ≤ c) (hk : k ≤ n) : RdS rqs w (if c = k then A else A.map (·.add (k * 7))) (ls.drop k) := fun h0 => by
  rw [List.length_drop] at h0
  obtain ⟨ad, he, hx⟩ := h (by omega)
  rw [if_neg (by omega), he]
  refine ⟨ad.add (k * 7), rfl, fun j a hj i u hu => ?_⟩
  rw [List.getElem?_drop] at hj
  have := hx (k + j) a hj i u hu
  rw [show rqs.size = 7 from rfl] at this ⊢
  rw [add_add, show k * 7 + (j * 7 + i) = (k + j) * 7 + i by omega]
  exact this
/-- A part of the requests, as asks. -/
theorem reqs_more {zk : List Ak} {k : Nat} {z : Ak} (h : zk[k]? = some z) : (zk.take (k + 1)).map Ak.req = (zk.take k).map Ak.req ++ [z.req] := by
  rw [List.take_add_one, h, List.map_append]
  rfl
end Go.Proofs.YtjphkpohcgkcmaaGreatDoor
