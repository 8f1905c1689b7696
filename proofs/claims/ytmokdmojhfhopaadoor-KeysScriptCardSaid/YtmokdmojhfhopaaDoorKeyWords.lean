/-
  What was put, and told, in plain words; the first elements of a slice.
-/
import Derived.Test.YtmokdmojhfhopaaDoorKeyAwake
import Derived.Test.YtmokdmojhfhopaaDoorKeySame
import Derived.Test.YtmokdmojhfhopaaDoorKeyArg
import Derived.Test.YtmokdmojhfhopaaDoorNumberOf
import Derived.Lib.SliceRun
namespace Go.Proofs.YtmokdmojhfhopaaDoor
open Go Go.RowKit
set_option linter.unusedVariables false

theorem putE_zero {ks : List Kn} {r : Rq} (h : putE ks r = 0) : findN ks r.key = none ∧ ks.length < 256 ∧ putL ks r = ks ++ [⟨r, 0, 0, false⟩] := by
  unfold putE at h
  by_cases h1 : findN ks r.key = none
  · rw [if_pos h1] at h
    by_cases h2 : 256 ≤ ks.length
    · rw [if_pos h2] at h; omega
    · exact ⟨h1, by omega, (putE_ok h1 (by omega)).2⟩
  · rw [if_neg h1] at h; omega
theorem putL_no {ks : List Kn} {r : Rq} (h : putE ks r ≠ 0) : putL ks r = [] := by unfold putL; rw [if_neg h]

section
variable {ks : List Kn} {r : Rq} (e x : Int) (h : findN ks r.key = none)
include h
theorem put_find : findN (ks ++ [⟨r, 0, 0, false⟩]) r.key = some ks.length := by rw [find_snoc, h]; simp
theorem put_told : tellE (ks ++ [⟨r, 0, 0, false⟩]) r.key = 0 ∧ tellL (ks ++ [⟨r, 0, 0, false⟩]) r.key e x = ks ++ [⟨r, e, x, true⟩] := by
  have h1 := tell_ok (key := r.key) e x (put_find h) (a := ⟨r, 0, 0, false⟩) (by simp) rfl
  refine ⟨h1.1, h1.2.trans ?_⟩
  rw [List.set_append_right _ _ (Nat.le_refl _), Nat.sub_self]
  rfl
theorem told_find : findN (ks ++ [⟨r, e, x, true⟩]) r.key = some ks.length := by rw [find_snoc, h]; simp
theorem told_ask : askR (ks ++ [⟨r, e, x, true⟩]) r = (e, x, true) := by
  rw [askR_some (told_find e x h) (a := ⟨r, e, x, true⟩) (by simp)]; simp
theorem told_tell (y z : Int) : tellE (ks ++ [⟨r, e, x, true⟩]) r.key = 6 ∧ tellL (ks ++ [⟨r, e, x, true⟩]) r.key y z = [] := tell_told y z (told_find e x h) (a := ⟨r, e, x, true⟩) (by simp) rfl
theorem told_put : putE (ks ++ [⟨r, e, x, true⟩]) r = 5 ∧ putL (ks ++ [⟨r, e, x, true⟩]) r = [] := putE_key (told_find e x h)
theorem told_other {q : Rq} (hk : q.key = r.key) (hq : r ≠ q) : askR (ks ++ [⟨r, e, x, true⟩]) q = (5, 0, true) := by
  have hf : findN (ks ++ [⟨r, e, x, true⟩]) q.key = some ks.length := by rw [hk]; exact told_find e x h
  rw [askR_some hf (a := ⟨r, e, x, true⟩) (by simp)]
  exact if_neg hq
theorem put_ask : askR (ks ++ [⟨r, 0, 0, false⟩]) r = (10, 0, true) := by
  rw [askR_some (put_find h) (a := ⟨r, 0, 0, false⟩) (by simp)]; simp
end

theorem kns_slice : Tryd.prog.underlying 24 = some (.slice (Tryd.prog.elem 24)) := by kernel_rfl
theorem kns_size (W : World) : (sizeOf (Tryd.prog.elem 24)).run Tryd.prog W = .ok 10 W := by kernel_rfl
theorem run_frontK (W : World) (A : Option Addr) (n c k : Nat) (hk : k ≤ c) : (Instr.sliceAt 24 (.slice A n c) none (some (.int .i64 (k : Int))) none).run Tryd.prog W = .ok (.slice A k c) W := by
  rw [run_sliceAt_slice _ _ _ _ _ _ kns_slice, run_slice_h W _ _ _ _ kns_slice _ _ (by omega) (by omega), kns_size]
  have e : (A.map fun x => x.add 0) = A := by cases A <;> simp [Addr.add]
  simp [Result.andThen, sliced, e]
theorem wrap_next {b : Int} (h : inI b) : ¬ b = wrap64 (b + 1) := by
  unfold inI at h
  simp only [wrap64]
  omega
end Go.Proofs.YtmokdmojhfhopaaDoor
