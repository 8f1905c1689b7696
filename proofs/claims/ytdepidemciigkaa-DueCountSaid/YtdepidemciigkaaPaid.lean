/-
  The law's Paid.Payment by its contract: a right payment of small numbers.
-/
import Derived.Test.YtdepidemciigkaaPay
import Derived.Test.YtdepidemciigkaaPy8
import Derived.WalkKit
import Derived.Lib.Hide
namespace Go.Proofs.Ytdepidemciigkaa
open Go Go.RowKit
set_option linter.unusedVariables false

/-- A Paid's numbers. -/
structure Pd where
  f : Nat
  t : Nat
  a : Nat
  c : Nat
  r : Nat
  g : Nat
  u : Nat
  cl : Bool
structure Pd.fits (z : Pd) : Prop where
  f : z.f < 256
  t : z.t < 256
  a : z.a < 256
  c : z.c < 256
  r : z.r < 256
  g : z.g < 256
  u : z.u < 256
def Pd.val (z : Pd) : Value := .agg #[.int .u8 (z.f : Int), .int .u8 (z.t : Int), .int .u8 (z.a : Int), .int .u8 (z.c : Int), .int .u8 (z.r : Int), .int .u8 (z.g : Int), .int .u8 (z.u : Int), .bool z.cl]
def Pd.C (z : Pd) : Nat := z.c % (z.a + 2)
def Pd.R (z : Pd) : Nat := z.r % (z.C + 1)
def Pd.G (z : Pd) : Nat := z.g % (z.C - z.R + 1)
/-- The payment of a Paid. -/
def Pd.pay (z : Pd) : Py :=
  ⟨9 + ((z.f % 6 : Nat) : Int), 9 + ((z.t % 6 : Nat) : Int), 1 + (z.a : Int), (z.C : Int), (z.R : Int), (z.G : Int), ((z.u % 20 : Nat) : Int), if z.cl = true ∨ (z.C : Int) = 1 + (z.a : Int) then 1 else 0⟩

theorem Pd.C_lt (z : Pd) : z.C < z.a + 2 := Nat.mod_lt _ (by omega)
theorem Pd.R_lt (z : Pd) : z.R < z.C + 1 := Nat.mod_lt _ (by omega)
theorem Pd.G_lt (z : Pd) : z.G < z.C - z.R + 1 := Nat.mod_lt _ (by omega)
theorem Pd.right (z : Pd) (h : z.fits) : z.pay.right := by
  have h1 := h.a
  have h2 := z.C_lt
  have h3 := z.R_lt
  have h4 := z.G_lt
  have h5 : (if z.cl = true ∨ (z.C : Int) = 1 + (z.a : Int) then (1 : Int) else 0) = 0 ∨ (if z.cl = true ∨ (z.C : Int) = 1 + (z.a : Int) then (1 : Int) else 0) = 1 := by split <;> simp
  unfold Pd.pay Py.right backOk
  dsimp only
  refine ⟨by omega, by omega, by omega, by omega, h5⟩
theorem Py.right.fits {p : Py} (h : p.right) (h1 : in64 p.frm) (h2 : in64 p.dst) : p.fits := by
  unfold Py.right backOk at h
  unfold Py.fits
  unfold in64 at *
  refine ⟨h1, h2, by omega, by omega, by omega, by omega, by omega, by omega⟩
theorem Pd.pay_fits (z : Pd) (h : z.fits) : z.pay.fits := by
  refine (z.right h).fits ?_ ?_ <;> (unfold in64 Pd.pay; dsimp only; omega)

/-- The middle one of three new blocks. -/
theorem heap_mid3 (w : World) (A B C : Obj) : (((w.alloc A).alloc B).alloc C).heap[w.heap.size + 1]? = some B := by
  rw [Below.heap_alloc _ _ _ (by simp)]
  exact heap_alloc2_new w A B
theorem below_3 (w : World) (A B C : Obj) : Below w.heap.size w (((w.alloc A).alloc B).alloc C) :=
  (((Below.refl _ _).alloc (Nat.le_refl _) _).alloc (by simp) _).alloc (by simp; omega) _
/-- A payment, and nothing below is turned. -/
def PyRes (w : World) (r : Py) (e : Ending) (w' : World) : Prop := e = .returned r.val ∧ Below w.heap.size w w'

set_option maxRecDepth 100000 in
set_option maxHeartbeats 1000000 in
theorem paid_any (z : Pd) (hf : z.fits) (w : World) : Calls Try.prog 16 #[z.val] w (PyRes w z.pay) := by
  have hC := z.C_lt
  have hR := z.R_lt
  have hG := z.G_lt
  obtain ⟨f0, f1, f2, f3, f4, f5, f6⟩ := hf
  unfold Pd.pay PyRes
  obtain ⟨C, eC⟩ : ∃ x, z.C = x := ⟨_, rfl⟩
  obtain ⟨R, eR⟩ : ∃ x, z.R = x := ⟨_, rfl⟩
  obtain ⟨G, eG⟩ : ∃ x, z.G = x := ⟨_, rfl⟩
  have mC : (z.c : Int) % (1 + (z.a : Int) + 1) = (C : Int) := by
    rw [← eC]; unfold Pd.C; rw [Int.natCast_emod]; congr 1; omega
  have mR : (z.r : Int) % ((C : Int) + 1) = (R : Int) := by
    rw [← eR]; unfold Pd.R; rw [eC, Int.natCast_emod]; congr 1
  rw [eC, eR, eG]
  rw [eC] at hC
  rw [eC, eR] at hR
  rw [eC, eR, eG] at hG
  have mG : (z.g : Int) % ((C : Int) - (R : Int) + 1) = (G : Int) := by
    rw [← eG]; unfold Pd.G; rw [eC, eR, Int.natCast_emod]; congr 1; omega
  obtain ⟨f, t, a, c, r, g, u, cl⟩ := z
  dsimp only at f0 f1 f2 f3 f4 f5 f6 hC mC mR mG ⊢
  clear eC eR eG
  obtain ⟨x6, h6⟩ : ∃ x : Nat, f % 6 = x := ⟨_, rfl⟩
  obtain ⟨y6, g6⟩ : ∃ x : Nat, t % 6 = x := ⟨_, rfl⟩
  obtain ⟨u2, gu⟩ : ∃ x : Nat, u % 20 = x := ⟨_, rfl⟩
  rw [h6, g6, gu]
  have h6' : (f : Int) % 6 = (x6 : Int) := by omega
  have g6' : (t : Int) % 6 = (y6 : Int) := by omega
  have gu' : (u : Int) % 20 = (u2 : Int) := by omega
  have l6 : x6 < 6 := by omega
  have m6 : y6 < 6 := by omega
  have lu : u2 < 20 := by omega
  clear h6 g6 gu
  unfold Pd.val Py.val
  dsimp only
  by_cases q : (C : Int) = 1 + (a : Int)
  · have q1 := eqT q
    have hS : (if cl = true ∨ (C : Int) = 1 + (a : Int) then (1 : Int) else 0) = 1 := if_pos (.inr q)
    rw [hS]
    clear hS q
    cases cl
    all_goals
      go_enter Try.func16, Try.ntmps16
      go_wp2
      refine bodyPost_ret (results_cell_row (p := 2) (ty := 33) rfl _ _ (w.heap.size + 1) _ _ (0, 0) _ rfl (heap_mid3 _ _ _ _) Try.underlying33 rfl (by kernel_rfl)) rfl ?_
      exact ⟨rfl, below_3 _ _ _ _⟩
  · have q1 := eqF q
    cases cl
    · have hS : (if false = true ∨ (C : Int) = 1 + (a : Int) then (1 : Int) else 0) = 0 := if_neg (by simp [q])
      rw [hS]
      clear hS q
      go_enter Try.func16, Try.ntmps16
      go_wp2
      refine bodyPost_ret (results_cell_row (p := 2) (ty := 33) rfl _ _ (w.heap.size + 1) _ _ (0, 0) _ rfl (heap_mid3 _ _ _ _) Try.underlying33 rfl (by kernel_rfl)) rfl ?_
      exact ⟨rfl, below_3 _ _ _ _⟩
    · have hS : (if true = true ∨ (C : Int) = 1 + (a : Int) then (1 : Int) else 0) = 1 := if_pos (.inl rfl)
      rw [hS]
      clear hS q
      go_enter Try.func16, Try.ntmps16
      go_wp2
      refine bodyPost_ret (results_cell_row (p := 2) (ty := 33) rfl _ _ (w.heap.size + 1) _ _ (0, 0) _ rfl (heap_mid3 _ _ _ _) Try.underlying33 rfl (by kernel_rfl)) rfl ?_
      exact ⟨rfl, below_3 _ _ _ _⟩
end Go.Proofs.Ytdepidemciigkaa
