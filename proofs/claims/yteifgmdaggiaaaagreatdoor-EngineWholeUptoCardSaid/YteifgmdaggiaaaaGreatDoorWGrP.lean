/-
  The law's Ask.Request by its contract: a request that may be, of small numbers.
  Slices of the law's Ask: their shape, cells, and one that came in.
-/
import Derived.Test.YteifgmdaggiaaaaGreatDoorWGrN
import Derived.Test.YteifgmdaggiaaaaGreatDoorWGrA
namespace Go.Proofs.YteifgmdaggiaaaaGreatDoor
open Go Go.RowKit
set_option linter.unusedVariables false
/-- An ask's numbers. -/
structure Ak where
 key : Nat
 op : Nat
 a : Nat
 b : Nat
 amt : Nat
 legs : Nat
 til : Nat
structure Ak.fits (z : Ak) : Prop where
 key : z.key < 256
 op : z.op < 256
 a : z.a < 256
 b : z.b < 256
 amt : z.amt < 65536
 legs : z.legs < 256
 til : z.til < 256
def Ak.val (z : Ak) : Value := .agg #[.int .u8 (z.key : Int), .int .u8 (z.op : Int), .int .u8 (z.a : Int), .int .u8 (z.b : Int), .int .u16 (z.amt : Int), .int .u8 (z.legs : Int), .int .u8 (z.til : Int)]
/-- The request of an ask. -/
def Ak.req (z : Ak) : Rq :=
 ⟨(z.key : Int), ((z.op % 8 : Nat) : Int), ((if z.op % 8 = 0 then z.a % 3 else if z.op % 8 ≤ 3 then 9 + z.a % 6 else z.a % 5 : Nat) : Int), ((9 + z.b % 6 : Nat) : Int), ((1 + z.amt % 2000 : Nat) : Int),
   ((if z.op % 8 = 2 then z.legs % 5 else 0 : Nat) : Int), ((if z.op % 8 = 3 then z.til % 12 else 0 : Nat) : Int)⟩
/-- The middle one of three new blocks. -/
theorem heap_mid (w : World) (A B C : Obj) : (((w.alloc A).alloc B).alloc C).heap[w.heap.size + 1]? = some B := by
 rw [Below.heap_alloc _ _ _ (by simp)]
 exact heap_alloc2_new w A B
theorem below_three (w : World) (A B C : Obj) : Below w.heap.size w (((w.alloc A).alloc B).alloc C) :=
 (((Below.refl _ _).alloc (Nat.le_refl _) _).alloc (by simp) _).alloc (by simp; omega) _
/-- It hands back a request, and turns nothing below. -/
def AskRes (w : World) (r : Rq) (e : Ending) (w' : World) : Prop := e = .returned r.val ∧ Below w.heap.size w w'
/-- A request's cells, an ask's. -/
def Rq.obj (r : Rq) : Obj := .cells #[.int .i64 r.key, .int .i64 r.op, .int .i64 r.a, .int .i64 r.b, .int .i64 r.amt, .int .i64 r.legs, .int .i64 r.til] 42
def Ak.obj (z : Ak) : Obj := .cells #[.int .u8 (z.key : Int), .int .u8 (z.op : Int), .int .u8 (z.a : Int), .int .u8 (z.b : Int), .int .u16 (z.amt : Int), .int .u8 (z.legs : Int), .int .u8 (z.til : Int)] 39
/-- The same, with the world behind it. -/
def AskIs (w : World) (z : Ak) (r : Rq) (e : Ending) (w' : World) : Prop := e = .returned r.val ∧ w' = ((w.alloc z.obj).alloc r.obj).alloc r.obj
set_option maxRecDepth 100000 in
set_option maxHeartbeats 1000000 in
theorem ask_0 (z : Ak) (hf : z.fits) (w : World) (h0 : z.op % 8 = 0) : Calls Tryz.prog 11 #[z.val] w (AskIs w z z.req) := by
 obtain ⟨k, o, a, b, m, l, u⟩ := z
 obtain ⟨f0, f1, f2, f3, f4, f5, f6⟩ := hf
 dsimp only at f0 f1 f2 f3 f4 f5 f6 h0
 obtain ⟨a6, h6⟩ : ∃ x : Nat, a % 6 = x := ⟨_, rfl⟩
 obtain ⟨a3, h3⟩ : ∃ x : Nat, a % 3 = x := ⟨_, rfl⟩
 obtain ⟨a5, h5⟩ : ∃ x : Nat, a % 5 = x := ⟨_, rfl⟩
 obtain ⟨b6, g6⟩ : ∃ x : Nat, b % 6 = x := ⟨_, rfl⟩
 obtain ⟨mm, gm⟩ : ∃ x : Nat, m % 2000 = x := ⟨_, rfl⟩
 obtain ⟨l5, gl⟩ : ∃ x : Nat, l % 5 = x := ⟨_, rfl⟩
 obtain ⟨u2, gu⟩ : ∃ x : Nat, u % 12 = x := ⟨_, rfl⟩
 have hE : Ak.req ⟨k, o, a, b, m, l, u⟩ = ⟨(k : Int), 0, (a3 : Int), 9 + (b6 : Int), 1 + (mm : Int), 0, 0⟩ := by
  unfold Ak.req
  dsimp only
  rw [h0, h6, h3, h5, g6, gm, gl, gu]
  rfl
 rw [hE]
 have e0 : (o : Int) % 8 = 0 := by omega
 have h6' : (a : Int) % 6 = (a6 : Int) := by omega
 have h3' : (a : Int) % 3 = (a3 : Int) := by omega
 have h5' : (a : Int) % 5 = (a5 : Int) := by omega
 have g6' : (b : Int) % 6 = (b6 : Int) := by omega
 have gm' : (m : Int) % 2000 = (mm : Int) := by omega
 have gl' : (l : Int) % 5 = (l5 : Int) := by omega
 have gu' : (u : Int) % 12 = (u2 : Int) := by omega
 have l6 : a6 < 6 := by omega
 have l3 : a3 < 3 := by omega
 have l5' : a5 < 5 := by omega
 have lb : b6 < 6 := by omega
 have lm : mm < 2000 := by omega
 have ll : l5 < 5 := by omega
 have lu : u2 < 12 := by omega
 unfold Ak.val AskIs Ak.obj Rq.obj Rq.val
 dsimp only
 clear h0 h6 h3 h5 g6 gm gl gu hE
 go_enter Tryz.func11, Tryz.ntmps11
 go_wp2
 refine bodyPost_ret (results_cell_row (p := 2) (ty := 42) rfl _ _ (w.heap.size + 1) _ _ (0, 0) _ rfl (heap_mid _ _ _ _) Tryz.underlying42 rfl (by kernel_rfl)) rfl ?_
 exact ⟨rfl, rfl⟩
set_option maxRecDepth 100000 in
set_option maxHeartbeats 1000000 in
theorem ask_1 (z : Ak) (hf : z.fits) (w : World) (h0 : z.op % 8 = 1) : Calls Tryz.prog 11 #[z.val] w (AskIs w z z.req) := by
 obtain ⟨k, o, a, b, m, l, u⟩ := z
 obtain ⟨f0, f1, f2, f3, f4, f5, f6⟩ := hf
 dsimp only at f0 f1 f2 f3 f4 f5 f6 h0
 obtain ⟨a6, h6⟩ : ∃ x : Nat, a % 6 = x := ⟨_, rfl⟩
 obtain ⟨a3, h3⟩ : ∃ x : Nat, a % 3 = x := ⟨_, rfl⟩
 obtain ⟨a5, h5⟩ : ∃ x : Nat, a % 5 = x := ⟨_, rfl⟩
 obtain ⟨b6, g6⟩ : ∃ x : Nat, b % 6 = x := ⟨_, rfl⟩
 obtain ⟨mm, gm⟩ : ∃ x : Nat, m % 2000 = x := ⟨_, rfl⟩
 obtain ⟨l5, gl⟩ : ∃ x : Nat, l % 5 = x := ⟨_, rfl⟩
 obtain ⟨u2, gu⟩ : ∃ x : Nat, u % 12 = x := ⟨_, rfl⟩
 have hE : Ak.req ⟨k, o, a, b, m, l, u⟩ = ⟨(k : Int), 1, 9 + (a6 : Int), 9 + (b6 : Int), 1 + (mm : Int), 0, 0⟩ := by
  unfold Ak.req
  dsimp only
  rw [h0, h6, h3, h5, g6, gm, gl, gu]
  rfl
 rw [hE]
 have e0 : (o : Int) % 8 = 1 := by omega
 have h6' : (a : Int) % 6 = (a6 : Int) := by omega
 have h3' : (a : Int) % 3 = (a3 : Int) := by omega
 have h5' : (a : Int) % 5 = (a5 : Int) := by omega
 have g6' : (b : Int) % 6 = (b6 : Int) := by omega
 have gm' : (m : Int) % 2000 = (mm : Int) := by omega
 have gl' : (l : Int) % 5 = (l5 : Int) := by omega
 have gu' : (u : Int) % 12 = (u2 : Int) := by omega
 have l6 : a6 < 6 := by omega
 have l3 : a3 < 3 := by omega
 have l5' : a5 < 5 := by omega
 have lb : b6 < 6 := by omega
 have lm : mm < 2000 := by omega
 have ll : l5 < 5 := by omega
 have lu : u2 < 12 := by omega
 unfold Ak.val AskIs Ak.obj Rq.obj Rq.val
 dsimp only
 clear h0 h6 h3 h5 g6 gm gl gu hE
 go_enter Tryz.func11, Tryz.ntmps11
 go_wp2
 refine bodyPost_ret (results_cell_row (p := 2) (ty := 42) rfl _ _ (w.heap.size + 1) _ _ (0, 0) _ rfl (heap_mid _ _ _ _) Tryz.underlying42 rfl (by kernel_rfl)) rfl ?_
 exact ⟨rfl, rfl⟩
set_option maxRecDepth 100000 in
set_option maxHeartbeats 1000000 in
theorem ask_2 (z : Ak) (hf : z.fits) (w : World) (h0 : z.op % 8 = 2) : Calls Tryz.prog 11 #[z.val] w (AskIs w z z.req) := by
 obtain ⟨k, o, a, b, m, l, u⟩ := z
 obtain ⟨f0, f1, f2, f3, f4, f5, f6⟩ := hf
 dsimp only at f0 f1 f2 f3 f4 f5 f6 h0
 obtain ⟨a6, h6⟩ : ∃ x : Nat, a % 6 = x := ⟨_, rfl⟩
 obtain ⟨a3, h3⟩ : ∃ x : Nat, a % 3 = x := ⟨_, rfl⟩
 obtain ⟨a5, h5⟩ : ∃ x : Nat, a % 5 = x := ⟨_, rfl⟩
 obtain ⟨b6, g6⟩ : ∃ x : Nat, b % 6 = x := ⟨_, rfl⟩
 obtain ⟨mm, gm⟩ : ∃ x : Nat, m % 2000 = x := ⟨_, rfl⟩
 obtain ⟨l5, gl⟩ : ∃ x : Nat, l % 5 = x := ⟨_, rfl⟩
 obtain ⟨u2, gu⟩ : ∃ x : Nat, u % 12 = x := ⟨_, rfl⟩
 have hE : Ak.req ⟨k, o, a, b, m, l, u⟩ = ⟨(k : Int), 2, 9 + (a6 : Int), 9 + (b6 : Int), 1 + (mm : Int), (l5 : Int), 0⟩ := by
  unfold Ak.req
  dsimp only
  rw [h0, h6, h3, h5, g6, gm, gl, gu]
  rfl
 rw [hE]
 have e0 : (o : Int) % 8 = 2 := by omega
 have h6' : (a : Int) % 6 = (a6 : Int) := by omega
 have h3' : (a : Int) % 3 = (a3 : Int) := by omega
 have h5' : (a : Int) % 5 = (a5 : Int) := by omega
 have g6' : (b : Int) % 6 = (b6 : Int) := by omega
 have gm' : (m : Int) % 2000 = (mm : Int) := by omega
 have gl' : (l : Int) % 5 = (l5 : Int) := by omega
 have gu' : (u : Int) % 12 = (u2 : Int) := by omega
 have l6 : a6 < 6 := by omega
 have l3 : a3 < 3 := by omega
 have l5' : a5 < 5 := by omega
 have lb : b6 < 6 := by omega
 have lm : mm < 2000 := by omega
 have ll : l5 < 5 := by omega
 have lu : u2 < 12 := by omega
 unfold Ak.val AskIs Ak.obj Rq.obj Rq.val
 dsimp only
 clear h0 h6 h3 h5 g6 gm gl gu hE
 go_enter Tryz.func11, Tryz.ntmps11
 go_wp2
 refine bodyPost_ret (results_cell_row (p := 2) (ty := 42) rfl _ _ (w.heap.size + 1) _ _ (0, 0) _ rfl (heap_mid _ _ _ _) Tryz.underlying42 rfl (by kernel_rfl)) rfl ?_
 exact ⟨rfl, rfl⟩
set_option maxRecDepth 100000 in
set_option maxHeartbeats 1000000 in
theorem ask_3 (z : Ak) (hf : z.fits) (w : World) (h0 : z.op % 8 = 3) : Calls Tryz.prog 11 #[z.val] w (AskIs w z z.req) := by
 obtain ⟨k, o, a, b, m, l, u⟩ := z
 obtain ⟨f0, f1, f2, f3, f4, f5, f6⟩ := hf
 dsimp only at f0 f1 f2 f3 f4 f5 f6 h0
 obtain ⟨a6, h6⟩ : ∃ x : Nat, a % 6 = x := ⟨_, rfl⟩
 obtain ⟨a3, h3⟩ : ∃ x : Nat, a % 3 = x := ⟨_, rfl⟩
 obtain ⟨a5, h5⟩ : ∃ x : Nat, a % 5 = x := ⟨_, rfl⟩
 obtain ⟨b6, g6⟩ : ∃ x : Nat, b % 6 = x := ⟨_, rfl⟩
 obtain ⟨mm, gm⟩ : ∃ x : Nat, m % 2000 = x := ⟨_, rfl⟩
 obtain ⟨l5, gl⟩ : ∃ x : Nat, l % 5 = x := ⟨_, rfl⟩
 obtain ⟨u2, gu⟩ : ∃ x : Nat, u % 12 = x := ⟨_, rfl⟩
 have hE : Ak.req ⟨k, o, a, b, m, l, u⟩ = ⟨(k : Int), 3, 9 + (a6 : Int), 9 + (b6 : Int), 1 + (mm : Int), 0, (u2 : Int)⟩ := by
  unfold Ak.req
  dsimp only
  rw [h0, h6, h3, h5, g6, gm, gl, gu]
  rfl
 rw [hE]
 have e0 : (o : Int) % 8 = 3 := by omega
 have h6' : (a : Int) % 6 = (a6 : Int) := by omega
 have h3' : (a : Int) % 3 = (a3 : Int) := by omega
 have h5' : (a : Int) % 5 = (a5 : Int) := by omega
 have g6' : (b : Int) % 6 = (b6 : Int) := by omega
 have gm' : (m : Int) % 2000 = (mm : Int) := by omega
 have gl' : (l : Int) % 5 = (l5 : Int) := by omega
 have gu' : (u : Int) % 12 = (u2 : Int) := by omega
 have l6 : a6 < 6 := by omega
 have l3 : a3 < 3 := by omega
 have l5' : a5 < 5 := by omega
 have lb : b6 < 6 := by omega
 have lm : mm < 2000 := by omega
 have ll : l5 < 5 := by omega
 have lu : u2 < 12 := by omega
 unfold Ak.val AskIs Ak.obj Rq.obj Rq.val
 dsimp only
 clear h0 h6 h3 h5 g6 gm gl gu hE
 go_enter Tryz.func11, Tryz.ntmps11
 go_wp2
 refine bodyPost_ret (results_cell_row (p := 2) (ty := 42) rfl _ _ (w.heap.size + 1) _ _ (0, 0) _ rfl (heap_mid _ _ _ _) Tryz.underlying42 rfl (by kernel_rfl)) rfl ?_
 exact ⟨rfl, rfl⟩
set_option maxRecDepth 100000 in
set_option maxHeartbeats 1000000 in
theorem ask_4 (z : Ak) (hf : z.fits) (w : World) (h0 : z.op % 8 = 4) : Calls Tryz.prog 11 #[z.val] w (AskIs w z z.req) := by
 obtain ⟨k, o, a, b, m, l, u⟩ := z
 obtain ⟨f0, f1, f2, f3, f4, f5, f6⟩ := hf
 dsimp only at f0 f1 f2 f3 f4 f5 f6 h0
 obtain ⟨a6, h6⟩ : ∃ x : Nat, a % 6 = x := ⟨_, rfl⟩
 obtain ⟨a3, h3⟩ : ∃ x : Nat, a % 3 = x := ⟨_, rfl⟩
 obtain ⟨a5, h5⟩ : ∃ x : Nat, a % 5 = x := ⟨_, rfl⟩
 obtain ⟨b6, g6⟩ : ∃ x : Nat, b % 6 = x := ⟨_, rfl⟩
 obtain ⟨mm, gm⟩ : ∃ x : Nat, m % 2000 = x := ⟨_, rfl⟩
 obtain ⟨l5, gl⟩ : ∃ x : Nat, l % 5 = x := ⟨_, rfl⟩
 obtain ⟨u2, gu⟩ : ∃ x : Nat, u % 12 = x := ⟨_, rfl⟩
 have hE : Ak.req ⟨k, o, a, b, m, l, u⟩ = ⟨(k : Int), 4, (a5 : Int), 9 + (b6 : Int), 1 + (mm : Int), 0, 0⟩ := by
  unfold Ak.req
  dsimp only
  rw [h0, h6, h3, h5, g6, gm, gl, gu]
  rfl
 rw [hE]
 have e0 : (o : Int) % 8 = 4 := by omega
 have h6' : (a : Int) % 6 = (a6 : Int) := by omega
 have h3' : (a : Int) % 3 = (a3 : Int) := by omega
 have h5' : (a : Int) % 5 = (a5 : Int) := by omega
 have g6' : (b : Int) % 6 = (b6 : Int) := by omega
 have gm' : (m : Int) % 2000 = (mm : Int) := by omega
 have gl' : (l : Int) % 5 = (l5 : Int) := by omega
 have gu' : (u : Int) % 12 = (u2 : Int) := by omega
 have l6 : a6 < 6 := by omega
 have l3 : a3 < 3 := by omega
 have l5' : a5 < 5 := by omega
 have lb : b6 < 6 := by omega
 have lm : mm < 2000 := by omega
 have ll : l5 < 5 := by omega
 have lu : u2 < 12 := by omega
 unfold Ak.val AskIs Ak.obj Rq.obj Rq.val
 dsimp only
 clear h0 h6 h3 h5 g6 gm gl gu hE
 go_enter Tryz.func11, Tryz.ntmps11
 go_wp2
 refine bodyPost_ret (results_cell_row (p := 2) (ty := 42) rfl _ _ (w.heap.size + 1) _ _ (0, 0) _ rfl (heap_mid _ _ _ _) Tryz.underlying42 rfl (by kernel_rfl)) rfl ?_
 exact ⟨rfl, rfl⟩
set_option maxRecDepth 100000 in
set_option maxHeartbeats 1000000 in
theorem ask_5 (z : Ak) (hf : z.fits) (w : World) (h0 : z.op % 8 = 5) : Calls Tryz.prog 11 #[z.val] w (AskIs w z z.req) := by
 obtain ⟨k, o, a, b, m, l, u⟩ := z
 obtain ⟨f0, f1, f2, f3, f4, f5, f6⟩ := hf
 dsimp only at f0 f1 f2 f3 f4 f5 f6 h0
 obtain ⟨a6, h6⟩ : ∃ x : Nat, a % 6 = x := ⟨_, rfl⟩
 obtain ⟨a3, h3⟩ : ∃ x : Nat, a % 3 = x := ⟨_, rfl⟩
 obtain ⟨a5, h5⟩ : ∃ x : Nat, a % 5 = x := ⟨_, rfl⟩
 obtain ⟨b6, g6⟩ : ∃ x : Nat, b % 6 = x := ⟨_, rfl⟩
 obtain ⟨mm, gm⟩ : ∃ x : Nat, m % 2000 = x := ⟨_, rfl⟩
 obtain ⟨l5, gl⟩ : ∃ x : Nat, l % 5 = x := ⟨_, rfl⟩
 obtain ⟨u2, gu⟩ : ∃ x : Nat, u % 12 = x := ⟨_, rfl⟩
 have hE : Ak.req ⟨k, o, a, b, m, l, u⟩ = ⟨(k : Int), 5, (a5 : Int), 9 + (b6 : Int), 1 + (mm : Int), 0, 0⟩ := by
  unfold Ak.req
  dsimp only
  rw [h0, h6, h3, h5, g6, gm, gl, gu]
  rfl
 rw [hE]
 have e0 : (o : Int) % 8 = 5 := by omega
 have h6' : (a : Int) % 6 = (a6 : Int) := by omega
 have h3' : (a : Int) % 3 = (a3 : Int) := by omega
 have h5' : (a : Int) % 5 = (a5 : Int) := by omega
 have g6' : (b : Int) % 6 = (b6 : Int) := by omega
 have gm' : (m : Int) % 2000 = (mm : Int) := by omega
 have gl' : (l : Int) % 5 = (l5 : Int) := by omega
 have gu' : (u : Int) % 12 = (u2 : Int) := by omega
 have l6 : a6 < 6 := by omega
 have l3 : a3 < 3 := by omega
 have l5' : a5 < 5 := by omega
 have lb : b6 < 6 := by omega
 have lm : mm < 2000 := by omega
 have ll : l5 < 5 := by omega
 have lu : u2 < 12 := by omega
 unfold Ak.val AskIs Ak.obj Rq.obj Rq.val
 dsimp only
 clear h0 h6 h3 h5 g6 gm gl gu hE
 go_enter Tryz.func11, Tryz.ntmps11
 go_wp2
 refine bodyPost_ret (results_cell_row (p := 2) (ty := 42) rfl _ _ (w.heap.size + 1) _ _ (0, 0) _ rfl (heap_mid _ _ _ _) Tryz.underlying42 rfl (by kernel_rfl)) rfl ?_
 exact ⟨rfl, rfl⟩
set_option maxRecDepth 100000 in
set_option maxHeartbeats 1000000 in
theorem ask_6 (z : Ak) (hf : z.fits) (w : World) (h0 : z.op % 8 = 6) : Calls Tryz.prog 11 #[z.val] w (AskIs w z z.req) := by
 obtain ⟨k, o, a, b, m, l, u⟩ := z
 obtain ⟨f0, f1, f2, f3, f4, f5, f6⟩ := hf
 dsimp only at f0 f1 f2 f3 f4 f5 f6 h0
 obtain ⟨a6, h6⟩ : ∃ x : Nat, a % 6 = x := ⟨_, rfl⟩
 obtain ⟨a3, h3⟩ : ∃ x : Nat, a % 3 = x := ⟨_, rfl⟩
 obtain ⟨a5, h5⟩ : ∃ x : Nat, a % 5 = x := ⟨_, rfl⟩
 obtain ⟨b6, g6⟩ : ∃ x : Nat, b % 6 = x := ⟨_, rfl⟩
 obtain ⟨mm, gm⟩ : ∃ x : Nat, m % 2000 = x := ⟨_, rfl⟩
 obtain ⟨l5, gl⟩ : ∃ x : Nat, l % 5 = x := ⟨_, rfl⟩
 obtain ⟨u2, gu⟩ : ∃ x : Nat, u % 12 = x := ⟨_, rfl⟩
 have hE : Ak.req ⟨k, o, a, b, m, l, u⟩ = ⟨(k : Int), 6, (a5 : Int), 9 + (b6 : Int), 1 + (mm : Int), 0, 0⟩ := by
  unfold Ak.req
  dsimp only
  rw [h0, h6, h3, h5, g6, gm, gl, gu]
  rfl
 rw [hE]
 have e0 : (o : Int) % 8 = 6 := by omega
 have h6' : (a : Int) % 6 = (a6 : Int) := by omega
 have h3' : (a : Int) % 3 = (a3 : Int) := by omega
 have h5' : (a : Int) % 5 = (a5 : Int) := by omega
 have g6' : (b : Int) % 6 = (b6 : Int) := by omega
 have gm' : (m : Int) % 2000 = (mm : Int) := by omega
 have gl' : (l : Int) % 5 = (l5 : Int) := by omega
 have gu' : (u : Int) % 12 = (u2 : Int) := by omega
 have l6 : a6 < 6 := by omega
 have l3 : a3 < 3 := by omega
 have l5' : a5 < 5 := by omega
 have lb : b6 < 6 := by omega
 have lm : mm < 2000 := by omega
 have ll : l5 < 5 := by omega
 have lu : u2 < 12 := by omega
 unfold Ak.val AskIs Ak.obj Rq.obj Rq.val
 dsimp only
 clear h0 h6 h3 h5 g6 gm gl gu hE
 go_enter Tryz.func11, Tryz.ntmps11
 go_wp2
 refine bodyPost_ret (results_cell_row (p := 2) (ty := 42) rfl _ _ (w.heap.size + 1) _ _ (0, 0) _ rfl (heap_mid _ _ _ _) Tryz.underlying42 rfl (by kernel_rfl)) rfl ?_
 exact ⟨rfl, rfl⟩
set_option maxRecDepth 100000 in
set_option maxHeartbeats 1000000 in
theorem ask_7 (z : Ak) (hf : z.fits) (w : World) (h0 : z.op % 8 = 7) : Calls Tryz.prog 11 #[z.val] w (AskIs w z z.req) := by
 obtain ⟨k, o, a, b, m, l, u⟩ := z
 obtain ⟨f0, f1, f2, f3, f4, f5, f6⟩ := hf
 dsimp only at f0 f1 f2 f3 f4 f5 f6 h0
 obtain ⟨a6, h6⟩ : ∃ x : Nat, a % 6 = x := ⟨_, rfl⟩
 obtain ⟨a3, h3⟩ : ∃ x : Nat, a % 3 = x := ⟨_, rfl⟩
 obtain ⟨a5, h5⟩ : ∃ x : Nat, a % 5 = x := ⟨_, rfl⟩
 obtain ⟨b6, g6⟩ : ∃ x : Nat, b % 6 = x := ⟨_, rfl⟩
 obtain ⟨mm, gm⟩ : ∃ x : Nat, m % 2000 = x := ⟨_, rfl⟩
 obtain ⟨l5, gl⟩ : ∃ x : Nat, l % 5 = x := ⟨_, rfl⟩
 obtain ⟨u2, gu⟩ : ∃ x : Nat, u % 12 = x := ⟨_, rfl⟩
 have hE : Ak.req ⟨k, o, a, b, m, l, u⟩ = ⟨(k : Int), 7, (a5 : Int), 9 + (b6 : Int), 1 + (mm : Int), 0, 0⟩ := by
  unfold Ak.req
  dsimp only
  rw [h0, h6, h3, h5, g6, gm, gl, gu]
  rfl
 rw [hE]
 have e0 : (o : Int) % 8 = 7 := by omega
 have h6' : (a : Int) % 6 = (a6 : Int) := by omega
 have h3' : (a : Int) % 3 = (a3 : Int) := by omega
 have h5' : (a : Int) % 5 = (a5 : Int) := by omega
 have g6' : (b : Int) % 6 = (b6 : Int) := by omega
 have gm' : (m : Int) % 2000 = (mm : Int) := by omega
 have gl' : (l : Int) % 5 = (l5 : Int) := by omega
 have gu' : (u : Int) % 12 = (u2 : Int) := by omega
 have l6 : a6 < 6 := by omega
 have l3 : a3 < 3 := by omega
 have l5' : a5 < 5 := by omega
 have lb : b6 < 6 := by omega
 have lm : mm < 2000 := by omega
 have ll : l5 < 5 := by omega
 have lu : u2 < 12 := by omega
 unfold Ak.val AskIs Ak.obj Rq.obj Rq.val
 dsimp only
 clear h0 h6 h3 h5 g6 gm gl gu hE
 go_enter Tryz.func11, Tryz.ntmps11
 go_wp2
 refine bodyPost_ret (results_cell_row (p := 2) (ty := 42) rfl _ _ (w.heap.size + 1) _ _ (0, 0) _ rfl (heap_mid _ _ _ _) Tryz.underlying42 rfl (by kernel_rfl)) rfl ?_
 exact ⟨rfl, rfl⟩
/-- An ask's request. -/
theorem ask_is (z : Ak) (hf : z.fits) (w : World) : Calls Tryz.prog 11 #[z.val] w (AskIs w z z.req) := by
 rcases (show z.op % 8 = 0 ∨ z.op % 8 = 1 ∨ z.op % 8 = 2 ∨ z.op % 8 = 3 ∨ z.op % 8 = 4 ∨ z.op % 8 = 5 ∨ z.op % 8 = 6 ∨ z.op % 8 = 7 by omega) with h | h | h | h | h | h | h | h
 · exact ask_0 z hf w h
 · exact ask_1 z hf w h
 · exact ask_2 z hf w h
 · exact ask_3 z hf w h
 · exact ask_4 z hf w h
 · exact ask_5 z hf w h
 · exact ask_6 z hf w h
 · exact ask_7 z hf w h
theorem ask_any (z : Ak) (hf : z.fits) (w : World) : Calls Tryz.prog 11 #[z.val] w (AskRes w z.req) := by
 refine (ask_is z hf w).mono ?_
 rintro _ _ ⟨rfl, rfl⟩
 exact ⟨rfl, below_three _ _ _ _⟩
end Go.Proofs.YteifgmdaggiaaaaGreatDoor
namespace Go.Proofs.YteifgmdaggiaaaaGreatDoor
open Go Go.RowKit Go.ChangeShapes Go.WideShapes Go.Deep Go.Joins
set_option linter.unusedVariables false
def Ak.cells (z : Ak) : List Value := [.int .u8 (z.key : Int), .int .u8 (z.op : Int), .int .u8 (z.a : Int), .int .u8 (z.b : Int), .int .u16 (z.amt : Int), .int .u8 (z.legs : Int), .int .u8 (z.til : Int)]
def asks : Shape Ak := ⟨7, 39, Ak.cells, by omega, fun _ => rfl, fun a u hu => by
  simp only [Ak.cells, List.mem_cons, List.not_mem_nil, or_false] at hu
  rcases hu with rfl | rfl | rfl | rfl | rfl | rfl | rfl <;> rfl⟩
/-- The cells of the Ask at j. -/
theorem ask_cells {w : World} {ad : Addr} {j : Nat} {k : Ak} (h : AtS asks w ad j k) :
  w.cell? (ad.add (j * 7)) = some (.int .u8 (k.key : Int)) ∧
  w.cell? ⟨(ad.add (j * 7)).block, (ad.add (j * 7)).off + 1, none⟩ = some (.int .u8 (k.op : Int)) ∧
  w.cell? ⟨(ad.add (j * 7)).block, (ad.add (j * 7)).off + 2, none⟩ = some (.int .u8 (k.a : Int)) ∧
  w.cell? ⟨(ad.add (j * 7)).block, (ad.add (j * 7)).off + 3, none⟩ = some (.int .u8 (k.b : Int)) ∧
  w.cell? ⟨(ad.add (j * 7)).block, (ad.add (j * 7)).off + 4, none⟩ = some (.int .u16 (k.amt : Int)) ∧
  w.cell? ⟨(ad.add (j * 7)).block, (ad.add (j * 7)).off + 5, none⟩ = some (.int .u8 (k.legs : Int)) ∧
  w.cell? ⟨(ad.add (j * 7)).block, (ad.add (j * 7)).off + 6, none⟩ = some (.int .u8 (k.til : Int)) := by
 refine ⟨h 0 _ rfl, ?_, ?_, ?_, ?_, ?_, ?_⟩ <;> rw [← add_next _ _ _ (by omega)]
 · exact h 1 _ rfl
 · exact h 2 _ rfl
 · exact h 3 _ rfl
 · exact h 4 _ rfl
 · exact h 5 _ rfl
 · exact h 6 _ rfl
section
variable {H : Type} {enc : TypeId × Value → H} {w : World} {base fuel : Nat} {spare : Nat → Bool} {held : Bool} {cs : List Value} {x : DataW H × List MemPlace}
set_option maxRecDepth 100000 in
theorem ak_of (h : DataW.trod enc Tryz.prog w base spare held fuel 39 cs = some x) : ∃ z : Ak, z.fits ∧ cs = asks.cells z := by
 have hl : cs.length = 7 := by obtain ⟨_, _, _, _, hl, _⟩ := DataW.trod_struct Tryz.underlying39 h; exact hl.trans (by kernel_rfl)
 obtain ⟨x0, e0, w0⟩ := trod_num Tryz.underlying39 h .u8 0 _ rfl 0 rfl (by kernel_rfl) (by kernel_rfl)
 obtain ⟨x1, e1, w1⟩ := trod_num Tryz.underlying39 h .u8 1 _ rfl 1 rfl (by kernel_rfl) (by kernel_rfl)
 obtain ⟨x2, e2, w2⟩ := trod_num Tryz.underlying39 h .u8 2 _ rfl 2 rfl (by kernel_rfl) (by kernel_rfl)
 obtain ⟨x3, e3, w3⟩ := trod_num Tryz.underlying39 h .u8 3 _ rfl 3 rfl (by kernel_rfl) (by kernel_rfl)
 obtain ⟨x4, e4, w4⟩ := trod_num Tryz.underlying39 h .u16 4 _ rfl 4 rfl (by kernel_rfl) (by kernel_rfl)
 obtain ⟨x5, e5, w5⟩ := trod_num Tryz.underlying39 h .u8 5 _ rfl 5 rfl (by kernel_rfl) (by kernel_rfl)
 obtain ⟨x6, e6, w6⟩ := trod_num Tryz.underlying39 h .u8 6 _ rfl 6 rfl (by kernel_rfl) (by kernel_rfl)
 match cs, hl with
 | [v0, v1, v2, v3, v4, v5, v6], _ =>
   simp at e0 e1 e2 e3 e4 e5 e6
   subst e0 e1 e2 e3 e4 e5 e6
   obtain ⟨z0, rfl, g0⟩ := u8_nat w0
   obtain ⟨z1, rfl, g1⟩ := u8_nat w1
   obtain ⟨z2, rfl, g2⟩ := u8_nat w2
   obtain ⟨z3, rfl, g3⟩ := u8_nat w3
   obtain ⟨z4, rfl, g4⟩ := u16_nat w4
   obtain ⟨z5, rfl, g5⟩ := u8_nat w5
   obtain ⟨z6, rfl, g6⟩ := u8_nat w6
   exact ⟨⟨z0, z1, z2, z3, z4, z5, z6⟩, ⟨g0, g1, g2, g3, g4, g5, g6⟩, rfl⟩
end
end Go.Proofs.YteifgmdaggiaaaaGreatDoor
