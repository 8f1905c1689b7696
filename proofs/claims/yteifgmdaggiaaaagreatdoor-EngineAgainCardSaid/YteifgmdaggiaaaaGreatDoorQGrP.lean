/-
  The law's Ask.Request by its contract: a request that may be, of small numbers.
  Slices of the law's Ask: their shape, cells, and one that came in.
  Acts of layer 17 that came in; what an act's event is: by its contract.
  Acts one behind the other: the events, the states; what the memory holds on the way.
-/
import Derived.Test.YteifgmdaggiaaaaGreatDoorQGrN
import Derived.Test.YteifgmdaggiaaaaGreatDoorQGrA
import Derived.Test.YteifgmdaggiaaaaGreatDoorQGrK
import Derived.RegionTactic
import Derived.Test.YteifgmdaggiaaaaGreatDoorQGrL
import Derived.Test.YteifgmdaggiaaaaGreatDoorQBankOn
set_option linter.unusedSimpArgs false
namespace Go.Proofs.YteifgmdaggiaaaaGreatDoor
open Go Go.RowKit
set_option linter.unusedVariables false
/-- An ask's numbers. -/
structure Ak where
 key : Nat
 op : Nat
 a : Nat
 b : Nat
 amt : Nat
 legs : Nat
 til : Nat
structure Ak.fits (z : Ak) : Prop where
 key : z.key < 256
 op : z.op < 256
 a : z.a < 256
 b : z.b < 256
 amt : z.amt < 65536
 legs : z.legs < 256
 til : z.til < 256
def Ak.val (z : Ak) : Value := .agg #[.int .u8 (z.key : Int), .int .u8 (z.op : Int), .int .u8 (z.a : Int), .int .u8 (z.b : Int), .int .u16 (z.amt : Int), .int .u8 (z.legs : Int), .int .u8 (z.til : Int)]
/-- The request of an ask. -/
def Ak.req (z : Ak) : Rq :=
 ⟨(z.key : Int), ((z.op % 8 : Nat) : Int), ((if z.op % 8 = 0 then z.a % 3 else if z.op % 8 ≤ 3 then 9 + z.a % 6 else z.a % 5 : Nat) : Int), ((9 + z.b % 6 : Nat) : Int), ((1 + z.amt % 2000 : Nat) : Int),
   ((if z.op % 8 = 2 then z.legs % 5 else 0 : Nat) : Int), ((if z.op % 8 = 3 then z.til % 12 else 0 : Nat) : Int)⟩
theorem Ak.req_may (z : Ak) (h : z.fits) : z.req.may := by
 have h1 := h.key
 have hx : z.op % 8 < 8 := Nat.mod_lt _ (by omega)
 unfold Rq.may legsOk opOk Ak.req
 dsimp only
 refine ⟨⟨by omega, by omega⟩, ?_, ?_, ?_⟩
 · split <;> rename_i h
   · rw [if_pos (by omega)]; omega
   · rw [if_neg (by omega)]; rfl
 · split <;> omega
 · split <;> rename_i h
   · rw [if_pos (by omega)]; omega
   · omega
/-- The middle one of three new blocks. -/
theorem heap_mid (w : World) (A B C : Obj) : (((w.alloc A).alloc B).alloc C).heap[w.heap.size + 1]? = some B := by
 rw [Below.heap_alloc _ _ _ (by simp)]
 exact heap_alloc2_new w A B
theorem below_three (w : World) (A B C : Obj) : Below w.heap.size w (((w.alloc A).alloc B).alloc C) :=
 (((Below.refl _ _).alloc (Nat.le_refl _) _).alloc (by simp) _).alloc (by simp; omega) _
/-- It hands back a request, and turns nothing below. -/
def AskRes (w : World) (r : Rq) (e : Ending) (w' : World) : Prop := e = .returned r.val ∧ Below w.heap.size w w'
/-- A request's cells, an ask's. -/
def Rq.obj (r : Rq) : Obj := .cells #[.int .i64 r.key, .int .i64 r.op, .int .i64 r.a, .int .i64 r.b, .int .i64 r.amt, .int .i64 r.legs, .int .i64 r.til] 42
def Ak.obj (z : Ak) : Obj := .cells #[.int .u8 (z.key : Int), .int .u8 (z.op : Int), .int .u8 (z.a : Int), .int .u8 (z.b : Int), .int .u16 (z.amt : Int), .int .u8 (z.legs : Int), .int .u8 (z.til : Int)] 39
/-- The same, with the world behind it. -/
def AskIs (w : World) (z : Ak) (r : Rq) (e : Ending) (w' : World) : Prop := e = .returned r.val ∧ w' = ((w.alloc z.obj).alloc r.obj).alloc r.obj
set_option maxRecDepth 100000 in
set_option maxHeartbeats 1000000 in
theorem ask_0 (z : Ak) (hf : z.fits) (w : World) (h0 : z.op % 8 = 0) : Calls Tryz.prog 11 #[z.val] w (AskIs w z z.req) := by
 obtain ⟨k, o, a, b, m, l, u⟩ := z
 obtain ⟨f0, f1, f2, f3, f4, f5, f6⟩ := hf
 dsimp only at f0 f1 f2 f3 f4 f5 f6 h0
 obtain ⟨a6, h6⟩ : ∃ x : Nat, a % 6 = x := ⟨_, rfl⟩
 obtain ⟨a3, h3⟩ : ∃ x : Nat, a % 3 = x := ⟨_, rfl⟩
 obtain ⟨a5, h5⟩ : ∃ x : Nat, a % 5 = x := ⟨_, rfl⟩
 obtain ⟨b6, g6⟩ : ∃ x : Nat, b % 6 = x := ⟨_, rfl⟩
 obtain ⟨mm, gm⟩ : ∃ x : Nat, m % 2000 = x := ⟨_, rfl⟩
 obtain ⟨l5, gl⟩ : ∃ x : Nat, l % 5 = x := ⟨_, rfl⟩
 obtain ⟨u2, gu⟩ : ∃ x : Nat, u % 12 = x := ⟨_, rfl⟩
 have hE : Ak.req ⟨k, o, a, b, m, l, u⟩ = ⟨(k : Int), 0, (a3 : Int), 9 + (b6 : Int), 1 + (mm : Int), 0, 0⟩ := by
  unfold Ak.req
  dsimp only
  rw [h0, h6, h3, h5, g6, gm, gl, gu]
  rfl
 rw [hE]
 have e0 : (o : Int) % 8 = 0 := by omega
 have h6' : (a : Int) % 6 = (a6 : Int) := by omega
 have h3' : (a : Int) % 3 = (a3 : Int) := by omega
 have h5' : (a : Int) % 5 = (a5 : Int) := by omega
 have g6' : (b : Int) % 6 = (b6 : Int) := by omega
 have gm' : (m : Int) % 2000 = (mm : Int) := by omega
 have gl' : (l : Int) % 5 = (l5 : Int) := by omega
 have gu' : (u : Int) % 12 = (u2 : Int) := by omega
 have l6 : a6 < 6 := by omega
 have l3 : a3 < 3 := by omega
 have l5' : a5 < 5 := by omega
 have lb : b6 < 6 := by omega
 have lm : mm < 2000 := by omega
 have ll : l5 < 5 := by omega
 have lu : u2 < 12 := by omega
 unfold Ak.val AskIs Ak.obj Rq.obj Rq.val
 dsimp only
 clear h0 h6 h3 h5 g6 gm gl gu hE
 go_enter Tryz.func11, Tryz.ntmps11
 go_wp2
 refine bodyPost_ret (results_cell_row (p := 2) (ty := 42) rfl _ _ (w.heap.size + 1) _ _ (0, 0) _ rfl (heap_mid _ _ _ _) Tryz.underlying42 rfl (by kernel_rfl)) rfl ?_
 exact ⟨rfl, rfl⟩
set_option maxRecDepth 100000 in
set_option maxHeartbeats 1000000 in
theorem ask_1 (z : Ak) (hf : z.fits) (w : World) (h0 : z.op % 8 = 1) : Calls Tryz.prog 11 #[z.val] w (AskIs w z z.req) := by
 obtain ⟨k, o, a, b, m, l, u⟩ := z
 obtain ⟨f0, f1, f2, f3, f4, f5, f6⟩ := hf
 dsimp only at f0 f1 f2 f3 f4 f5 f6 h0
 obtain ⟨a6, h6⟩ : ∃ x : Nat, a % 6 = x := ⟨_, rfl⟩
 obtain ⟨a3, h3⟩ : ∃ x : Nat, a % 3 = x := ⟨_, rfl⟩
 obtain ⟨a5, h5⟩ : ∃ x : Nat, a % 5 = x := ⟨_, rfl⟩
 obtain ⟨b6, g6⟩ : ∃ x : Nat, b % 6 = x := ⟨_, rfl⟩
 obtain ⟨mm, gm⟩ : ∃ x : Nat, m % 2000 = x := ⟨_, rfl⟩
 obtain ⟨l5, gl⟩ : ∃ x : Nat, l % 5 = x := ⟨_, rfl⟩
 obtain ⟨u2, gu⟩ : ∃ x : Nat, u % 12 = x := ⟨_, rfl⟩
 have hE : Ak.req ⟨k, o, a, b, m, l, u⟩ = ⟨(k : Int), 1, 9 + (a6 : Int), 9 + (b6 : Int), 1 + (mm : Int), 0, 0⟩ := by
  unfold Ak.req
  dsimp only
  rw [h0, h6, h3, h5, g6, gm, gl, gu]
  rfl
 rw [hE]
 have e0 : (o : Int) % 8 = 1 := by omega
 have h6' : (a : Int) % 6 = (a6 : Int) := by omega
 have h3' : (a : Int) % 3 = (a3 : Int) := by omega
 have h5' : (a : Int) % 5 = (a5 : Int) := by omega
 have g6' : (b : Int) % 6 = (b6 : Int) := by omega
 have gm' : (m : Int) % 2000 = (mm : Int) := by omega
 have gl' : (l : Int) % 5 = (l5 : Int) := by omega
 have gu' : (u : Int) % 12 = (u2 : Int) := by omega
 have l6 : a6 < 6 := by omega
 have l3 : a3 < 3 := by omega
 have l5' : a5 < 5 := by omega
 have lb : b6 < 6 := by omega
 have lm : mm < 2000 := by omega
 have ll : l5 < 5 := by omega
 have lu : u2 < 12 := by omega
 unfold Ak.val AskIs Ak.obj Rq.obj Rq.val
 dsimp only
 clear h0 h6 h3 h5 g6 gm gl gu hE
 go_enter Tryz.func11, Tryz.ntmps11
 go_wp2
 refine bodyPost_ret (results_cell_row (p := 2) (ty := 42) rfl _ _ (w.heap.size + 1) _ _ (0, 0) _ rfl (heap_mid _ _ _ _) Tryz.underlying42 rfl (by kernel_rfl)) rfl ?_
 exact ⟨rfl, rfl⟩
set_option maxRecDepth 100000 in
set_option maxHeartbeats 1000000 in
theorem ask_2 (z : Ak) (hf : z.fits) (w : World) (h0 : z.op % 8 = 2) : Calls Tryz.prog 11 #[z.val] w (AskIs w z z.req) := by
 obtain ⟨k, o, a, b, m, l, u⟩ := z
 obtain ⟨f0, f1, f2, f3, f4, f5, f6⟩ := hf
 dsimp only at f0 f1 f2 f3 f4 f5 f6 h0
 obtain ⟨a6, h6⟩ : ∃ x : Nat, a % 6 = x := ⟨_, rfl⟩
 obtain ⟨a3, h3⟩ : ∃ x : Nat, a % 3 = x := ⟨_, rfl⟩
 obtain ⟨a5, h5⟩ : ∃ x : Nat, a % 5 = x := ⟨_, rfl⟩
 obtain ⟨b6, g6⟩ : ∃ x : Nat, b % 6 = x := ⟨_, rfl⟩
 obtain ⟨mm, gm⟩ : ∃ x : Nat, m % 2000 = x := ⟨_, rfl⟩
 obtain ⟨l5, gl⟩ : ∃ x : Nat, l % 5 = x := ⟨_, rfl⟩
 obtain ⟨u2, gu⟩ : ∃ x : Nat, u % 12 = x := ⟨_, rfl⟩
 have hE : Ak.req ⟨k, o, a, b, m, l, u⟩ = ⟨(k : Int), 2, 9 + (a6 : Int), 9 + (b6 : Int), 1 + (mm : Int), (l5 : Int), 0⟩ := by
  unfold Ak.req
  dsimp only
  rw [h0, h6, h3, h5, g6, gm, gl, gu]
  rfl
 rw [hE]
 have e0 : (o : Int) % 8 = 2 := by omega
 have h6' : (a : Int) % 6 = (a6 : Int) := by omega
 have h3' : (a : Int) % 3 = (a3 : Int) := by omega
 have h5' : (a : Int) % 5 = (a5 : Int) := by omega
 have g6' : (b : Int) % 6 = (b6 : Int) := by omega
 have gm' : (m : Int) % 2000 = (mm : Int) := by omega
 have gl' : (l : Int) % 5 = (l5 : Int) := by omega
 have gu' : (u : Int) % 12 = (u2 : Int) := by omega
 have l6 : a6 < 6 := by omega
 have l3 : a3 < 3 := by omega
 have l5' : a5 < 5 := by omega
 have lb : b6 < 6 := by omega
 have lm : mm < 2000 := by omega
 have ll : l5 < 5 := by omega
 have lu : u2 < 12 := by omega
 unfold Ak.val AskIs Ak.obj Rq.obj Rq.val
 dsimp only
 clear h0 h6 h3 h5 g6 gm gl gu hE
 go_enter Tryz.func11, Tryz.ntmps11
 go_wp2
 refine bodyPost_ret (results_cell_row (p := 2) (ty := 42) rfl _ _ (w.heap.size + 1) _ _ (0, 0) _ rfl (heap_mid _ _ _ _) Tryz.underlying42 rfl (by kernel_rfl)) rfl ?_
 exact ⟨rfl, rfl⟩
set_option maxRecDepth 100000 in
set_option maxHeartbeats 1000000 in
theorem ask_3 (z : Ak) (hf : z.fits) (w : World) (h0 : z.op % 8 = 3) : Calls Tryz.prog 11 #[z.val] w (AskIs w z z.req) := by
 obtain ⟨k, o, a, b, m, l, u⟩ := z
 obtain ⟨f0, f1, f2, f3, f4, f5, f6⟩ := hf
 dsimp only at f0 f1 f2 f3 f4 f5 f6 h0
 obtain ⟨a6, h6⟩ : ∃ x : Nat, a % 6 = x := ⟨_, rfl⟩
 obtain ⟨a3, h3⟩ : ∃ x : Nat, a % 3 = x := ⟨_, rfl⟩
 obtain ⟨a5, h5⟩ : ∃ x : Nat, a % 5 = x := ⟨_, rfl⟩
 obtain ⟨b6, g6⟩ : ∃ x : Nat, b % 6 = x := ⟨_, rfl⟩
 obtain ⟨mm, gm⟩ : ∃ x : Nat, m % 2000 = x := ⟨_, rfl⟩
 obtain ⟨l5, gl⟩ : ∃ x : Nat, l % 5 = x := ⟨_, rfl⟩
 obtain ⟨u2, gu⟩ : ∃ x : Nat, u % 12 = x := ⟨_, rfl⟩
 have hE : Ak.req ⟨k, o, a, b, m, l, u⟩ = ⟨(k : Int), 3, 9 + (a6 : Int), 9 + (b6 : Int), 1 + (mm : Int), 0, (u2 : Int)⟩ := by
  unfold Ak.req
  dsimp only
  rw [h0, h6, h3, h5, g6, gm, gl, gu]
  rfl
 rw [hE]
 have e0 : (o : Int) % 8 = 3 := by omega
 have h6' : (a : Int) % 6 = (a6 : Int) := by omega
 have h3' : (a : Int) % 3 = (a3 : Int) := by omega
 have h5' : (a : Int) % 5 = (a5 : Int) := by omega
 have g6' : (b : Int) % 6 = (b6 : Int) := by omega
 have gm' : (m : Int) % 2000 = (mm : Int) := by omega
 have gl' : (l : Int) % 5 = (l5 : Int) := by omega
 have gu' : (u : Int) % 12 = (u2 : Int) := by omega
 have l6 : a6 < 6 := by omega
 have l3 : a3 < 3 := by omega
 have l5' : a5 < 5 := by omega
 have lb : b6 < 6 := by omega
 have lm : mm < 2000 := by omega
 have ll : l5 < 5 := by omega
 have lu : u2 < 12 := by omega
 unfold Ak.val AskIs Ak.obj Rq.obj Rq.val
 dsimp only
 clear h0 h6 h3 h5 g6 gm gl gu hE
 go_enter Tryz.func11, Tryz.ntmps11
 go_wp2
 refine bodyPost_ret (results_cell_row (p := 2) (ty := 42) rfl _ _ (w.heap.size + 1) _ _ (0, 0) _ rfl (heap_mid _ _ _ _) Tryz.underlying42 rfl (by kernel_rfl)) rfl ?_
 exact ⟨rfl, rfl⟩
set_option maxRecDepth 100000 in
set_option maxHeartbeats 1000000 in
theorem ask_4 (z : Ak) (hf : z.fits) (w : World) (h0 : z.op % 8 = 4) : Calls Tryz.prog 11 #[z.val] w (AskIs w z z.req) := by
 obtain ⟨k, o, a, b, m, l, u⟩ := z
 obtain ⟨f0, f1, f2, f3, f4, f5, f6⟩ := hf
 dsimp only at f0 f1 f2 f3 f4 f5 f6 h0
 obtain ⟨a6, h6⟩ : ∃ x : Nat, a % 6 = x := ⟨_, rfl⟩
 obtain ⟨a3, h3⟩ : ∃ x : Nat, a % 3 = x := ⟨_, rfl⟩
 obtain ⟨a5, h5⟩ : ∃ x : Nat, a % 5 = x := ⟨_, rfl⟩
 obtain ⟨b6, g6⟩ : ∃ x : Nat, b % 6 = x := ⟨_, rfl⟩
 obtain ⟨mm, gm⟩ : ∃ x : Nat, m % 2000 = x := ⟨_, rfl⟩
 obtain ⟨l5, gl⟩ : ∃ x : Nat, l % 5 = x := ⟨_, rfl⟩
 obtain ⟨u2, gu⟩ : ∃ x : Nat, u % 12 = x := ⟨_, rfl⟩
 have hE : Ak.req ⟨k, o, a, b, m, l, u⟩ = ⟨(k : Int), 4, (a5 : Int), 9 + (b6 : Int), 1 + (mm : Int), 0, 0⟩ := by
  unfold Ak.req
  dsimp only
  rw [h0, h6, h3, h5, g6, gm, gl, gu]
  rfl
 rw [hE]
 have e0 : (o : Int) % 8 = 4 := by omega
 have h6' : (a : Int) % 6 = (a6 : Int) := by omega
 have h3' : (a : Int) % 3 = (a3 : Int) := by omega
 have h5' : (a : Int) % 5 = (a5 : Int) := by omega
 have g6' : (b : Int) % 6 = (b6 : Int) := by omega
 have gm' : (m : Int) % 2000 = (mm : Int) := by omega
 have gl' : (l : Int) % 5 = (l5 : Int) := by omega
 have gu' : (u : Int) % 12 = (u2 : Int) := by omega
 have l6 : a6 < 6 := by omega
 have l3 : a3 < 3 := by omega
 have l5' : a5 < 5 := by omega
 have lb : b6 < 6 := by omega
 have lm : mm < 2000 := by omega
 have ll : l5 < 5 := by omega
 have lu : u2 < 12 := by omega
 unfold Ak.val AskIs Ak.obj Rq.obj Rq.val
 dsimp only
 clear h0 h6 h3 h5 g6 gm gl gu hE
 go_enter Tryz.func11, Tryz.ntmps11
 go_wp2
 refine bodyPost_ret (results_cell_row (p := 2) (ty := 42) rfl _ _ (w.heap.size + 1) _ _ (0, 0) _ rfl (heap_mid _ _ _ _) Tryz.underlying42 rfl (by kernel_rfl)) rfl ?_
 exact ⟨rfl, rfl⟩
set_option maxRecDepth 100000 in
set_option maxHeartbeats 1000000 in
theorem ask_5 (z : Ak) (hf : z.fits) (w : World) (h0 : z.op % 8 = 5) : Calls Tryz.prog 11 #[z.val] w (AskIs w z z.req) := by
 obtain ⟨k, o, a, b, m, l, u⟩ := z
 obtain ⟨f0, f1, f2, f3, f4, f5, f6⟩ := hf
 dsimp only at f0 f1 f2 f3 f4 f5 f6 h0
 obtain ⟨a6, h6⟩ : ∃ x : Nat, a % 6 = x := ⟨_, rfl⟩
 obtain ⟨a3, h3⟩ : ∃ x : Nat, a % 3 = x := ⟨_, rfl⟩
 obtain ⟨a5, h5⟩ : ∃ x : Nat, a % 5 = x := ⟨_, rfl⟩
 obtain ⟨b6, g6⟩ : ∃ x : Nat, b % 6 = x := ⟨_, rfl⟩
 obtain ⟨mm, gm⟩ : ∃ x : Nat, m % 2000 = x := ⟨_, rfl⟩
 obtain ⟨l5, gl⟩ : ∃ x : Nat, l % 5 = x := ⟨_, rfl⟩
 obtain ⟨u2, gu⟩ : ∃ x : Nat, u % 12 = x := ⟨_, rfl⟩
 have hE : Ak.req ⟨k, o, a, b, m, l, u⟩ = ⟨(k : Int), 5, (a5 : Int), 9 + (b6 : Int), 1 + (mm : Int), 0, 0⟩ := by
  unfold Ak.req
  dsimp only
  rw [h0, h6, h3, h5, g6, gm, gl, gu]
  rfl
 rw [hE]
 have e0 : (o : Int) % 8 = 5 := by omega
 have h6' : (a : Int) % 6 = (a6 : Int) := by omega
 have h3' : (a : Int) % 3 = (a3 : Int) := by omega
 have h5' : (a : Int) % 5 = (a5 : Int) := by omega
 have g6' : (b : Int) % 6 = (b6 : Int) := by omega
 have gm' : (m : Int) % 2000 = (mm : Int) := by omega
 have gl' : (l : Int) % 5 = (l5 : Int) := by omega
 have gu' : (u : Int) % 12 = (u2 : Int) := by omega
 have l6 : a6 < 6 := by omega
 have l3 : a3 < 3 := by omega
 have l5' : a5 < 5 := by omega
 have lb : b6 < 6 := by omega
 have lm : mm < 2000 := by omega
 have ll : l5 < 5 := by omega
 have lu : u2 < 12 := by omega
 unfold Ak.val AskIs Ak.obj Rq.obj Rq.val
 dsimp only
 clear h0 h6 h3 h5 g6 gm gl gu hE
 go_enter Tryz.func11, Tryz.ntmps11
 go_wp2
 refine bodyPost_ret (results_cell_row (p := 2) (ty := 42) rfl _ _ (w.heap.size + 1) _ _ (0, 0) _ rfl (heap_mid _ _ _ _) Tryz.underlying42 rfl (by kernel_rfl)) rfl ?_
 exact ⟨rfl, rfl⟩
set_option maxRecDepth 100000 in
set_option maxHeartbeats 1000000 in
theorem ask_6 (z : Ak) (hf : z.fits) (w : World) (h0 : z.op % 8 = 6) : Calls Tryz.prog 11 #[z.val] w (AskIs w z z.req) := by
 obtain ⟨k, o, a, b, m, l, u⟩ := z
 obtain ⟨f0, f1, f2, f3, f4, f5, f6⟩ := hf
 dsimp only at f0 f1 f2 f3 f4 f5 f6 h0
 obtain ⟨a6, h6⟩ : ∃ x : Nat, a % 6 = x := ⟨_, rfl⟩
 obtain ⟨a3, h3⟩ : ∃ x : Nat, a % 3 = x := ⟨_, rfl⟩
 obtain ⟨a5, h5⟩ : ∃ x : Nat, a % 5 = x := ⟨_, rfl⟩
 obtain ⟨b6, g6⟩ : ∃ x : Nat, b % 6 = x := ⟨_, rfl⟩
 obtain ⟨mm, gm⟩ : ∃ x : Nat, m % 2000 = x := ⟨_, rfl⟩
 obtain ⟨l5, gl⟩ : ∃ x : Nat, l % 5 = x := ⟨_, rfl⟩
 obtain ⟨u2, gu⟩ : ∃ x : Nat, u % 12 = x := ⟨_, rfl⟩
 have hE : Ak.req ⟨k, o, a, b, m, l, u⟩ = ⟨(k : Int), 6, (a5 : Int), 9 + (b6 : Int), 1 + (mm : Int), 0, 0⟩ := by
  unfold Ak.req
  dsimp only
  rw [h0, h6, h3, h5, g6, gm, gl, gu]
  rfl
 rw [hE]
 have e0 : (o : Int) % 8 = 6 := by omega
 have h6' : (a : Int) % 6 = (a6 : Int) := by omega
 have h3' : (a : Int) % 3 = (a3 : Int) := by omega
 have h5' : (a : Int) % 5 = (a5 : Int) := by omega
 have g6' : (b : Int) % 6 = (b6 : Int) := by omega
 have gm' : (m : Int) % 2000 = (mm : Int) := by omega
 have gl' : (l : Int) % 5 = (l5 : Int) := by omega
 have gu' : (u : Int) % 12 = (u2 : Int) := by omega
 have l6 : a6 < 6 := by omega
 have l3 : a3 < 3 := by omega
 have l5' : a5 < 5 := by omega
 have lb : b6 < 6 := by omega
 have lm : mm < 2000 := by omega
 have ll : l5 < 5 := by omega
 have lu : u2 < 12 := by omega
 unfold Ak.val AskIs Ak.obj Rq.obj Rq.val
 dsimp only
 clear h0 h6 h3 h5 g6 gm gl gu hE
 go_enter Tryz.func11, Tryz.ntmps11
 go_wp2
 refine bodyPost_ret (results_cell_row (p := 2) (ty := 42) rfl _ _ (w.heap.size + 1) _ _ (0, 0) _ rfl (heap_mid _ _ _ _) Tryz.underlying42 rfl (by kernel_rfl)) rfl ?_
 exact ⟨rfl, rfl⟩
set_option maxRecDepth 100000 in
set_option maxHeartbeats 1000000 in
theorem ask_7 (z : Ak) (hf : z.fits) (w : World) (h0 : z.op % 8 = 7) : Calls Tryz.prog 11 #[z.val] w (AskIs w z z.req) := by
 obtain ⟨k, o, a, b, m, l, u⟩ := z
 obtain ⟨f0, f1, f2, f3, f4, f5, f6⟩ := hf
 dsimp only at f0 f1 f2 f3 f4 f5 f6 h0
 obtain ⟨a6, h6⟩ : ∃ x : Nat, a % 6 = x := ⟨_, rfl⟩
 obtain ⟨a3, h3⟩ : ∃ x : Nat, a % 3 = x := ⟨_, rfl⟩
 obtain ⟨a5, h5⟩ : ∃ x : Nat, a % 5 = x := ⟨_, rfl⟩
 obtain ⟨b6, g6⟩ : ∃ x : Nat, b % 6 = x := ⟨_, rfl⟩
 obtain ⟨mm, gm⟩ : ∃ x : Nat, m % 2000 = x := ⟨_, rfl⟩
 obtain ⟨l5, gl⟩ : ∃ x : Nat, l % 5 = x := ⟨_, rfl⟩
 obtain ⟨u2, gu⟩ : ∃ x : Nat, u % 12 = x := ⟨_, rfl⟩
 have hE : Ak.req ⟨k, o, a, b, m, l, u⟩ = ⟨(k : Int), 7, (a5 : Int), 9 + (b6 : Int), 1 + (mm : Int), 0, 0⟩ := by
  unfold Ak.req
  dsimp only
  rw [h0, h6, h3, h5, g6, gm, gl, gu]
  rfl
 rw [hE]
 have e0 : (o : Int) % 8 = 7 := by omega
 have h6' : (a : Int) % 6 = (a6 : Int) := by omega
 have h3' : (a : Int) % 3 = (a3 : Int) := by omega
 have h5' : (a : Int) % 5 = (a5 : Int) := by omega
 have g6' : (b : Int) % 6 = (b6 : Int) := by omega
 have gm' : (m : Int) % 2000 = (mm : Int) := by omega
 have gl' : (l : Int) % 5 = (l5 : Int) := by omega
 have gu' : (u : Int) % 12 = (u2 : Int) := by omega
 have l6 : a6 < 6 := by omega
 have l3 : a3 < 3 := by omega
 have l5' : a5 < 5 := by omega
 have lb : b6 < 6 := by omega
 have lm : mm < 2000 := by omega
 have ll : l5 < 5 := by omega
 have lu : u2 < 12 := by omega
 unfold Ak.val AskIs Ak.obj Rq.obj Rq.val
 dsimp only
 clear h0 h6 h3 h5 g6 gm gl gu hE
 go_enter Tryz.func11, Tryz.ntmps11
 go_wp2
 refine bodyPost_ret (results_cell_row (p := 2) (ty := 42) rfl _ _ (w.heap.size + 1) _ _ (0, 0) _ rfl (heap_mid _ _ _ _) Tryz.underlying42 rfl (by kernel_rfl)) rfl ?_
 exact ⟨rfl, rfl⟩
/-- An ask's request. -/
theorem ask_is (z : Ak) (hf : z.fits) (w : World) : Calls Tryz.prog 11 #[z.val] w (AskIs w z z.req) := by
 rcases (show z.op % 8 = 0 ∨ z.op % 8 = 1 ∨ z.op % 8 = 2 ∨ z.op % 8 = 3 ∨ z.op % 8 = 4 ∨ z.op % 8 = 5 ∨ z.op % 8 = 6 ∨ z.op % 8 = 7 by omega) with h | h | h | h | h | h | h | h
 · exact ask_0 z hf w h
 · exact ask_1 z hf w h
 · exact ask_2 z hf w h
 · exact ask_3 z hf w h
 · exact ask_4 z hf w h
 · exact ask_5 z hf w h
 · exact ask_6 z hf w h
 · exact ask_7 z hf w h
theorem ask_any (z : Ak) (hf : z.fits) (w : World) : Calls Tryz.prog 11 #[z.val] w (AskRes w z.req) := by
 refine (ask_is z hf w).mono ?_
 rintro _ _ ⟨rfl, rfl⟩
 exact ⟨rfl, below_three _ _ _ _⟩
end Go.Proofs.YteifgmdaggiaaaaGreatDoor
namespace Go.Proofs.YteifgmdaggiaaaaGreatDoor
open Go Go.RowKit Go.ChangeShapes Go.WideShapes Go.Deep Go.Joins
set_option linter.unusedVariables false
def Ak.cells (z : Ak) : List Value := [.int .u8 (z.key : Int), .int .u8 (z.op : Int), .int .u8 (z.a : Int), .int .u8 (z.b : Int), .int .u16 (z.amt : Int), .int .u8 (z.legs : Int), .int .u8 (z.til : Int)]
def asks : Shape Ak := ⟨7, 39, Ak.cells, by omega, fun _ => rfl, fun a u hu => by
  simp only [Ak.cells, List.mem_cons, List.not_mem_nil, or_false] at hu
  rcases hu with rfl | rfl | rfl | rfl | rfl | rfl | rfl <;> rfl⟩
section
variable {H : Type} {enc : TypeId × Value → H} {w : World} {base fuel : Nat} {spare : Nat → Bool} {held : Bool} {cs : List Value} {x : DataW H × List MemPlace}
set_option maxRecDepth 100000 in
theorem ak_of (h : DataW.trod enc Tryz.prog w base spare held fuel 39 cs = some x) : ∃ z : Ak, z.fits ∧ cs = asks.cells z := by
 have hl : cs.length = 7 := by obtain ⟨_, _, _, _, hl, _⟩ := DataW.trod_struct Tryz.underlying39 h; exact hl.trans (by kernel_rfl)
 obtain ⟨x0, e0, w0⟩ := trod_num Tryz.underlying39 h .u8 0 _ rfl 0 rfl (by kernel_rfl) (by kernel_rfl)
 obtain ⟨x1, e1, w1⟩ := trod_num Tryz.underlying39 h .u8 1 _ rfl 1 rfl (by kernel_rfl) (by kernel_rfl)
 obtain ⟨x2, e2, w2⟩ := trod_num Tryz.underlying39 h .u8 2 _ rfl 2 rfl (by kernel_rfl) (by kernel_rfl)
 obtain ⟨x3, e3, w3⟩ := trod_num Tryz.underlying39 h .u8 3 _ rfl 3 rfl (by kernel_rfl) (by kernel_rfl)
 obtain ⟨x4, e4, w4⟩ := trod_num Tryz.underlying39 h .u16 4 _ rfl 4 rfl (by kernel_rfl) (by kernel_rfl)
 obtain ⟨x5, e5, w5⟩ := trod_num Tryz.underlying39 h .u8 5 _ rfl 5 rfl (by kernel_rfl) (by kernel_rfl)
 obtain ⟨x6, e6, w6⟩ := trod_num Tryz.underlying39 h .u8 6 _ rfl 6 rfl (by kernel_rfl) (by kernel_rfl)
 match cs, hl with
 | [v0, v1, v2, v3, v4, v5, v6], _ =>
   simp at e0 e1 e2 e3 e4 e5 e6
   subst e0 e1 e2 e3 e4 e5 e6
   obtain ⟨z0, rfl, g0⟩ := u8_nat w0
   obtain ⟨z1, rfl, g1⟩ := u8_nat w1
   obtain ⟨z2, rfl, g2⟩ := u8_nat w2
   obtain ⟨z3, rfl, g3⟩ := u8_nat w3
   obtain ⟨z4, rfl, g4⟩ := u16_nat w4
   obtain ⟨z5, rfl, g5⟩ := u8_nat w5
   obtain ⟨z6, rfl, g6⟩ := u8_nat w6
   exact ⟨⟨z0, z1, z2, z3, z4, z5, z6⟩, ⟨g0, g1, g2, g3, g4, g5, g6⟩, rfl⟩
end
end Go.Proofs.YteifgmdaggiaaaaGreatDoor
namespace Go.Proofs.YteifgmdaggiaaaaGreatDoor
open Go Go.RowKit Go.ChangeShapes Go.WideShapes Go.Deep Go.Joins
set_option linter.unusedVariables false
/-- An act: what, an ask, a number, an answer. -/
structure EA where
 what : Nat
 ask : Ak
 n : Nat
 ok : Bool
def EA.cells (z : EA) : List Value := [.int .u8 (z.what : Int), .int .u8 (z.ask.key : Int), .int .u8 (z.ask.op : Int), .int .u8 (z.ask.a : Int), .int .u8 (z.ask.b : Int), .int .u16 (z.ask.amt : Int), .int .u8 (z.ask.legs : Int), .int .u8 (z.ask.til : Int), .int .u8 (z.n : Int), .bool z.ok]
def EA.fits (z : EA) : Prop := z.what < 256 ∧ z.ask.fits ∧ z.n < 256
def eacts : Shape EA := ⟨10, 58, EA.cells, by omega, fun _ => rfl, fun a u hu => by
  simp only [EA.cells, List.mem_cons, List.not_mem_nil, or_false] at hu
  rcases hu with rfl | rfl | rfl | rfl | rfl | rfl | rfl | rfl | rfl | rfl <;> rfl⟩
/-- The cells of the act at j. -/
theorem ea_cells {w : World} {ad : Addr} {j : Nat} {k : EA} (h : AtS eacts w ad j k) :
  w.cell? (ad.add (j * 10)) = some (.int .u8 (k.what : Int)) ∧
  w.cell? ⟨(ad.add (j * 10)).block, (ad.add (j * 10)).off + 1, none⟩ = some (.int .u8 (k.ask.key : Int)) ∧
  w.cell? ⟨(ad.add (j * 10)).block, (ad.add (j * 10)).off + 2, none⟩ = some (.int .u8 (k.ask.op : Int)) ∧
  w.cell? ⟨(ad.add (j * 10)).block, (ad.add (j * 10)).off + 3, none⟩ = some (.int .u8 (k.ask.a : Int)) ∧
  w.cell? ⟨(ad.add (j * 10)).block, (ad.add (j * 10)).off + 4, none⟩ = some (.int .u8 (k.ask.b : Int)) ∧
  w.cell? ⟨(ad.add (j * 10)).block, (ad.add (j * 10)).off + 5, none⟩ = some (.int .u16 (k.ask.amt : Int)) ∧
  w.cell? ⟨(ad.add (j * 10)).block, (ad.add (j * 10)).off + 6, none⟩ = some (.int .u8 (k.ask.legs : Int)) ∧
  w.cell? ⟨(ad.add (j * 10)).block, (ad.add (j * 10)).off + 7, none⟩ = some (.int .u8 (k.ask.til : Int)) ∧
  w.cell? ⟨(ad.add (j * 10)).block, (ad.add (j * 10)).off + 8, none⟩ = some (.int .u8 (k.n : Int)) ∧
  w.cell? ⟨(ad.add (j * 10)).block, (ad.add (j * 10)).off + 9, none⟩ = some (.bool k.ok) := by
 refine ⟨h 0 _ rfl, ?_, ?_, ?_, ?_, ?_, ?_, ?_, ?_, ?_⟩ <;> rw [← add_next _ _ _ (by omega)]
 · exact h 1 _ rfl
 · exact h 2 _ rfl
 · exact h 3 _ rfl
 · exact h 4 _ rfl
 · exact h 5 _ rfl
 · exact h 6 _ rfl
 · exact h 7 _ rfl
 · exact h 8 _ rfl
 · exact h 9 _ rfl
section
variable {H : Type} {enc : TypeId × Value → H} {w : World} {base fuel : Nat} {spare : Nat → Bool} {held : Bool} {cs : List Value} {x : DataW H × List MemPlace}
set_option maxRecDepth 100000 in
theorem ea_of (h : DataW.trod enc Tryz.prog w base spare held fuel 58 cs = some x) : ∃ z : EA, z.fits ∧ cs = eacts.cells z := by
 have hl : cs.length = 10 := by obtain ⟨_, _, _, _, hl, _⟩ := DataW.trod_struct Tryz.underlying58 h; exact hl.trans (by kernel_rfl)
 obtain ⟨x0, e0, w0⟩ := trod_num Tryz.underlying58 h .u8 0 _ rfl 0 rfl (by kernel_rfl) (by kernel_rfl)
 obtain ⟨_, _, g1⟩ := trod_field Tryz.underlying58 h 1 _ rfl 1 7 rfl (by kernel_rfl)
 obtain ⟨x2, e2, w2⟩ := trod_num Tryz.underlying58 h .u8 2 _ rfl 8 rfl (by kernel_rfl) (by kernel_rfl)
 obtain ⟨b, e3⟩ := trod_flag Tryz.underlying58 h 3 _ rfl 9 rfl (by kernel_rfl) (by kernel_rfl)
 obtain ⟨z, hz, e1⟩ := ak_of g1
 obtain ⟨n0, rfl, f0⟩ := u8_nat w0
 obtain ⟨n2, rfl, f2⟩ := u8_nat w2
 match cs, hl with
 | [v0, v1, v2, v3, v4, v5, v6, v7, v8, v9], _ =>
   have e1' : [v1, v2, v3, v4, v5, v6, v7] = Ak.cells z := e1
   unfold Ak.cells at e1'
   simp at e0 e2 e3
   injection e1' with h1 t1
   injection t1 with h2 t2
   injection t2 with h3 t3
   injection t3 with h4 t4
   injection t4 with h5 t5
   injection t5 with h6 t6
   injection t6 with h7 t7
   subst e0 e2 e3 h1 h2 h3 h4 h5 h6 h7
   exact ⟨⟨n0, z, n2, b⟩, ⟨f0, hz, f2⟩, rfl⟩
end
/-- The key of a step: that of one of the sagas, mostly. -/
def EA.stepKey (z : EA) (sl : List Sg) : Int := if 0 < sl.length ∧ z.n < 250 then (sl.getD (z.n % sl.length) (beginS Rq.zero)).rq.key else (z.n : Int)
def EA.ev (z : EA) (sl : List Sg) : Ev := if z.what % 8 ≤ 3 then ⟨0, z.ask.req, 0, false⟩ else if z.what % 8 = 4 then ⟨2, Rq.zero, 0, false⟩ else ⟨1, Rq.zero, z.stepKey sl, z.ok⟩
def EvRes (w : World) (v : Ev) (e : Ending) (w' : World) : Prop := e = .returned (.agg v.cells) ∧ Below w.heap.size w w'
theorem ev_put {w : World} {g : Nat} {t : TypeId} {vs : Array Value} (h : Blk w g t vs) (hs : vs.size = 10) (x0 x1 x2 x3 x4 x5 x6 x7 x8 x9 : Value) : Blk ((((((((((w.setCell ⟨g, 0, none⟩ x0).setCell ⟨g, 1, none⟩ x1).setCell ⟨g, 2, none⟩ x2).setCell ⟨g, 3, none⟩ x3).setCell ⟨g, 4, none⟩ x4).setCell ⟨g, 5, none⟩ x5).setCell ⟨g, 6, none⟩ x6).setCell ⟨g, 7, none⟩ x7).setCell ⟨g, 8, none⟩ x8).setCell ⟨g, 9, none⟩ x9) g t #[x0, x1, x2, x3, x4, x5, x6, x7, x8, x9] := by
 obtain ⟨vs⟩ := vs
 match vs, hs with
 | [v0, v1, v2, v3, v4, v5, v6, v7, v8, v9], _ =>
   unfold Blk at h ⊢
   simp [World.setCell, Array.getElem?_modify, h]
theorem ev_below {w W : World} {B g : Nat} (h : Below B w W) (hg : B ≤ g) (x0 x1 x2 x3 x4 x5 x6 x7 x8 x9 : Value) : Below B w ((((((((((W.setCell ⟨g, 0, none⟩ x0).setCell ⟨g, 1, none⟩ x1).setCell ⟨g, 2, none⟩ x2).setCell ⟨g, 3, none⟩ x3).setCell ⟨g, 4, none⟩ x4).setCell ⟨g, 5, none⟩ x5).setCell ⟨g, 6, none⟩ x6).setCell ⟨g, 7, none⟩ x7).setCell ⟨g, 8, none⟩ x8).setCell ⟨g, 9, none⟩ x9) :=
 (((((((((h.setCell (p := ⟨g, 0, none⟩) hg x0).setCell (p := ⟨g, 1, none⟩) hg x1).setCell (p := ⟨g, 2, none⟩) hg x2).setCell (p := ⟨g, 3, none⟩) hg x3).setCell (p := ⟨g, 4, none⟩) hg x4).setCell (p := ⟨g, 5, none⟩) hg x5).setCell (p := ⟨g, 6, none⟩) hg x6).setCell (p := ⟨g, 7, none⟩) hg x7).setCell (p := ⟨g, 8, none⟩) hg x8).setCell (p := ⟨g, 9, none⟩) hg x9
set_option maxRecDepth 100000 in
set_option maxHeartbeats 4000000 in
theorem event_sub (z : EA) (hz : z.fits) (V : Sv) (T : St) (sl : List Sg) (kl : List Kn) (w : World) (hV : SkAt w V T sl kl) (hsl : sl.length ≤ 2000000) (hk : z.what % 8 = 0 ∨ z.what % 8 = 1 ∨ z.what % 8 = 2 ∨ z.what % 8 = 3) :
  Calls Tryz.prog 15 #[.agg z.cells.toArray, V.val] w (EvRes w ⟨0, z.ask.req, 0, false⟩) := by
 have HV_0 := Lib.hid hV
 have HL_0 := Lib.hid (Below.refl w.heap.size w)
 have HAS := Lib.hid (fun W => ask_any z.ask hz.2.1 W)
 have HXN := Lib.hid hV.xn
 obtain ⟨r, hr⟩ : ∃ r, z.ask.req = r := ⟨_, rfl⟩
 rw [hr] at HAS ⊢
 clear hr
 obtain ⟨A0, n0, c0, B0, q0, d0, X0, xn0, xc0, Y0, yn0, yc0, t0⟩ := V
 obtain ⟨what, ⟨key, op, qa, qb, amt, legs, til⟩, n, ok⟩ := z
 obtain ⟨f0, f1, f2⟩ := hz
 unfold EvRes Sv.val Sv.cells EA.cells Ev.cells
 dsimp only at hk f0 f2 HXN ⊢
 obtain ⟨rk, ro, ra, rb, rm, rl, ru⟩ := r
 unfold AskRes Ak.val Rq.val at HAS
 dsimp only at HAS ⊢
 rcases hk with hk | hk | hk | hk
 all_goals
  first | have wq0 : (what : Int) % 8 = 0 := by omega | have wq0 : (what : Int) % 8 = 1 := by omega | have wq0 : (what : Int) % 8 = 2 := by omega | have wq0 : (what : Int) % 8 = 3 := by omega | have wq0 : (what : Int) % 8 = 5 := by omega | have wq0 : (what : Int) % 8 = 6 := by omega | have wq0 : (what : Int) % 8 = 7 := by omega
  clear hV hsl f0 f1 f2 hk HXN
  go_enter Tryz.func15, Tryz.ntmps15
  go_upto_region 1 with fail
  have al := (Below.refl w.heap.size w).alloc (Nat.le_refl _) (.cells #[.int .u8 (what : Int), .int .u8 (key : Int), .int .u8 (op : Int), .int .u8 (qa : Int), .int .u8 (qb : Int), .int .u16 (amt : Int), .int .u8 (legs : Int), .int .u8 (til : Int), .int .u8 (n : Int), .bool ok] 58)
  replace al := al.alloc (by simp; try omega) (.cells #[.slice A0 n0 c0, .slice B0 q0 d0, .slice X0 xn0 xc0, .slice Y0 yn0 yc0, .int .i64 t0] 35)
  replace al := al.alloc (by simp; try omega) (.cells #[.int .i64 0, .int .i64 0, .int .i64 0, .int .i64 0, .int .i64 0, .int .i64 0, .int .i64 0, .int .i64 0, .int .i64 0, .bool false] 53)
  have nb0 := ((Blk.new w 58 #[.int .u8 (what : Int), .int .u8 (key : Int), .int .u8 (op : Int), .int .u8 (qa : Int), .int .u8 (qb : Int), .int .u16 (amt : Int), .int .u8 (legs : Int), .int .u8 (til : Int), .int .u8 (n : Int), .bool ok]).more (.cells #[.slice A0 n0 c0, .slice B0 q0 d0, .slice X0 xn0 xc0, .slice Y0 yn0 yc0, .int .i64 t0] 35)).more (.cells #[.int .i64 0, .int .i64 0, .int .i64 0, .int .i64 0, .int .i64 0, .int .i64 0, .int .i64 0, .int .i64 0, .int .i64 0, .bool false] 53)
  have nb1 := (Blk.new (w.alloc (.cells #[.int .u8 (what : Int), .int .u8 (key : Int), .int .u8 (op : Int), .int .u8 (qa : Int), .int .u8 (qb : Int), .int .u16 (amt : Int), .int .u8 (legs : Int), .int .u8 (til : Int), .int .u8 (n : Int), .bool ok] 58)) 35 #[.slice A0 n0 c0, .slice B0 q0 d0, .slice X0 xn0 xc0, .slice Y0 yn0 yc0, .int .i64 t0]).more (.cells #[.int .i64 0, .int .i64 0, .int .i64 0, .int .i64 0, .int .i64 0, .int .i64 0, .int .i64 0, .int .i64 0, .int .i64 0, .bool false] 53)
  rw [alloc_size] at nb1
  have nb2 := Blk.new ((w.alloc (.cells #[.int .u8 (what : Int), .int .u8 (key : Int), .int .u8 (op : Int), .int .u8 (qa : Int), .int .u8 (qb : Int), .int .u16 (amt : Int), .int .u8 (legs : Int), .int .u8 (til : Int), .int .u8 (n : Int), .bool ok] 58)).alloc (.cells #[.slice A0 n0 c0, .slice B0 q0 d0, .slice X0 xn0 xc0, .slice Y0 yn0 yc0, .int .i64 t0] 35)) 53 #[.int .i64 0, .int .i64 0, .int .i64 0, .int .i64 0, .int .i64 0, .int .i64 0, .int .i64 0, .int .i64 0, .int .i64 0, .bool false]
  rw [alloc_size, alloc_size] at nb2
  have HL_1 := Lib.hid (HL_0.out.trans (al.mono HL_0.out.size))
  have HV_1 := Lib.hid (HV_0.out.below al)
  clear al HL_0 HV_0
  have H_1 := Lib.hid (nb0)
  have S_1 := Lib.hid (nb1)
  have E_1 := Lib.hid (nb2)
  clear nb0 nb1 nb2
  generalize ((w.alloc (.cells #[.int .u8 (what : Int), .int .u8 (key : Int), .int .u8 (op : Int), .int .u8 (qa : Int), .int .u8 (qb : Int), .int .u16 (amt : Int), .int .u8 (legs : Int), .int .u8 (til : Int), .int .u8 (n : Int), .bool ok] 58)).alloc (.cells #[.slice A0 n0 c0, .slice B0 q0 d0, .slice X0 xn0 xc0, .slice Y0 yn0 yc0, .int .i64 t0] 35)).alloc (.cells #[.int .i64 0, .int .i64 0, .int .i64 0, .int .i64 0, .int .i64 0, .int .i64 0, .int .i64 0, .int .i64 0, .int .i64 0, .bool false] 53) = w1 at HL_1 HV_1 H_1 S_1 E_1 ⊢
  obtain ⟨x0, x1, x2, x3, x4, x5, x6, x7, x8, x9⟩ := (show _ ∧ _ ∧ _ ∧ _ ∧ _ ∧ _ ∧ _ ∧ _ ∧ _ ∧ _ from ⟨H_1.out.cell 0 rfl, H_1.out.cell 1 rfl, H_1.out.cell 2 rfl, H_1.out.cell 3 rfl, H_1.out.cell 4 rfl, H_1.out.cell 5 rfl, H_1.out.cell 6 rfl, H_1.out.cell 7 rfl, H_1.out.cell 8 rfl, H_1.out.cell 9 rfl⟩)
  go_wp2_with fail
  refine (HAS.out _).mono ?_
  rintro _ w2 ⟨rfl, hb⟩
  clear x0 x1 x2 x3 x4 x5 x6 x7 x8 x9 HAS
  have HL_2 := Lib.hid (HL_1.out.trans (hb.mono HL_1.out.size))
  have HV_2 := Lib.hid (HV_1.out.below hb)
  have H_2 := Lib.hid (H_1.out.later hb)
  have S_2 := Lib.hid (S_1.out.later hb)
  have E_2 := Lib.hid (E_1.out.later hb)
  clear HL_1 HV_1 H_1 S_1 E_1
  obtain ⟨z0, z1, z2, z3, z4, z5, z6, z7, z8, z9⟩ := (show _ ∧ _ ∧ _ ∧ _ ∧ _ ∧ _ ∧ _ ∧ _ ∧ _ ∧ _ from ⟨E_2.out.cell 0 rfl, E_2.out.cell 1 rfl, E_2.out.cell 2 rfl, E_2.out.cell 3 rfl, E_2.out.cell 4 rfl, E_2.out.cell 5 rfl, E_2.out.cell 6 rfl, E_2.out.cell 7 rfl, E_2.out.cell 8 rfl, E_2.out.cell 9 rfl⟩)
  obtain ⟨e0, e1, e2, e3, e4, e5, e6, e7, e8, e9⟩ := (show _ ∧ _ ∧ _ ∧ _ ∧ _ ∧ _ ∧ _ ∧ _ ∧ _ ∧ _ from ⟨E_2.out.loose 0, E_2.out.loose 1, E_2.out.loose 2, E_2.out.loose 3, E_2.out.loose 4, E_2.out.loose 5, E_2.out.loose 6, E_2.out.loose 7, E_2.out.loose 8, E_2.out.loose 9⟩)
  go_wp2
  have HP := ev_put E_2.out rfl (.int .i64 0) (.int .i64 rk) (.int .i64 ro) (.int .i64 ra) (.int .i64 rb) (.int .i64 rm) (.int .i64 rl) (.int .i64 ru) (.int .i64 0) (.bool false)
  have HPB := ev_below HL_2.out (show w.heap.size ≤ w.heap.size + 1 + 1 by omega) (.int .i64 0) (.int .i64 rk) (.int .i64 ro) (.int .i64 ra) (.int .i64 rb) (.int .i64 rm) (.int .i64 rl) (.int .i64 ru) (.int .i64 0) (.bool false)
  refine bodyPost_ret (results_cell_row (p := 4) (ty := 53) rfl _ _ (w.heap.size + 1 + 1) _ _ (0, 0) _ rfl HP Tryz.underlying53 rfl (by kernel_rfl)) rfl ?_
  exact ⟨rfl, HPB⟩
set_option maxRecDepth 100000 in
set_option maxHeartbeats 4000000 in
theorem event_tick (z : EA) (hz : z.fits) (V : Sv) (T : St) (sl : List Sg) (kl : List Kn) (w : World) (hV : SkAt w V T sl kl) (hsl : sl.length ≤ 2000000) (hk : z.what % 8 = 4) :
  Calls Tryz.prog 15 #[.agg z.cells.toArray, V.val] w (EvRes w ⟨2, Rq.zero, 0, false⟩) := by
 have HV_0 := Lib.hid hV
 have HL_0 := Lib.hid (Below.refl w.heap.size w)
 have HXN := Lib.hid hV.xn
 obtain ⟨A0, n0, c0, B0, q0, d0, X0, xn0, xc0, Y0, yn0, yc0, t0⟩ := V
 obtain ⟨what, ⟨key, op, qa, qb, amt, legs, til⟩, n, ok⟩ := z
 obtain ⟨f0, f1, f2⟩ := hz
 unfold EvRes Sv.val Sv.cells EA.cells Ev.cells
 dsimp only at hk f0 f2 HXN ⊢
 unfold Rq.zero
 dsimp only
 have wq0 : (what : Int) % 8 = 4 := by omega
 clear hV hsl f0 f1 hk
 go_enter Tryz.func15, Tryz.ntmps15
 go_upto_region 1 with fail
 have al := (Below.refl w.heap.size w).alloc (Nat.le_refl _) (.cells #[.int .u8 (what : Int), .int .u8 (key : Int), .int .u8 (op : Int), .int .u8 (qa : Int), .int .u8 (qb : Int), .int .u16 (amt : Int), .int .u8 (legs : Int), .int .u8 (til : Int), .int .u8 (n : Int), .bool ok] 58)
 replace al := al.alloc (by simp; try omega) (.cells #[.slice A0 n0 c0, .slice B0 q0 d0, .slice X0 xn0 xc0, .slice Y0 yn0 yc0, .int .i64 t0] 35)
 replace al := al.alloc (by simp; try omega) (.cells #[.int .i64 0, .int .i64 0, .int .i64 0, .int .i64 0, .int .i64 0, .int .i64 0, .int .i64 0, .int .i64 0, .int .i64 0, .bool false] 53)
 have nb0 := ((Blk.new w 58 #[.int .u8 (what : Int), .int .u8 (key : Int), .int .u8 (op : Int), .int .u8 (qa : Int), .int .u8 (qb : Int), .int .u16 (amt : Int), .int .u8 (legs : Int), .int .u8 (til : Int), .int .u8 (n : Int), .bool ok]).more (.cells #[.slice A0 n0 c0, .slice B0 q0 d0, .slice X0 xn0 xc0, .slice Y0 yn0 yc0, .int .i64 t0] 35)).more (.cells #[.int .i64 0, .int .i64 0, .int .i64 0, .int .i64 0, .int .i64 0, .int .i64 0, .int .i64 0, .int .i64 0, .int .i64 0, .bool false] 53)
 have nb1 := (Blk.new (w.alloc (.cells #[.int .u8 (what : Int), .int .u8 (key : Int), .int .u8 (op : Int), .int .u8 (qa : Int), .int .u8 (qb : Int), .int .u16 (amt : Int), .int .u8 (legs : Int), .int .u8 (til : Int), .int .u8 (n : Int), .bool ok] 58)) 35 #[.slice A0 n0 c0, .slice B0 q0 d0, .slice X0 xn0 xc0, .slice Y0 yn0 yc0, .int .i64 t0]).more (.cells #[.int .i64 0, .int .i64 0, .int .i64 0, .int .i64 0, .int .i64 0, .int .i64 0, .int .i64 0, .int .i64 0, .int .i64 0, .bool false] 53)
 rw [alloc_size] at nb1
 have nb2 := Blk.new ((w.alloc (.cells #[.int .u8 (what : Int), .int .u8 (key : Int), .int .u8 (op : Int), .int .u8 (qa : Int), .int .u8 (qb : Int), .int .u16 (amt : Int), .int .u8 (legs : Int), .int .u8 (til : Int), .int .u8 (n : Int), .bool ok] 58)).alloc (.cells #[.slice A0 n0 c0, .slice B0 q0 d0, .slice X0 xn0 xc0, .slice Y0 yn0 yc0, .int .i64 t0] 35)) 53 #[.int .i64 0, .int .i64 0, .int .i64 0, .int .i64 0, .int .i64 0, .int .i64 0, .int .i64 0, .int .i64 0, .int .i64 0, .bool false]
 rw [alloc_size, alloc_size] at nb2
 have HL_1 := Lib.hid (HL_0.out.trans (al.mono HL_0.out.size))
 have HV_1 := Lib.hid (HV_0.out.below al)
 clear al HL_0 HV_0
 have H_1 := Lib.hid (nb0)
 have S_1 := Lib.hid (nb1)
 have E_1 := Lib.hid (nb2)
 clear nb0 nb1 nb2
 generalize ((w.alloc (.cells #[.int .u8 (what : Int), .int .u8 (key : Int), .int .u8 (op : Int), .int .u8 (qa : Int), .int .u8 (qb : Int), .int .u16 (amt : Int), .int .u8 (legs : Int), .int .u8 (til : Int), .int .u8 (n : Int), .bool ok] 58)).alloc (.cells #[.slice A0 n0 c0, .slice B0 q0 d0, .slice X0 xn0 xc0, .slice Y0 yn0 yc0, .int .i64 t0] 35)).alloc (.cells #[.int .i64 0, .int .i64 0, .int .i64 0, .int .i64 0, .int .i64 0, .int .i64 0, .int .i64 0, .int .i64 0, .int .i64 0, .bool false] 53) = w1 at HL_1 HV_1 H_1 S_1 E_1 ⊢
 obtain ⟨x0, x1, x2, x3, x4, x5, x6, x7, x8, x9⟩ := (show _ ∧ _ ∧ _ ∧ _ ∧ _ ∧ _ ∧ _ ∧ _ ∧ _ ∧ _ from ⟨H_1.out.cell 0 rfl, H_1.out.cell 1 rfl, H_1.out.cell 2 rfl, H_1.out.cell 3 rfl, H_1.out.cell 4 rfl, H_1.out.cell 5 rfl, H_1.out.cell 6 rfl, H_1.out.cell 7 rfl, H_1.out.cell 8 rfl, H_1.out.cell 9 rfl⟩)
 obtain ⟨z0, z1, z2, z3, z4, z5, z6, z7, z8, z9⟩ := (show _ ∧ _ ∧ _ ∧ _ ∧ _ ∧ _ ∧ _ ∧ _ ∧ _ ∧ _ from ⟨E_1.out.cell 0 rfl, E_1.out.cell 1 rfl, E_1.out.cell 2 rfl, E_1.out.cell 3 rfl, E_1.out.cell 4 rfl, E_1.out.cell 5 rfl, E_1.out.cell 6 rfl, E_1.out.cell 7 rfl, E_1.out.cell 8 rfl, E_1.out.cell 9 rfl⟩)
 obtain ⟨e0, e1, e2, e3, e4, e5, e6, e7, e8, e9⟩ := (show _ ∧ _ ∧ _ ∧ _ ∧ _ ∧ _ ∧ _ ∧ _ ∧ _ ∧ _ from ⟨E_1.out.loose 0, E_1.out.loose 1, E_1.out.loose 2, E_1.out.loose 3, E_1.out.loose 4, E_1.out.loose 5, E_1.out.loose 6, E_1.out.loose 7, E_1.out.loose 8, E_1.out.loose 9⟩)
 go_wp2
 have HP := ev_put E_1.out rfl (.int .i64 2) (.int .i64 0) (.int .i64 0) (.int .i64 0) (.int .i64 0) (.int .i64 0) (.int .i64 0) (.int .i64 0) (.int .i64 0) (.bool false)
 have HPB := ev_below HL_1.out (show w.heap.size ≤ w.heap.size + 1 + 1 by omega) (.int .i64 2) (.int .i64 0) (.int .i64 0) (.int .i64 0) (.int .i64 0) (.int .i64 0) (.int .i64 0) (.int .i64 0) (.int .i64 0) (.bool false)
 refine bodyPost_ret (results_cell_row (p := 4) (ty := 53) rfl _ _ (w.heap.size + 1 + 1) _ _ (0, 0) _ rfl HP Tryz.underlying53 rfl (by kernel_rfl)) rfl ?_
 exact ⟨rfl, HPB⟩
set_option maxRecDepth 100000 in
set_option maxHeartbeats 4000000 in
theorem event_none (z : EA) (hz : z.fits) (V : Sv) (T : St) (sl : List Sg) (kl : List Kn) (w : World) (hV : SkAt w V T sl kl) (hsl : sl.length ≤ 2000000) (hk : z.what % 8 = 5 ∨ z.what % 8 = 6 ∨ z.what % 8 = 7) (h0 : sl.length = 0) :
  Calls Tryz.prog 15 #[.agg z.cells.toArray, V.val] w (EvRes w ⟨1, Rq.zero, (z.n : Int), z.ok⟩) := by
 have HV_0 := Lib.hid hV
 have HL_0 := Lib.hid (Below.refl w.heap.size w)
 have HXN := Lib.hid hV.xn
 obtain ⟨A0, n0, c0, B0, q0, d0, X0, xn0, xc0, Y0, yn0, yc0, t0⟩ := V
 obtain ⟨what, ⟨key, op, qa, qb, amt, legs, til⟩, n, ok⟩ := z
 obtain ⟨f0, f1, f2⟩ := hz
 unfold EvRes Sv.val Sv.cells EA.cells Ev.cells
 dsimp only at hk f0 f2 HXN ⊢
 have hxn : sl.length = xn0 := HXN.out
 have g0 := decide_eq_false (show ¬ (0 : Int) < (xn0 : Int) by omega)
 have g0' := decide_eq_false (show ¬ 0 < xn0 by omega)
 have hnw : (n : Int) ≤ 255 := by omega
 unfold Rq.zero
 dsimp only
 rcases hk with hk | hk | hk
 all_goals
  first | have wq0 : (what : Int) % 8 = 5 := by omega | have wq0 : (what : Int) % 8 = 6 := by omega | have wq0 : (what : Int) % 8 = 7 := by omega
  clear hV hsl f0 f1 f2 hk HXN h0 hxn
  go_enter Tryz.func15, Tryz.ntmps15
  go_upto_region 1 with fail
  have al := (Below.refl w.heap.size w).alloc (Nat.le_refl _) (.cells #[.int .u8 (what : Int), .int .u8 (key : Int), .int .u8 (op : Int), .int .u8 (qa : Int), .int .u8 (qb : Int), .int .u16 (amt : Int), .int .u8 (legs : Int), .int .u8 (til : Int), .int .u8 (n : Int), .bool ok] 58)
  replace al := al.alloc (by simp; try omega) (.cells #[.slice A0 n0 c0, .slice B0 q0 d0, .slice X0 xn0 xc0, .slice Y0 yn0 yc0, .int .i64 t0] 35)
  replace al := al.alloc (by simp; try omega) (.cells #[.int .i64 0, .int .i64 0, .int .i64 0, .int .i64 0, .int .i64 0, .int .i64 0, .int .i64 0, .int .i64 0, .int .i64 0, .bool false] 53)
  have nb0 := ((Blk.new w 58 #[.int .u8 (what : Int), .int .u8 (key : Int), .int .u8 (op : Int), .int .u8 (qa : Int), .int .u8 (qb : Int), .int .u16 (amt : Int), .int .u8 (legs : Int), .int .u8 (til : Int), .int .u8 (n : Int), .bool ok]).more (.cells #[.slice A0 n0 c0, .slice B0 q0 d0, .slice X0 xn0 xc0, .slice Y0 yn0 yc0, .int .i64 t0] 35)).more (.cells #[.int .i64 0, .int .i64 0, .int .i64 0, .int .i64 0, .int .i64 0, .int .i64 0, .int .i64 0, .int .i64 0, .int .i64 0, .bool false] 53)
  have nb1 := (Blk.new (w.alloc (.cells #[.int .u8 (what : Int), .int .u8 (key : Int), .int .u8 (op : Int), .int .u8 (qa : Int), .int .u8 (qb : Int), .int .u16 (amt : Int), .int .u8 (legs : Int), .int .u8 (til : Int), .int .u8 (n : Int), .bool ok] 58)) 35 #[.slice A0 n0 c0, .slice B0 q0 d0, .slice X0 xn0 xc0, .slice Y0 yn0 yc0, .int .i64 t0]).more (.cells #[.int .i64 0, .int .i64 0, .int .i64 0, .int .i64 0, .int .i64 0, .int .i64 0, .int .i64 0, .int .i64 0, .int .i64 0, .bool false] 53)
  rw [alloc_size] at nb1
  have nb2 := Blk.new ((w.alloc (.cells #[.int .u8 (what : Int), .int .u8 (key : Int), .int .u8 (op : Int), .int .u8 (qa : Int), .int .u8 (qb : Int), .int .u16 (amt : Int), .int .u8 (legs : Int), .int .u8 (til : Int), .int .u8 (n : Int), .bool ok] 58)).alloc (.cells #[.slice A0 n0 c0, .slice B0 q0 d0, .slice X0 xn0 xc0, .slice Y0 yn0 yc0, .int .i64 t0] 35)) 53 #[.int .i64 0, .int .i64 0, .int .i64 0, .int .i64 0, .int .i64 0, .int .i64 0, .int .i64 0, .int .i64 0, .int .i64 0, .bool false]
  rw [alloc_size, alloc_size] at nb2
  have HL_1 := Lib.hid (HL_0.out.trans (al.mono HL_0.out.size))
  have HV_1 := Lib.hid (HV_0.out.below al)
  clear al HL_0 HV_0
  have H_1 := Lib.hid (nb0)
  have S_1 := Lib.hid (nb1)
  have E_1 := Lib.hid (nb2)
  clear nb0 nb1 nb2
  generalize ((w.alloc (.cells #[.int .u8 (what : Int), .int .u8 (key : Int), .int .u8 (op : Int), .int .u8 (qa : Int), .int .u8 (qb : Int), .int .u16 (amt : Int), .int .u8 (legs : Int), .int .u8 (til : Int), .int .u8 (n : Int), .bool ok] 58)).alloc (.cells #[.slice A0 n0 c0, .slice B0 q0 d0, .slice X0 xn0 xc0, .slice Y0 yn0 yc0, .int .i64 t0] 35)).alloc (.cells #[.int .i64 0, .int .i64 0, .int .i64 0, .int .i64 0, .int .i64 0, .int .i64 0, .int .i64 0, .int .i64 0, .int .i64 0, .bool false] 53) = w1 at HL_1 HV_1 H_1 S_1 E_1 ⊢
  obtain ⟨x0, x1, x2, x3, x4, x5, x6, x7, x8, x9⟩ := (show _ ∧ _ ∧ _ ∧ _ ∧ _ ∧ _ ∧ _ ∧ _ ∧ _ ∧ _ from ⟨H_1.out.cell 0 rfl, H_1.out.cell 1 rfl, H_1.out.cell 2 rfl, H_1.out.cell 3 rfl, H_1.out.cell 4 rfl, H_1.out.cell 5 rfl, H_1.out.cell 6 rfl, H_1.out.cell 7 rfl, H_1.out.cell 8 rfl, H_1.out.cell 9 rfl⟩)
  have s2 := S_1.out.cell 2 rfl
  obtain ⟨z0, z1, z2, z3, z4, z5, z6, z7, z8, z9⟩ := (show _ ∧ _ ∧ _ ∧ _ ∧ _ ∧ _ ∧ _ ∧ _ ∧ _ ∧ _ from ⟨E_1.out.cell 0 rfl, E_1.out.cell 1 rfl, E_1.out.cell 2 rfl, E_1.out.cell 3 rfl, E_1.out.cell 4 rfl, E_1.out.cell 5 rfl, E_1.out.cell 6 rfl, E_1.out.cell 7 rfl, E_1.out.cell 8 rfl, E_1.out.cell 9 rfl⟩)
  obtain ⟨e0, e1, e2, e3, e4, e5, e6, e7, e8, e9⟩ := (show _ ∧ _ ∧ _ ∧ _ ∧ _ ∧ _ ∧ _ ∧ _ ∧ _ ∧ _ from ⟨E_1.out.loose 0, E_1.out.loose 1, E_1.out.loose 2, E_1.out.loose 3, E_1.out.loose 4, E_1.out.loose 5, E_1.out.loose 6, E_1.out.loose 7, E_1.out.loose 8, E_1.out.loose 9⟩)
  go_wp2
  have HP := ev_put E_1.out rfl (.int .i64 1) (.int .i64 0) (.int .i64 0) (.int .i64 0) (.int .i64 0) (.int .i64 0) (.int .i64 0) (.int .i64 0) (.int .i64 (n : Int)) (.bool ok)
  have HPB := ev_below HL_1.out (show w.heap.size ≤ w.heap.size + 1 + 1 by omega) (.int .i64 1) (.int .i64 0) (.int .i64 0) (.int .i64 0) (.int .i64 0) (.int .i64 0) (.int .i64 0) (.int .i64 0) (.int .i64 (n : Int)) (.bool ok)
  refine bodyPost_ret (results_cell_row (p := 4) (ty := 53) rfl _ _ (w.heap.size + 1 + 1) _ _ (0, 0) _ rfl HP Tryz.underlying53 rfl (by kernel_rfl)) rfl ?_
  exact ⟨rfl, HPB⟩
set_option maxRecDepth 100000 in
set_option maxHeartbeats 4000000 in
theorem event_far (z : EA) (hz : z.fits) (V : Sv) (T : St) (sl : List Sg) (kl : List Kn) (w : World) (hV : SkAt w V T sl kl) (hsl : sl.length ≤ 2000000) (hk : z.what % 8 = 5 ∨ z.what % 8 = 6 ∨ z.what % 8 = 7) (h0 : 0 < sl.length) (h250 : ¬ z.n < 250) :
  Calls Tryz.prog 15 #[.agg z.cells.toArray, V.val] w (EvRes w ⟨1, Rq.zero, (z.n : Int), z.ok⟩) := by
 have HV_0 := Lib.hid hV
 have HL_0 := Lib.hid (Below.refl w.heap.size w)
 have HXN := Lib.hid hV.xn
 obtain ⟨A0, n0, c0, B0, q0, d0, X0, xn0, xc0, Y0, yn0, yc0, t0⟩ := V
 obtain ⟨what, ⟨key, op, qa, qb, amt, legs, til⟩, n, ok⟩ := z
 obtain ⟨f0, f1, f2⟩ := hz
 unfold EvRes Sv.val Sv.cells EA.cells Ev.cells
 dsimp only at hk f0 f2 HXN ⊢
 have hxn : sl.length = xn0 := HXN.out
 have g0 := decide_eq_true (show (0 : Int) < (xn0 : Int) by omega)
 have g0' := decide_eq_true (show 0 < xn0 by omega)
 dsimp only at h250
 have g1 := decide_eq_false (show ¬ (n : Int) < 250 by omega)
 have g1' := decide_eq_false (show ¬ n < 250 by omega)
 have hnw : (n : Int) ≤ 255 := by omega
 unfold Rq.zero
 dsimp only
 rcases hk with hk | hk | hk
 all_goals
  first | have wq0 : (what : Int) % 8 = 5 := by omega | have wq0 : (what : Int) % 8 = 6 := by omega | have wq0 : (what : Int) % 8 = 7 := by omega
  clear hV hsl f0 f1 f2 hk HXN h0 hxn h250
  go_enter Tryz.func15, Tryz.ntmps15
  go_upto_region 1 with fail
  have al := (Below.refl w.heap.size w).alloc (Nat.le_refl _) (.cells #[.int .u8 (what : Int), .int .u8 (key : Int), .int .u8 (op : Int), .int .u8 (qa : Int), .int .u8 (qb : Int), .int .u16 (amt : Int), .int .u8 (legs : Int), .int .u8 (til : Int), .int .u8 (n : Int), .bool ok] 58)
  replace al := al.alloc (by simp; try omega) (.cells #[.slice A0 n0 c0, .slice B0 q0 d0, .slice X0 xn0 xc0, .slice Y0 yn0 yc0, .int .i64 t0] 35)
  replace al := al.alloc (by simp; try omega) (.cells #[.int .i64 0, .int .i64 0, .int .i64 0, .int .i64 0, .int .i64 0, .int .i64 0, .int .i64 0, .int .i64 0, .int .i64 0, .bool false] 53)
  have nb0 := ((Blk.new w 58 #[.int .u8 (what : Int), .int .u8 (key : Int), .int .u8 (op : Int), .int .u8 (qa : Int), .int .u8 (qb : Int), .int .u16 (amt : Int), .int .u8 (legs : Int), .int .u8 (til : Int), .int .u8 (n : Int), .bool ok]).more (.cells #[.slice A0 n0 c0, .slice B0 q0 d0, .slice X0 xn0 xc0, .slice Y0 yn0 yc0, .int .i64 t0] 35)).more (.cells #[.int .i64 0, .int .i64 0, .int .i64 0, .int .i64 0, .int .i64 0, .int .i64 0, .int .i64 0, .int .i64 0, .int .i64 0, .bool false] 53)
  have nb1 := (Blk.new (w.alloc (.cells #[.int .u8 (what : Int), .int .u8 (key : Int), .int .u8 (op : Int), .int .u8 (qa : Int), .int .u8 (qb : Int), .int .u16 (amt : Int), .int .u8 (legs : Int), .int .u8 (til : Int), .int .u8 (n : Int), .bool ok] 58)) 35 #[.slice A0 n0 c0, .slice B0 q0 d0, .slice X0 xn0 xc0, .slice Y0 yn0 yc0, .int .i64 t0]).more (.cells #[.int .i64 0, .int .i64 0, .int .i64 0, .int .i64 0, .int .i64 0, .int .i64 0, .int .i64 0, .int .i64 0, .int .i64 0, .bool false] 53)
  rw [alloc_size] at nb1
  have nb2 := Blk.new ((w.alloc (.cells #[.int .u8 (what : Int), .int .u8 (key : Int), .int .u8 (op : Int), .int .u8 (qa : Int), .int .u8 (qb : Int), .int .u16 (amt : Int), .int .u8 (legs : Int), .int .u8 (til : Int), .int .u8 (n : Int), .bool ok] 58)).alloc (.cells #[.slice A0 n0 c0, .slice B0 q0 d0, .slice X0 xn0 xc0, .slice Y0 yn0 yc0, .int .i64 t0] 35)) 53 #[.int .i64 0, .int .i64 0, .int .i64 0, .int .i64 0, .int .i64 0, .int .i64 0, .int .i64 0, .int .i64 0, .int .i64 0, .bool false]
  rw [alloc_size, alloc_size] at nb2
  have HL_1 := Lib.hid (HL_0.out.trans (al.mono HL_0.out.size))
  have HV_1 := Lib.hid (HV_0.out.below al)
  clear al HL_0 HV_0
  have H_1 := Lib.hid (nb0)
  have S_1 := Lib.hid (nb1)
  have E_1 := Lib.hid (nb2)
  clear nb0 nb1 nb2
  generalize ((w.alloc (.cells #[.int .u8 (what : Int), .int .u8 (key : Int), .int .u8 (op : Int), .int .u8 (qa : Int), .int .u8 (qb : Int), .int .u16 (amt : Int), .int .u8 (legs : Int), .int .u8 (til : Int), .int .u8 (n : Int), .bool ok] 58)).alloc (.cells #[.slice A0 n0 c0, .slice B0 q0 d0, .slice X0 xn0 xc0, .slice Y0 yn0 yc0, .int .i64 t0] 35)).alloc (.cells #[.int .i64 0, .int .i64 0, .int .i64 0, .int .i64 0, .int .i64 0, .int .i64 0, .int .i64 0, .int .i64 0, .int .i64 0, .bool false] 53) = w1 at HL_1 HV_1 H_1 S_1 E_1 ⊢
  obtain ⟨x0, x1, x2, x3, x4, x5, x6, x7, x8, x9⟩ := (show _ ∧ _ ∧ _ ∧ _ ∧ _ ∧ _ ∧ _ ∧ _ ∧ _ ∧ _ from ⟨H_1.out.cell 0 rfl, H_1.out.cell 1 rfl, H_1.out.cell 2 rfl, H_1.out.cell 3 rfl, H_1.out.cell 4 rfl, H_1.out.cell 5 rfl, H_1.out.cell 6 rfl, H_1.out.cell 7 rfl, H_1.out.cell 8 rfl, H_1.out.cell 9 rfl⟩)
  have s2 := S_1.out.cell 2 rfl
  obtain ⟨z0, z1, z2, z3, z4, z5, z6, z7, z8, z9⟩ := (show _ ∧ _ ∧ _ ∧ _ ∧ _ ∧ _ ∧ _ ∧ _ ∧ _ ∧ _ from ⟨E_1.out.cell 0 rfl, E_1.out.cell 1 rfl, E_1.out.cell 2 rfl, E_1.out.cell 3 rfl, E_1.out.cell 4 rfl, E_1.out.cell 5 rfl, E_1.out.cell 6 rfl, E_1.out.cell 7 rfl, E_1.out.cell 8 rfl, E_1.out.cell 9 rfl⟩)
  obtain ⟨e0, e1, e2, e3, e4, e5, e6, e7, e8, e9⟩ := (show _ ∧ _ ∧ _ ∧ _ ∧ _ ∧ _ ∧ _ ∧ _ ∧ _ ∧ _ from ⟨E_1.out.loose 0, E_1.out.loose 1, E_1.out.loose 2, E_1.out.loose 3, E_1.out.loose 4, E_1.out.loose 5, E_1.out.loose 6, E_1.out.loose 7, E_1.out.loose 8, E_1.out.loose 9⟩)
  go_wp2
  have HP := ev_put E_1.out rfl (.int .i64 1) (.int .i64 0) (.int .i64 0) (.int .i64 0) (.int .i64 0) (.int .i64 0) (.int .i64 0) (.int .i64 0) (.int .i64 (n : Int)) (.bool ok)
  have HPB := ev_below HL_1.out (show w.heap.size ≤ w.heap.size + 1 + 1 by omega) (.int .i64 1) (.int .i64 0) (.int .i64 0) (.int .i64 0) (.int .i64 0) (.int .i64 0) (.int .i64 0) (.int .i64 0) (.int .i64 (n : Int)) (.bool ok)
  refine bodyPost_ret (results_cell_row (p := 4) (ty := 53) rfl _ _ (w.heap.size + 1 + 1) _ _ (0, 0) _ rfl HP Tryz.underlying53 rfl (by kernel_rfl)) rfl ?_
  exact ⟨rfl, HPB⟩
set_option maxRecDepth 100000 in
set_option maxHeartbeats 4000000 in
theorem event_near (z : EA) (hz : z.fits) (V : Sv) (T : St) (sl : List Sg) (kl : List Kn) (w : World) (hV : SkAt w V T sl kl) (hsl : sl.length ≤ 2000000) (hk : z.what % 8 = 5 ∨ z.what % 8 = 6 ∨ z.what % 8 = 7) (g : Sg) (h0 : 0 < sl.length) (h250 : z.n < 250) (hg : sl[z.n % sl.length]? = some g) :
  Calls Tryz.prog 15 #[.agg z.cells.toArray, V.val] w (EvRes w ⟨1, Rq.zero, g.rq.key, z.ok⟩) := by
 have HV_0 := Lib.hid hV
 have HL_0 := Lib.hid (Below.refl w.heap.size w)
 have HXN := Lib.hid hV.xn
 obtain ⟨A0, n0, c0, B0, q0, d0, X0, xn0, xc0, Y0, yn0, yc0, t0⟩ := V
 obtain ⟨what, ⟨key, op, qa, qb, amt, legs, til⟩, n, ok⟩ := z
 obtain ⟨f0, f1, f2⟩ := hz
 unfold EvRes Sv.val Sv.cells EA.cells Ev.cells
 dsimp only at hk f0 f2 HXN ⊢
 have hxn : sl.length = xn0 := HXN.out
 dsimp only at h250 hg
 have g0 := decide_eq_true (show (0 : Int) < (xn0 : Int) by omega)
 have g0' := decide_eq_true (show 0 < xn0 by omega)
 have g1 := decide_eq_true (show (n : Int) < 250 by omega)
 have g1' := decide_eq_true (show n < 250 by omega)
 obtain ⟨m, hm⟩ : ∃ m, n % xn0 = m := ⟨_, rfl⟩
 have hml : m < xn0 := by rw [← hm]; exact Nat.mod_lt _ (by omega)
 have hm1 : (n : Int) % (xn0 : Int) = (m : Int) := by rw [← hm]; exact (Int.natCast_emod n xn0).symm
 have hm2 : (n : Int).tmod (xn0 : Int) = (m : Int) := by rw [Int.tmod_eq_emod_of_nonneg (by omega)]; exact hm1
 rw [hxn, hm] at hg
 obtain ⟨ky, hky⟩ : ∃ k, g.rq.key = k := ⟨_, rfl⟩
 rw [hky]
 have HKY := Lib.hid hky
 have hxs : ¬ (xn0 : Int) = 0 := by omega
 have hxs' : ¬ xn0 = 0 := by omega
 have hwn : IntKind.i64.wrap (n : Int) = (n : Int) := by rw [IntKind.wrap_i64]; omega
 have hnw : (n : Int) ≤ 255 := by omega
 have hxb : xn0 ≤ 2000000 := by omega
 unfold Rq.zero
 dsimp only
 rcases hk with hk | hk | hk
 all_goals
  first | have wq0 : (what : Int) % 8 = 5 := by omega | have wq0 : (what : Int) % 8 = 6 := by omega | have wq0 : (what : Int) % 8 = 7 := by omega
  clear hV hsl f0 f1 f2 hk HXN h0 hxn hky hm h250
  go_enter Tryz.func15, Tryz.ntmps15
  go_upto_region 1 with fail
  have al := (Below.refl w.heap.size w).alloc (Nat.le_refl _) (.cells #[.int .u8 (what : Int), .int .u8 (key : Int), .int .u8 (op : Int), .int .u8 (qa : Int), .int .u8 (qb : Int), .int .u16 (amt : Int), .int .u8 (legs : Int), .int .u8 (til : Int), .int .u8 (n : Int), .bool ok] 58)
  replace al := al.alloc (by simp; try omega) (.cells #[.slice A0 n0 c0, .slice B0 q0 d0, .slice X0 xn0 xc0, .slice Y0 yn0 yc0, .int .i64 t0] 35)
  replace al := al.alloc (by simp; try omega) (.cells #[.int .i64 0, .int .i64 0, .int .i64 0, .int .i64 0, .int .i64 0, .int .i64 0, .int .i64 0, .int .i64 0, .int .i64 0, .bool false] 53)
  have nb0 := ((Blk.new w 58 #[.int .u8 (what : Int), .int .u8 (key : Int), .int .u8 (op : Int), .int .u8 (qa : Int), .int .u8 (qb : Int), .int .u16 (amt : Int), .int .u8 (legs : Int), .int .u8 (til : Int), .int .u8 (n : Int), .bool ok]).more (.cells #[.slice A0 n0 c0, .slice B0 q0 d0, .slice X0 xn0 xc0, .slice Y0 yn0 yc0, .int .i64 t0] 35)).more (.cells #[.int .i64 0, .int .i64 0, .int .i64 0, .int .i64 0, .int .i64 0, .int .i64 0, .int .i64 0, .int .i64 0, .int .i64 0, .bool false] 53)
  have nb1 := (Blk.new (w.alloc (.cells #[.int .u8 (what : Int), .int .u8 (key : Int), .int .u8 (op : Int), .int .u8 (qa : Int), .int .u8 (qb : Int), .int .u16 (amt : Int), .int .u8 (legs : Int), .int .u8 (til : Int), .int .u8 (n : Int), .bool ok] 58)) 35 #[.slice A0 n0 c0, .slice B0 q0 d0, .slice X0 xn0 xc0, .slice Y0 yn0 yc0, .int .i64 t0]).more (.cells #[.int .i64 0, .int .i64 0, .int .i64 0, .int .i64 0, .int .i64 0, .int .i64 0, .int .i64 0, .int .i64 0, .int .i64 0, .bool false] 53)
  rw [alloc_size] at nb1
  have nb2 := Blk.new ((w.alloc (.cells #[.int .u8 (what : Int), .int .u8 (key : Int), .int .u8 (op : Int), .int .u8 (qa : Int), .int .u8 (qb : Int), .int .u16 (amt : Int), .int .u8 (legs : Int), .int .u8 (til : Int), .int .u8 (n : Int), .bool ok] 58)).alloc (.cells #[.slice A0 n0 c0, .slice B0 q0 d0, .slice X0 xn0 xc0, .slice Y0 yn0 yc0, .int .i64 t0] 35)) 53 #[.int .i64 0, .int .i64 0, .int .i64 0, .int .i64 0, .int .i64 0, .int .i64 0, .int .i64 0, .int .i64 0, .int .i64 0, .bool false]
  rw [alloc_size, alloc_size] at nb2
  have HL_1 := Lib.hid (HL_0.out.trans (al.mono HL_0.out.size))
  have HV_1 := Lib.hid (HV_0.out.below al)
  clear al HL_0 HV_0
  have H_1 := Lib.hid (nb0)
  have S_1 := Lib.hid (nb1)
  have E_1 := Lib.hid (nb2)
  clear nb0 nb1 nb2
  generalize ((w.alloc (.cells #[.int .u8 (what : Int), .int .u8 (key : Int), .int .u8 (op : Int), .int .u8 (qa : Int), .int .u8 (qb : Int), .int .u16 (amt : Int), .int .u8 (legs : Int), .int .u8 (til : Int), .int .u8 (n : Int), .bool ok] 58)).alloc (.cells #[.slice A0 n0 c0, .slice B0 q0 d0, .slice X0 xn0 xc0, .slice Y0 yn0 yc0, .int .i64 t0] 35)).alloc (.cells #[.int .i64 0, .int .i64 0, .int .i64 0, .int .i64 0, .int .i64 0, .int .i64 0, .int .i64 0, .int .i64 0, .int .i64 0, .bool false] 53) = w1 at HL_1 HV_1 H_1 S_1 E_1 ⊢
  obtain ⟨ad, ea, hat⟩ := HV_1.out.sag.at_ hg
  dsimp only at ea
  subst ea
  have k0 := (sg_cells hat).1
  rw [HKY.out] at k0
  clear hat hg HKY
  obtain ⟨x0, x1, x2, x3, x4, x5, x6, x7, x8, x9⟩ := (show _ ∧ _ ∧ _ ∧ _ ∧ _ ∧ _ ∧ _ ∧ _ ∧ _ ∧ _ from ⟨H_1.out.cell 0 rfl, H_1.out.cell 1 rfl, H_1.out.cell 2 rfl, H_1.out.cell 3 rfl, H_1.out.cell 4 rfl, H_1.out.cell 5 rfl, H_1.out.cell 6 rfl, H_1.out.cell 7 rfl, H_1.out.cell 8 rfl, H_1.out.cell 9 rfl⟩)
  have s2 := S_1.out.cell 2 rfl
  go_upto_region 11 with fail
  refine wp_region_held_drew (S := fun w' => Below w1.heap.size w1 w') (by kernel_rfl) (Below.refl _ _).drew (fun hHeld => ?_)
  refine tk 0 33 (v := ?_) ?_ ?_
  rotate_left
  · intro w' hSw
    go_simp
    (try with_reducible rfl)
  (try simp only [Act.put, sA, sB, sC])
  refine tk 1 34 (v := ?_) ?_ ?_
  rotate_left
  · intro w' hSw
    have hSw' := hSw
    (try dsimp only at hSw')
    have j2 := (S_1.out.later hSw').cell 2 rfl
    go_simp
    (try with_reducible rfl)
  (try simp only [Act.put, sA, sB, sC])
  refine tk 2 35 (v := ?_) ?_ ?_
  rotate_left
  · intro w' hSw
    go_simp
    (try with_reducible rfl)
  (try simp only [Act.put, sA, sB, sC])
  refine tk 3 36 (v := ?_) ?_ ?_
  rotate_left
  · intro w' hSw
    have hSw' := hSw
    (try dsimp only at hSw')
    have j8 := (H_1.out.later hSw').cell 8 rfl
    go_simp
    (try with_reducible rfl)
  (try simp only [Act.put, sA, sB, sC])
  refine tk 4 37 (v := ?_) ?_ ?_
  rotate_left
  · intro w' hSw
    go_simp
    (try with_reducible rfl)
  (try simp only [Act.put, sA, sB, sC])
  refine tk 5 38 (v := ?_) ?_ ?_
  rotate_left
  · intro w' hSw
    go_simp
    (try with_reducible rfl)
  (try simp only [Act.put, sA, sB, sC])
  refine tk 6 39 (v := ?_) ?_ ?_
  rotate_left
  · intro w' hSw
    have hSw' := hSw
    (try dsimp only at hSw')
    have j2 := (S_1.out.later hSw').cell 2 rfl
    go_simp
    (try with_reducible rfl)
  (try simp only [Act.put, sA, sB, sC])
  refine tk 7 40 (v := ?_) ?_ ?_
  rotate_left
  · intro w' hSw
    go_simp
    (try with_reducible rfl)
  (try simp only [Act.put, sA, sB, sC])
  refine tk 8 41 (v := ?_) ?_ ?_
  rotate_left
  · intro w' hSw
    go_simp
    (try with_reducible rfl)
  (try simp only [Act.put, sA, sB, sC])
  refine tk 9 42 (v := ?_) ?_ ?_
  rotate_left
  · intro w' hSw
    go_simp
    (try with_reducible rfl)
  (try simp only [Act.put, sA, sB, sC])
  refine tk 10 43 (v := ?_) ?_ ?_
  rotate_left
  · intro w' hSw
    go_simp
    (try with_reducible rfl)
  (try simp only [Act.put, sA, sB, sC])
  refine tk 11 44 (v := ?_) ?_ ?_
  rotate_left
  · intro w' hSw
    go_simp
    (try with_reducible rfl)
  (try simp only [Act.put, sA, sB, sC])
  refine tk 12 45 (v := ?_) ?_ ?_
  rotate_left
  · intro w' hSw
    have hSw' := hSw
    (try dsimp only at hSw')
    have j0 := (hSw'.cell (World.block_lt_of_cell? _ _ k0)).trans k0
    go_simp
    (try with_reducible rfl)
  (try simp only [Act.put, sA, sB, sC])
  refine tk 13 5 (v := ?_) ?_ ?_
  rotate_left
  · intro w' hSw
    go_simp
    (try with_reducible rfl)
  (try simp only [Act.put, sA, sB, sC])
  refine wpAnyH_done (by kernel_rfl) ?_ _
  have hbd : Below w1.heap.size w1 w1.drew := (Below.refl _ _).drew
  clear k0 s2 hHeld x0 x1 x2 x3 x4 x5 x6 x7 x8 x9
  have HL_2 := Lib.hid (HL_1.out.trans (hbd.mono HL_1.out.size))
  have HV_2 := Lib.hid (HV_1.out.below hbd)
  have H_2 := Lib.hid (H_1.out.later hbd)
  have S_2 := Lib.hid (S_1.out.later hbd)
  have E_2 := Lib.hid (E_1.out.later hbd)
  clear HL_1 HV_1 H_1 S_1 E_1
  clear hbd
  generalize w1.drew = w2 at HL_2 HV_2 H_2 S_2 E_2 ⊢
  obtain ⟨x0, x1, x2, x3, x4, x5, x6, x7, x8, x9⟩ := (show _ ∧ _ ∧ _ ∧ _ ∧ _ ∧ _ ∧ _ ∧ _ ∧ _ ∧ _ from ⟨H_2.out.cell 0 rfl, H_2.out.cell 1 rfl, H_2.out.cell 2 rfl, H_2.out.cell 3 rfl, H_2.out.cell 4 rfl, H_2.out.cell 5 rfl, H_2.out.cell 6 rfl, H_2.out.cell 7 rfl, H_2.out.cell 8 rfl, H_2.out.cell 9 rfl⟩)
  obtain ⟨z0, z1, z2, z3, z4, z5, z6, z7, z8, z9⟩ := (show _ ∧ _ ∧ _ ∧ _ ∧ _ ∧ _ ∧ _ ∧ _ ∧ _ ∧ _ from ⟨E_2.out.cell 0 rfl, E_2.out.cell 1 rfl, E_2.out.cell 2 rfl, E_2.out.cell 3 rfl, E_2.out.cell 4 rfl, E_2.out.cell 5 rfl, E_2.out.cell 6 rfl, E_2.out.cell 7 rfl, E_2.out.cell 8 rfl, E_2.out.cell 9 rfl⟩)
  obtain ⟨e0, e1, e2, e3, e4, e5, e6, e7, e8, e9⟩ := (show _ ∧ _ ∧ _ ∧ _ ∧ _ ∧ _ ∧ _ ∧ _ ∧ _ ∧ _ from ⟨E_2.out.loose 0, E_2.out.loose 1, E_2.out.loose 2, E_2.out.loose 3, E_2.out.loose 4, E_2.out.loose 5, E_2.out.loose 6, E_2.out.loose 7, E_2.out.loose 8, E_2.out.loose 9⟩)
  go_wp2
  have HP := ev_put E_2.out rfl (.int .i64 1) (.int .i64 0) (.int .i64 0) (.int .i64 0) (.int .i64 0) (.int .i64 0) (.int .i64 0) (.int .i64 0) (.int .i64 ky) (.bool ok)
  have HPB := ev_below HL_2.out (show w.heap.size ≤ w.heap.size + 1 + 1 by omega) (.int .i64 1) (.int .i64 0) (.int .i64 0) (.int .i64 0) (.int .i64 0) (.int .i64 0) (.int .i64 0) (.int .i64 0) (.int .i64 ky) (.bool ok)
  refine bodyPost_ret (results_cell_row (p := 4) (ty := 53) rfl _ _ (w.heap.size + 1 + 1) _ _ (0, 0) _ rfl HP Tryz.underlying53 rfl (by kernel_rfl)) rfl ?_
  exact ⟨rfl, HPB⟩
theorem event_step (z : EA) (hz : z.fits) (V : Sv) (T : St) (sl : List Sg) (kl : List Kn) (w : World) (hV : SkAt w V T sl kl) (hsl : sl.length ≤ 2000000) (hk : z.what % 8 = 5 ∨ z.what % 8 = 6 ∨ z.what % 8 = 7) :
  Calls Tryz.prog 15 #[.agg z.cells.toArray, V.val] w (EvRes w ⟨1, Rq.zero, z.stepKey sl, z.ok⟩) := by
 unfold EA.stepKey
 by_cases h0 : 0 < sl.length
 · by_cases h250 : z.n < 250
   · obtain ⟨g, hg⟩ : ∃ g, sl[z.n % sl.length]? = some g := ⟨_, List.getElem?_eq_getElem (Nat.mod_lt _ h0)⟩
     rw [if_pos ⟨h0, h250⟩, List.getD_eq_getElem?_getD, hg, Option.getD_some]
     exact event_near z hz V T sl kl w hV hsl hk g h0 h250 hg
   · rw [if_neg (fun h => h250 h.2)]
     exact event_far z hz V T sl kl w hV hsl hk h0 h250
 · rw [if_neg (fun h => h0 h.1)]
   exact event_none z hz V T sl kl w hV hsl hk (by omega)
/-- An act's event. -/
theorem event_any (z : EA) (hz : z.fits) (V : Sv) (T : St) (sl : List Sg) (kl : List Kn) (w : World) (hV : SkAt w V T sl kl) (hsl : sl.length ≤ 2000000) :
  Calls Tryz.prog 15 #[.agg z.cells.toArray, V.val] w (EvRes w (z.ev sl)) := by
 unfold EA.ev
 by_cases h3 : z.what % 8 ≤ 3
 · rw [if_pos h3]
   exact event_sub z hz V T sl kl w hV hsl (by omega)
 · rw [if_neg h3]
   by_cases h4 : z.what % 8 = 4
   · rw [if_pos h4]
     exact event_tick z hz V T sl kl w hV hsl h4
   · rw [if_neg h4]
     exact event_step z hz V T sl kl w hV hsl (by omega)
end Go.Proofs.YteifgmdaggiaaaaGreatDoor
namespace Go.Proofs.YteifgmdaggiaaaaGreatDoor
open Go Go.RowKit
set_option linter.unusedVariables false
/-- On the way: the state, what was told, the events. -/
structure Rn where
 R : Rv
 es : List Ev
def goA (S : Rn) (z : EA) : Rn := ⟨goV S.R (z.ev S.R.X.sl), S.es ++ [z.ev S.R.X.sl]⟩
def runA (S : Rn) (zs : List EA) : Rn := zs.foldl goA S
theorem runA_at {S : Rn} {zs : List EA} {k : Nat} {z : EA} (h : zs[k]? = some z) : runA S (zs.take (k + 1)) = goA (runA S (zs.take k)) z := by
 rw [List.take_add_one, h]
 unfold runA
 rw [List.foldl_append]
 rfl
theorem runA_runs {R0 : Rv} {zs : List EA} : ∀ {S : Rn}, runV R0 S.es = S.R → runV R0 (runA S zs).es = (runA S zs).R := by
 induction zs with
 | nil => intro S h; exact h
 | cons z zs ih =>
   intro S h
   refine ih (S := goA S z) ?_
   unfold goA
   dsimp only
   rw [runV_app, h]
   rfl
theorem runA_len {zs : List EA} : ∀ {S : Rn}, (runA S zs).es.length = S.es.length + zs.length ∧ (runA S zs).R.os.length = S.R.os.length + zs.length := by
 induction zs with
 | nil => intro S; exact ⟨rfl, rfl⟩
 | cons z zs ih =>
   intro S
   obtain ⟨h1, h2⟩ := ih (S := goA S z)
   have e : runA S (z :: zs) = runA (goA S z) zs := rfl
   rw [e, h1, h2]
   unfold goA goV
   dsimp only
   rw [List.length_append, List.length_append, List.length_singleton, List.length_singleton, List.length_cons]
   omega
theorem runA_good {zs : List EA} : ∀ {S : Rn}, GoodX S.R.X → GoodX (runA S zs).R.X := by
 induction zs with
 | nil => intro S h; exact h
 | cons z zs ih => intro S h; exact ih (S := goA S z) (h.ev _)
theorem SkAt.grow' {w w' : World} {g : Option Nat} {V : Sv} {T : St} {sl : List Sg} {kl : List Kn} (h : SkAt w V T sl kl) (hk : w.grownBy w' g) {p : Nat → Prop} (hi : V.in_ p) (hp : ∀ b, p b → g ≠ some b) : SkAt w' V T sl kl := h.grow hk (Sv.in_.mono hi hp)
theorem AtS.grow {α : Type} {S : Shape α} {w w' : World} {g : Option Nat} {ad : Addr} {j : Nat} {a : α} (h : AtS S w ad j a) (hk : w.grownBy w' g) (hg : g ≠ some ad.block) : AtS S w' ad j a := fun i u hu => cell_grow hk (h i u hu) (by rw [add_block]; exact hg)
/-- The first state in a block of its own, the one of now in another; the events and the replies in slices of the call's own; the state V is what goes on. -/
structure LpM (w W : World) (base gs g : Nat) (V1 : Sv) (s0 : St) (Vg V : Sv) (X : Eg) (ev ov : Value) (es : List Ev) (os : List (Int × Int)) : Prop where
 L : Below w.heap.size w W
 S : Blk W gs 35 V1.cells
 HS : SkAt W V1 s0 [] []
 G : Blk W g 35 Vg.cells
 HV : SkAt W V X.T X.sl X.kl
 OE : OwnS evs W base ev es
 OR : OwnS rps W base ov os
 HI : V.in_ (fun b => ev.ownBlock ≠ some b ∧ ov.ownBlock ≠ some b)
 I1 : V1.in_ (fun b => b < base)
 bw : w.heap.size ≤ base
section
variable {w W W' : World} {base gs g : Nat} {V1 : Sv} {s0 : St} {Vg V V' : Sv} {X X' : Eg} {ev ov : Value} {es es' : List Ev} {os os' : List (Int × Int)}
theorem LpM.below (h : LpM w W base gs g V1 s0 Vg V X ev ov es os) (hb : Below W.heap.size W W') : LpM w W' base gs g V1 s0 Vg V X ev ov es os :=
 ⟨h.L.trans (hb.mono h.L.size), h.S.later hb, h.HS.below hb, h.G.later hb, h.HV.below hb, h.OE.below hb, h.OR.below hb, h.HI, h.I1, h.bw⟩
theorem own_size {α : Type} {S : Shape α} {v : Value} {zs : List α} (h : OwnS S W base v zs) (b : Nat) (e : v.ownBlock = some b) : b < W.heap.size := (World.ownsRow.lt h b e).2
theorem LpM.did (h : LpM w W base gs g V1 s0 Vg V X ev ov es os) (hb : Below W.heap.size W W') (hv : SkAt W' V' X'.T X'.sl X'.kl) (hn : V.new V' W.heap.size) : LpM w W' base gs g V1 s0 Vg V' X' ev ov es os :=
 ⟨h.L.trans (hb.mono h.L.size), h.S.later hb, h.HS.below hb, h.G.later hb, hv, h.OE.below hb, h.OR.below hb, hn _ (fun b hb => ⟨fun e => by have := own_size h.OE b e; omega, fun e => by have := own_size h.OR b e; omega⟩) h.HI, h.I1, h.bw⟩
theorem LpM.appE (h : LpM w W base gs g V1 s0 Vg V X ev ov es os) {g' n c : Nat} (ho : OwnS evs W' base (.slice (some ⟨g', 0, none⟩) n c) es') (hg : W.grownBy W' ev.ownBlock) (hat : ev.ownBlock = some g' ∨ g' = W.heap.size) (hB : base ≤ W.heap.size) : LpM w W' base gs g V1 s0 Vg V X (.slice (some ⟨g', 0, none⟩) n c) ov es' os := by
 have n1 : ∀ {b : Nat} {vs : Array Value}, Blk W b 35 vs → ev.ownBlock ≠ some b := fun hk e => h.OE.ne hk (by decide) _ e rfl
 have n2 : ∀ b, ov.ownBlock = some b → ev.ownBlock ≠ some b := fun b e e' => own_far h.OE h.OR (by decide) b e' e
 refine ⟨h.L.grown hg (by have := h.bw; omega) (fun k e => by have := h.OE.rowLt k e; have := h.bw; omega), h.S.grow hg (n1 h.S), h.HS.grow' hg h.I1 (fun b hb e => by have := h.OE.rowLt b e; omega), h.G.grow hg (n1 h.G), h.HV.grow' hg h.HI (fun b hb => hb.1), ho, h.OR.same (fun b e => hg.block b (own_size h.OR b e) (fun e' => n2 b e e'.symm)), ?_, h.I1, h.bw⟩
 have hlt := h.HV.in_lt
 refine ⟨fun hn a e => ⟨fun e' => ?_, (h.HI.1 hn a e).2⟩, fun hn a e => ⟨fun e' => ?_, (h.HI.2.1 hn a e).2⟩, fun b e => ⟨fun e' => ?_, (h.HI.2.2.1 b e).2⟩, fun b e => ⟨fun e' => ?_, (h.HI.2.2.2 b e).2⟩⟩ <;> injection e' with e' <;> dsimp only at e' <;> rcases hat with hat | hat
 · exact (h.HI.1 hn a e).1 (by rw [hat, e'])
 · have := hlt.1 hn a e; omega
 · exact (h.HI.2.1 hn a e).1 (by rw [hat, e'])
 · have := hlt.2.1 hn a e; omega
 · exact (h.HI.2.2.1 b e).1 (by rw [hat, e'])
 · have := hlt.2.2.1 b e; omega
 · exact (h.HI.2.2.2 b e).1 (by rw [hat, e'])
 · have := hlt.2.2.2 b e; omega
theorem LpM.appR (h : LpM w W base gs g V1 s0 Vg V X ev ov es os) {g' n c : Nat} (ho : OwnS rps W' base (.slice (some ⟨g', 0, none⟩) n c) os') (hg : W.grownBy W' ov.ownBlock) (hat : ov.ownBlock = some g' ∨ g' = W.heap.size) (hB : base ≤ W.heap.size) : LpM w W' base gs g V1 s0 Vg V X ev (.slice (some ⟨g', 0, none⟩) n c) es os' := by
 have n1 : ∀ {b : Nat} {vs : Array Value}, Blk W b 35 vs → ov.ownBlock ≠ some b := fun hk e => h.OR.ne hk (by decide) _ e rfl
 have n2 : ∀ b, ev.ownBlock = some b → ov.ownBlock ≠ some b := fun b e e' => own_far h.OE h.OR (by decide) b e e'
 refine ⟨h.L.grown hg (by have := h.bw; omega) (fun k e => by have := h.OR.rowLt k e; have := h.bw; omega), h.S.grow hg (n1 h.S), h.HS.grow' hg h.I1 (fun b hb e => by have := h.OR.rowLt b e; omega), h.G.grow hg (n1 h.G), h.HV.grow' hg h.HI (fun b hb => hb.2), h.OE.same (fun b e => hg.block b (own_size h.OE b e) (fun e' => n2 b e e'.symm)), ho, ?_, h.I1, h.bw⟩
 have hlt := h.HV.in_lt
 refine ⟨fun hn a e => ⟨(h.HI.1 hn a e).1, fun e' => ?_⟩, fun hn a e => ⟨(h.HI.2.1 hn a e).1, fun e' => ?_⟩, fun b e => ⟨(h.HI.2.2.1 b e).1, fun e' => ?_⟩, fun b e => ⟨(h.HI.2.2.2 b e).1, fun e' => ?_⟩⟩ <;> injection e' with e' <;> dsimp only at e' <;> rcases hat with hat | hat
 · exact (h.HI.1 hn a e).2 (by rw [hat, e'])
 · have := hlt.1 hn a e; omega
 · exact (h.HI.2.1 hn a e).2 (by rw [hat, e'])
 · have := hlt.2.1 hn a e; omega
 · exact (h.HI.2.2.1 b e).2 (by rw [hat, e'])
 · have := hlt.2.2.1 b e; omega
 · exact (h.HI.2.2.2 b e).2 (by rw [hat, e'])
 · have := hlt.2.2.2 b e; omega
theorem LpM.put (h : LpM w W base gs g V1 s0 Vg V X ev ov es os) (hgs : g ≠ gs) (hw : w.heap.size ≤ g) :
  LpM w (((((W.setCell ⟨g, 0, none⟩ (.slice V.A V.n V.c)).setCell ⟨g, 1, none⟩ (.slice V.B V.q V.d)).setCell ⟨g, 2, none⟩ (.slice V.X V.xn V.xc)).setCell ⟨g, 3, none⟩ (.slice V.Y V.yn V.yc)).setCell ⟨g, 4, none⟩ (.int .i64 V.t)) base gs g V1 s0 V V X ev ov es os :=
 ⟨st_below h.L hw _ _ _ _ _, st_other h.S hgs _ _ _ _ _, sk_put h.HS h.G _ _ _ _ _, sk_blk h.G V, sk_put h.HV h.G _ _ _ _ _, own_st h.OE (h.OE.ne h.G (by decide)) _ _ _ _ _, own_st h.OR (h.OR.ne h.G (by decide)) _ _ _ _ _, h.HI, h.I1, h.bw⟩
end
section
variable {α : Type} (S : Shape α)
/-- One record more, in a region; and where the slice lies then. -/
theorem step_append_lie {P : Program} {bytes : Nat} {z : Value} (st : TypeId) (hu : P.underlying st = some (.slice S.ty)) (hinfo : (P.info? S.ty).map (fun i => (i.zero, i.size, i.bytes)) = some (some z, S.size, bytes)) (hzc : z.cells.size = S.size)
  {ops : Array Oper} {o : Oper} {a : Act} {w : World} {K : Act → World → Prop} {Q : Exit → Act → World → Prop} {E : Prop} (hgd : o.guard = none) (d : Nat) (hd : o.dst = some d) (s x : Operand)
  (ho : o.op = .call { callee := .builtin .append, args := #[s, x], argTypes := #[st, st] })
  (base : Nat) (v : Value) (zs : List α) (hs : a.eval s = v) (hown : OwnS S w base v zs) (ad : Addr) (c : Nat) (b : α) (hx : a.eval x = .slice (some ad) 1 c) (hc : AtS S w ad 0 b) (hl : zs.length ≤ 17592186043904) (hby : (zs.length + 1) * bytes ≤ 140737488355328) (hbase : base ≤ w.heap.size)
  (h : ∀ g cap w', OwnS S w' base (.slice (some ⟨g, 0, none⟩) (zs.length + 1) cap) (zs ++ [b]) → w.grownBy w' v.ownBlock → (v.ownBlock = some g ∨ g = w.heap.size) → K (a.put (some d) (.slice (some ⟨g, 0, none⟩) (zs.length + 1) cap)) w') :
  if Region.wanted o (yielded ops a.tmps) = true then Oper.wp P o a w K Q else E := by
 obtain ⟨i0, hi, hz0, hz1, hz2⟩ := info_parts hinfo
 have hfl : S.flat [b] = S.cells b := by simp [Shape.flat]
 refine step_append_lies w hgd s x st ho base S.ty i0 _ S.size bytes hu hi hz0 hz1 hz2 hzc S.pos v zs.length (S.flat zs) hs hown ad 1 c (S.flat [b]) hx (by rw [hfl, S.len, Nat.one_mul])
  (fun j u hu => by
    rw [hfl] at hu
    have := hc j u hu
    rw [Nat.zero_mul, Nat.zero_add] at this
    exact this) (S.flat_one _) (by decide) (by simp only [maxLen]; omega) hby hbase _ rfl fun g cap w' h2 h3 h4 _ => ?_
 rw [hd]
 refine h g cap w' ?_ h3 h4
 unfold OwnS
 rw [List.length_append, S.flat_append]
 exact h2
end
end Go.Proofs.YteifgmdaggiaaaaGreatDoor
