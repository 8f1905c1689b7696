/-
  The law's Paid.Payment by its contract: a right payment of small numbers.
  Slices of the law's Paid: their shape, cells, and one that came in.
  The law's Book.Accounts by its contract: the accounts of a book are the house's and up to eight clients', all right, and come to nothing in each currency.
  Slices of integers that came in, as lists: bytes as natural numbers, ints as they are.
  Accounts and books that came in: a slice of accounts as a list, an account, a book's three rows.
  What the law's State makes of numbers: plain words: a right state.
  A state that a law builds, in a block of its own, over accounts and payments of its own.
-/
import Derived.Test.YteifgmdaggiaaaaGreatDoorWGrB
import Derived.Test.YteifgmdaggiaaaaGreatDoorWGrD
import Derived.WalkKit
import Derived.Lib.Hide
import Derived.Test.YteifgmdaggiaaaaGreatDoorWGrA
import Derived.Test.YteifgmdaggiaaaaGreatDoorWGrC
import Derived.RegionTactic
import Derived.BigRegion
import Derived.Test.YteifgmdaggiaaaaGreatDoorWBase
import Derived.Deep.Slices
import Derived.Lib.SmallJoins
import Derived.Test.YteifgmdaggiaaaaGreatDoorWGrE
namespace Go.Proofs.YteifgmdaggiaaaaGreatDoor
open Go Go.RowKit
set_option linter.unusedVariables false
/-- A Paid's numbers. -/
structure Pd where
 f : Nat
 t : Nat
 a : Nat
 c : Nat
 r : Nat
 g : Nat
 u : Nat
 cl : Bool
structure Pd.fits (z : Pd) : Prop where
 f : z.f < 256
 t : z.t < 256
 a : z.a < 256
 c : z.c < 256
 r : z.r < 256
 g : z.g < 256
 u : z.u < 256
def Pd.val (z : Pd) : Value := .agg #[.int .u8 (z.f : Int), .int .u8 (z.t : Int), .int .u8 (z.a : Int), .int .u8 (z.c : Int), .int .u8 (z.r : Int), .int .u8 (z.g : Int), .int .u8 (z.u : Int), .bool z.cl]
def Pd.C (z : Pd) : Nat := z.c % (z.a + 2)
def Pd.R (z : Pd) : Nat := z.r % (z.C + 1)
def Pd.G (z : Pd) : Nat := z.g % (z.C - z.R + 1)
/-- The payment of a Paid. -/
def Pd.pay (z : Pd) : Py :=
 ⟨9 + ((z.f % 6 : Nat) : Int), 9 + ((z.t % 6 : Nat) : Int), 1 + (z.a : Int), (z.C : Int), (z.R : Int), (z.G : Int), ((z.u % 20 : Nat) : Int), if z.cl = true ∨ (z.C : Int) = 1 + (z.a : Int) then 1 else 0⟩
theorem Pd.C_lt (z : Pd) : z.C < z.a + 2 := Nat.mod_lt _ (by omega)
theorem Pd.R_lt (z : Pd) : z.R < z.C + 1 := Nat.mod_lt _ (by omega)
theorem Pd.G_lt (z : Pd) : z.G < z.C - z.R + 1 := Nat.mod_lt _ (by omega)
theorem Pd.right (z : Pd) (h : z.fits) : z.pay.right := by
 have h1 := h.a
 have h2 := z.C_lt
 have h3 := z.R_lt
 have h4 := z.G_lt
 have h5 : (if z.cl = true ∨ (z.C : Int) = 1 + (z.a : Int) then (1 : Int) else 0) = 0 ∨ (if z.cl = true ∨ (z.C : Int) = 1 + (z.a : Int) then (1 : Int) else 0) = 1 := by split <;> simp
 unfold Pd.pay Py.right backOk
 dsimp only
 refine ⟨by omega, by omega, by omega, by omega, h5⟩
theorem Py.right.fits {p : Py} (h : p.right) (h1 : in64 p.frm) (h2 : in64 p.dst) : p.fits := by
 unfold Py.right backOk at h
 unfold Py.fits
 unfold in64 at *
 refine ⟨h1, h2, by omega, by omega, by omega, by omega, by omega, by omega⟩
/-- The middle one of three new blocks. -/
theorem heap_mid3 (w : World) (A B C : Obj) : (((w.alloc A).alloc B).alloc C).heap[w.heap.size + 1]? = some B := by
 rw [Below.heap_alloc _ _ _ (by simp)]
 exact heap_alloc2_new w A B
theorem below_3 (w : World) (A B C : Obj) : Below w.heap.size w (((w.alloc A).alloc B).alloc C) :=
 (((Below.refl _ _).alloc (Nat.le_refl _) _).alloc (by simp) _).alloc (by simp; omega) _
/-- A payment, and nothing below is turned. -/
def PyRes (w : World) (r : Py) (e : Ending) (w' : World) : Prop := e = .returned r.val ∧ Below w.heap.size w w'
set_option maxRecDepth 100000 in
set_option maxHeartbeats 1000000 in
theorem paid_any (z : Pd) (hf : z.fits) (w : World) : Calls Tryz.prog 32 #[z.val] w (PyRes w z.pay) := by
 have hC := z.C_lt
 have hR := z.R_lt
 have hG := z.G_lt
 obtain ⟨f0, f1, f2, f3, f4, f5, f6⟩ := hf
 unfold Pd.pay PyRes
 obtain ⟨C, eC⟩ : ∃ x, z.C = x := ⟨_, rfl⟩
 obtain ⟨R, eR⟩ : ∃ x, z.R = x := ⟨_, rfl⟩
 obtain ⟨G, eG⟩ : ∃ x, z.G = x := ⟨_, rfl⟩
 have mC : (z.c : Int) % (1 + (z.a : Int) + 1) = (C : Int) := by
  rw [← eC]; unfold Pd.C; rw [Int.natCast_emod]; congr 1; omega
 have mR : (z.r : Int) % ((C : Int) + 1) = (R : Int) := by
  rw [← eR]; unfold Pd.R; rw [eC, Int.natCast_emod]; congr 1
 rw [eC, eR, eG]
 rw [eC] at hC
 rw [eC, eR] at hR
 rw [eC, eR, eG] at hG
 have mG : (z.g : Int) % ((C : Int) - (R : Int) + 1) = (G : Int) := by
  rw [← eG]; unfold Pd.G; rw [eC, eR, Int.natCast_emod]; congr 1; omega
 obtain ⟨f, t, a, c, r, g, u, cl⟩ := z
 dsimp only at f0 f1 f2 f3 f4 f5 f6 hC mC mR mG ⊢
 clear eC eR eG
 obtain ⟨x6, h6⟩ : ∃ x : Nat, f % 6 = x := ⟨_, rfl⟩
 obtain ⟨y6, g6⟩ : ∃ x : Nat, t % 6 = x := ⟨_, rfl⟩
 obtain ⟨u2, gu⟩ : ∃ x : Nat, u % 20 = x := ⟨_, rfl⟩
 rw [h6, g6, gu]
 have h6' : (f : Int) % 6 = (x6 : Int) := by omega
 have g6' : (t : Int) % 6 = (y6 : Int) := by omega
 have gu' : (u : Int) % 20 = (u2 : Int) := by omega
 have l6 : x6 < 6 := by omega
 have m6 : y6 < 6 := by omega
 have lu : u2 < 20 := by omega
 clear h6 g6 gu
 unfold Pd.val Py.val
 dsimp only
 by_cases q : (C : Int) = 1 + (a : Int)
 · have q1 := eqT q
   have hS : (if cl = true ∨ (C : Int) = 1 + (a : Int) then (1 : Int) else 0) = 1 := if_pos (.inr q)
   rw [hS]
   clear hS q
   cases cl
   all_goals
    go_enter Tryz.func32, Tryz.ntmps32
    go_wp2
    refine bodyPost_ret (results_cell_row (p := 2) (ty := 96) rfl _ _ (w.heap.size + 1) _ _ (0, 0) _ rfl (heap_mid3 _ _ _ _) Tryz.underlying96 rfl (by kernel_rfl)) rfl ?_
    exact ⟨rfl, below_3 _ _ _ _⟩
 · have q1 := eqF q
   cases cl
   · have hS : (if false = true ∨ (C : Int) = 1 + (a : Int) then (1 : Int) else 0) = 0 := if_neg (by simp [q])
     rw [hS]
     clear hS q
     go_enter Tryz.func32, Tryz.ntmps32
     go_wp2
     refine bodyPost_ret (results_cell_row (p := 2) (ty := 96) rfl _ _ (w.heap.size + 1) _ _ (0, 0) _ rfl (heap_mid3 _ _ _ _) Tryz.underlying96 rfl (by kernel_rfl)) rfl ?_
     exact ⟨rfl, below_3 _ _ _ _⟩
   · have hS : (if true = true ∨ (C : Int) = 1 + (a : Int) then (1 : Int) else 0) = 1 := if_pos (.inl rfl)
     rw [hS]
     clear hS q
     go_enter Tryz.func32, Tryz.ntmps32
     go_wp2
     refine bodyPost_ret (results_cell_row (p := 2) (ty := 96) rfl _ _ (w.heap.size + 1) _ _ (0, 0) _ rfl (heap_mid3 _ _ _ _) Tryz.underlying96 rfl (by kernel_rfl)) rfl ?_
     exact ⟨rfl, below_3 _ _ _ _⟩
end Go.Proofs.YteifgmdaggiaaaaGreatDoor
namespace Go.Proofs.YteifgmdaggiaaaaGreatDoor
open Go Go.RowKit Go.ChangeShapes Go.WideShapes Go.Deep Go.Joins
set_option linter.unusedVariables false
def Pd.cells (z : Pd) : List Value := [.int .u8 (z.f : Int), .int .u8 (z.t : Int), .int .u8 (z.a : Int), .int .u8 (z.c : Int), .int .u8 (z.r : Int), .int .u8 (z.g : Int), .int .u8 (z.u : Int), .bool z.cl]
def paids : Shape Pd := ⟨8, 93, Pd.cells, by omega, fun _ => rfl, fun a u hu => by
  simp only [Pd.cells, List.mem_cons, List.not_mem_nil, or_false] at hu
  rcases hu with rfl | rfl | rfl | rfl | rfl | rfl | rfl | rfl <;> rfl⟩
/-- The cells of the Paid at j. -/
theorem paid_cells {w : World} {ad : Addr} {j : Nat} {k : Pd} (h : AtS paids w ad j k) :
  w.cell? (ad.add (j * 8)) = some (.int .u8 (k.f : Int)) ∧
  w.cell? ⟨(ad.add (j * 8)).block, (ad.add (j * 8)).off + 1, none⟩ = some (.int .u8 (k.t : Int)) ∧
  w.cell? ⟨(ad.add (j * 8)).block, (ad.add (j * 8)).off + 2, none⟩ = some (.int .u8 (k.a : Int)) ∧
  w.cell? ⟨(ad.add (j * 8)).block, (ad.add (j * 8)).off + 3, none⟩ = some (.int .u8 (k.c : Int)) ∧
  w.cell? ⟨(ad.add (j * 8)).block, (ad.add (j * 8)).off + 4, none⟩ = some (.int .u8 (k.r : Int)) ∧
  w.cell? ⟨(ad.add (j * 8)).block, (ad.add (j * 8)).off + 5, none⟩ = some (.int .u8 (k.g : Int)) ∧
  w.cell? ⟨(ad.add (j * 8)).block, (ad.add (j * 8)).off + 6, none⟩ = some (.int .u8 (k.u : Int)) ∧
  w.cell? ⟨(ad.add (j * 8)).block, (ad.add (j * 8)).off + 7, none⟩ = some (.bool k.cl) := by
 refine ⟨h 0 _ rfl, ?_, ?_, ?_, ?_, ?_, ?_, ?_⟩ <;> rw [← add_next _ _ _ (by omega)]
 · exact h 1 _ rfl
 · exact h 2 _ rfl
 · exact h 3 _ rfl
 · exact h 4 _ rfl
 · exact h 5 _ rfl
 · exact h 6 _ rfl
 · exact h 7 _ rfl
section
variable {H : Type} {enc : TypeId × Value → H} {w : World} {base fuel : Nat} {spare : Nat → Bool} {held : Bool} {cs : List Value} {x : DataW H × List MemPlace}
set_option maxRecDepth 100000 in
theorem pd_of (h : DataW.trod enc Tryz.prog w base spare held fuel 93 cs = some x) : ∃ z : Pd, z.fits ∧ cs = paids.cells z := by
 have hl : cs.length = 8 := by obtain ⟨_, _, _, _, hl, _⟩ := DataW.trod_struct Tryz.underlying93 h; exact hl.trans (by kernel_rfl)
 obtain ⟨x0, e0, w0⟩ := trod_num Tryz.underlying93 h .u8 0 _ rfl 0 rfl (by kernel_rfl) (by kernel_rfl)
 obtain ⟨x1, e1, w1⟩ := trod_num Tryz.underlying93 h .u8 1 _ rfl 1 rfl (by kernel_rfl) (by kernel_rfl)
 obtain ⟨x2, e2, w2⟩ := trod_num Tryz.underlying93 h .u8 2 _ rfl 2 rfl (by kernel_rfl) (by kernel_rfl)
 obtain ⟨x3, e3, w3⟩ := trod_num Tryz.underlying93 h .u8 3 _ rfl 3 rfl (by kernel_rfl) (by kernel_rfl)
 obtain ⟨x4, e4, w4⟩ := trod_num Tryz.underlying93 h .u8 4 _ rfl 4 rfl (by kernel_rfl) (by kernel_rfl)
 obtain ⟨x5, e5, w5⟩ := trod_num Tryz.underlying93 h .u8 5 _ rfl 5 rfl (by kernel_rfl) (by kernel_rfl)
 obtain ⟨x6, e6, w6⟩ := trod_num Tryz.underlying93 h .u8 6 _ rfl 6 rfl (by kernel_rfl) (by kernel_rfl)
 obtain ⟨x7, e7⟩ := trod_flag Tryz.underlying93 h 7 _ rfl 7 rfl (by kernel_rfl) (by kernel_rfl)
 match cs, hl with
 | [v0, v1, v2, v3, v4, v5, v6, v7], _ =>
   simp at e0 e1 e2 e3 e4 e5 e6 e7
   subst e0 e1 e2 e3 e4 e5 e6 e7
   obtain ⟨z0, rfl, g0⟩ := u8_nat w0
   obtain ⟨z1, rfl, g1⟩ := u8_nat w1
   obtain ⟨z2, rfl, g2⟩ := u8_nat w2
   obtain ⟨z3, rfl, g3⟩ := u8_nat w3
   obtain ⟨z4, rfl, g4⟩ := u8_nat w4
   obtain ⟨z5, rfl, g5⟩ := u8_nat w5
   obtain ⟨z6, rfl, g6⟩ := u8_nat w6
   exact ⟨⟨z0, z1, z2, z3, z4, z5, z6, x7⟩, ⟨g0, g1, g2, g3, g4, g5, g6⟩, rfl⟩
end
end Go.Proofs.YteifgmdaggiaaaaGreatDoor
namespace Go.Proofs.YteifgmdaggiaaaaGreatDoor
open Go Go.RowKit
set_option linter.unusedVariables false
/-- The clients' currencies are those of the numbers. -/
def CursOf (cs : List Nat) (k : Nat) (zs : List Ac) : Prop := ∀ j, j < k → ∃ a : Ac, zs[9 + j]? = some a ∧ a.cur = ((cs.getD j 0 : Nat) : Int) % 3
theorem curs_next {cs : List Nat} {k m : Nat} {zs : List Ac} {A B : Ac} (h : CursOf cs k zs) (hl : zs.length = 9 + k) (hm : m < 9) (hx : ((cs.getD k 0 : Nat) : Int) % 3 = B.cur) : CursOf cs (k + 1) (zs.set m A ++ [B]) := by
 intro j hj
 by_cases hjk : j < k
 · obtain ⟨a, h1, h2⟩ := h j hjk
   refine ⟨a, ?_, h2⟩
   rw [List.getElem?_append_left (by simp [hl]; omega), List.getElem?_set_ne (by omega)]
   exact h1
 · obtain rfl : j = k := by omega
   refine ⟨B, ?_, hx.symm⟩
   rw [List.getElem?_append_right (by simp [hl])]
   simp [hl]
/-- A book's numbers as what a client has, and what of it is held. -/
def bookBal (hs : List Nat) (k : Nat) : Int := if k < hs.length then ((hs.getD k 0 : Nat) : Int) % 100000 else 0
def bookHeld (hs ls : List Nat) (k : Nat) : Int := if k < ls.length then bookBal hs k * (((ls.getD k 0 : Nat) : Int) % 101) / 100 else 0
/-- The accounts of the first k clients of a book. -/
def bookTo (cs hs ls : List Nat) : Nat → List Ac
 | 0 => house
 | k + 1 => (bookTo cs hs ls k).set (3 * (cs.getD k 0 % 3)) ⟨((cs.getD k 0 % 3 : Nat) : Int), ((bookTo cs hs ls k).getD (3 * (cs.getD k 0 % 3)) ⟨0, 0, 0⟩).bal - bookBal hs k, 0⟩ ++ [⟨((cs.getD k 0 % 3 : Nat) : Int), bookBal hs k, bookHeld hs ls k⟩]
theorem book_step {cs hs ls : List Nat} {k m x : Nat} {zs : List Ac} {y b q : Int} (h : zs = bookTo cs hs ls k) (hx : ((cs.getD k 0 : Nat) : Int) % 3 = (x : Int)) (hm : 3 * (x : Int) = (m : Int)) (hy : zs[m]? = some ⟨(x : Int), y, 0⟩) (hb : bookBal hs k = b) (hq : bookHeld hs ls k = q) :
  zs.set m ⟨(x : Int), y - b, 0⟩ ++ [⟨(x : Int), b, q⟩] = bookTo cs hs ls (k + 1) := by
 have e1 : cs.getD k 0 % 3 = x := by omega
 have e2 : 3 * x = m := by omega
 have e3 : (zs.getD m ⟨0, 0, 0⟩).bal = y := by simp [List.getD, hy]
 simp only [bookTo, ← h, e1, e2, e3, hb, hq]
/-- What Accounts hands back, and how many clients there are, of which currencies. -/
def BookResC (cl : Nat) (cs hs ls : List Nat) (w : World) (e : Ending) (w' : World) : Prop := ∃ v zs k, e = .returned v ∧ OwnA w' w.heap.size v zs ∧ k ≤ 8 ∧ (k = cl ∨ k = 8) ∧ BookOk k zs ∧ (CursOf cs k zs ∧ k ≤ cl ∧ zs = bookTo cs hs ls k) ∧ Below w.heap.size w w'
theorem part_le (b p : Int) (b0 : 0 ≤ b) (p0 : 0 ≤ p) (p1 : p ≤ 100) (b1 : b ≤ 99999) : 0 ≤ b * p ∧ b * p ≤ 9999900 ∧ b * p / 100 ≤ b := by
 have h1 : 0 ≤ b * p := Int.mul_nonneg b0 p0
 have h2 : b * p ≤ b * 100 := Int.mul_le_mul_of_nonneg_left p1 b0
 omega
theorem bookBal_in (hs : List Nat) (k : Nat) : 0 ≤ bookBal hs k ∧ bookBal hs k ≤ 99999 := by
 unfold bookBal
 split <;> omega
theorem bookHeld_in (hs ls : List Nat) (k : Nat) : 0 ≤ bookHeld hs ls k ∧ bookHeld hs ls k ≤ bookBal hs k := by
 obtain ⟨h1, h2⟩ := bookBal_in hs k
 unfold bookHeld
 split
 · obtain ⟨p1, p2, p3⟩ := part_le (bookBal hs k) (((ls.getD k 0 : Nat) : Int) % 101) h1 (by omega) (by omega) h2
   omega
 · omega
theorem bookTo_ok (cs hs ls : List Nat) : ∀ k, BookOk k (bookTo cs hs ls k)
 | 0 => book_zero
 | k + 1 => by
   have h := bookTo_ok cs hs ls k
   obtain ⟨y, hy, _, _⟩ := h.house (3 * (cs.getD k 0 % 3)) (by omega)
   have hc : ((3 * (cs.getD k 0 % 3) : Nat) : Int) / 3 = ((cs.getD k 0 % 3 : Nat) : Int) := by omega
   rw [hc] at hy
   have e3 : ((bookTo cs hs ls k).getD (3 * (cs.getD k 0 % 3)) ⟨0, 0, 0⟩).bal = y := by rw [List.getD_eq_getElem?_getD, hy]; rfl
   simp only [bookTo, e3]
   obtain ⟨h1, h2⟩ := bookBal_in hs k
   obtain ⟨h3, h4⟩ := bookHeld_in hs ls k
   exact book_next h (c := ((cs.getD k 0 % 3 : Nat) : Int)) (b := bookBal hs k) (l := bookHeld hs ls k) (by omega) (by omega) (by omega) h3 h4 h2 hy
theorem acAt_new (W : World) (n : Nat) (h : n = W.heap.size) (x b q : Int) (t : TypeId) : AcAt (W.alloc (.cells #[.int .i64 x, .int .i64 b, .int .i64 q] t)) ⟨n, 0, none⟩ 0 ⟨x, b, q⟩ := by
 subst h
 exact ⟨by simp [Addr.add], by simp [Addr.add], by simp [Addr.add]⟩
theorem AcAt.drew {w : World} {ad : Addr} {j : Nat} {a : Ac} (h : AcAt w ad j a) : AcAt w.drew ad j a := h.keep fun _ _ => rfl
set_option maxRecDepth 100000 in
set_option maxHeartbeats 8000000 in
theorem accounts_curs (CA HA LA : Option Addr) (cl cc hl hc ll lc : Nat) (cs hs ls : List Nat) (w : World) (hrc : Rd .u8 w CA cl (ints cs)) (hrh : Rd .u32 w HA hl (ints hs)) (hrl : Rd .u8 w LA ll (ints ls))
  (hcs : ∀ x ∈ cs, x < 256) (hhs : ∀ x ∈ hs, x < 4294967296) (hls : ∀ x ∈ ls, x < 256) (h1 : cl ≤ 9223372036854775807) (h2 : hl ≤ 9223372036854775807) (h3 : ll ≤ 9223372036854775807) :
  Calls Tryz.prog 31 #[.agg #[.slice CA cl cc, .slice HA hl hc, .slice LA ll lc]] w (BookResC cl cs hs ls w) := by
 have hmk := run_make_nine
 obtain ⟨wb, hwb⟩ : ∃ W, W = w.alloc (.cells #[.slice CA cl cc, .slice HA hl hc, .slice LA ll lc] 25) := ⟨_, rfl⟩
 have hzb : wb.heap.size = w.heap.size + 1 := by rw [hwb]; simp
 have hbb : Below w.heap.size w wb := by rw [hwb]; exact (Below.refl _ _).alloc (Nat.le_refl _) _
 have k0 : wb.cell? ⟨w.heap.size, 0, none⟩ = some (.slice CA cl cc) := by rw [hwb]; simp
 have k1 : wb.cell? ⟨w.heap.size, 1, none⟩ = some (.slice HA hl hc) := by rw [hwb]; simp
 have k2 : wb.cell? ⟨w.heap.size, 2, none⟩ = some (.slice LA ll lc) := by rw [hwb]; simp
 have ho := own_made_acc wb 9 wb.heap.size (by simp only [maxLen]; omega) (Nat.le_refl _)
 have hb0 := (Below.refl wb.heap.size wb).alloc (Nat.le_refl _) (.cells (madeCells #[.int .i64 0, .int .i64 0, .int .i64 0] (9 * 3)) 90)
 have HRC := Lib.hid (hrc.below hbb)
 have HRH := Lib.hid (hrh.below hbb)
 have HRL := Lib.hid (hrl.below hbb)
 have HCS := Lib.hid hcs
 have HHS := Lib.hid hhs
 have HLS := Lib.hid hls
 have HLC : Hid (cs.length = cl) := Lib.hid (by have := hrc.1; rwa [ints_length] at this)
 have HLH : Hid (hs.length = hl) := Lib.hid (by have := hrh.1; rwa [ints_length] at this)
 have HLL : Hid (ls.length = ll) := Lib.hid (by have := hrl.1; rwa [ints_length] at this)
 have HO := Lib.hid ho
 have HB0 := Lib.hid hb0
 have HBB := Lib.hid hbb
 have K0 := Lib.hid k0
 have K1 := Lib.hid k1
 have K2 := Lib.hid k2
 have HWB := Lib.hid hwb
 clear hrc hrh hrl hcs hhs hls ho hb0 hbb k0 k1 k2 hwb
 go_enter Tryz.func31, Tryz.ntmps31
 go_wp2
 clear hmk
 rw [← HWB.out]
 rw [hzb] at HO HB0
 generalize (wb.alloc (.cells (madeCells #[.int .i64 0, .int .i64 0, .int .i64 0] (9 * 3)) 90)) = w0 at *
 go_loopw [11] (fun i wr => ∃ k : Nat, k ≤ 9 ∧ i = .int .i64 (k : Int) ∧ OwnA wr (w.heap.size + 1) (.slice (some ⟨w.heap.size + 1, 0, none⟩) 9 9) (houseTo k) ∧ Below (w.heap.size + 1) wb wr) (fun i _ => 9 - (intOf i).toNat)
 case atStart => exact ⟨0, Nat.zero_le _, rfl, HO.out, HB0.out⟩
 case round =>
  obtain ⟨k, hk, rfl, hown, hbel⟩ := hrel
  by_cases hlt : k < 9
  · obtain ⟨c0, c1, c2⟩ := hown.at_ (houseTo_at k hlt)
    have hf := hown.unfrozen (houseTo_len k hk).symm (k * 3)
    have hset := (hown.set (houseTo_len k hk).symm (houseTo_at k hlt) ((k : Int) / 3)).1
    rw [houseTo_next k hlt] at hset
    have HSET := Lib.hid hset
    have HBEL := Lib.hid hbel
    clear hown hbel hset
    go_wp2
    go_roundw
    case rel => exact ⟨k + 1, by omega, by go_num, HSET.out, HBEL.out.setCell (Nat.le_refl _) _⟩
    case measure => simp [intOf]; omega
  · obtain rfl : k = 9 := by omega
    have kc := hbel.cell (p := ⟨w.heap.size, 0, none⟩) (by simp)
    rw [K0.out] at kc
    have HOWN := Lib.hid hown
    have HBEL := Lib.hid hbel
    clear hown hbel
    go_wp2
    clear kc
    go_loopw [3, 24] (fun v i wr => ∃ (k : Nat) (zs : List Ac), k ≤ cl ∧ k ≤ 8 ∧ i = .int .i64 (k : Int) ∧ OwnA wr (w.heap.size + 1) v zs ∧ BookOk k zs ∧ (CursOf cs k zs ∧ zs = bookTo cs hs ls k) ∧ Below (w.heap.size + 1) wb wr) (fun _ i _ => cl - (intOf i).toNat)
    case atStart => exact ⟨0, house, Nat.zero_le _, Nat.zero_le _, rfl, HOWN.out, book_zero, ⟨fun j hj => absurd hj (Nat.not_lt_zero _), rfl⟩, HBEL.out⟩
    case round =>
     clear HOWN HBEL hlt
     obtain ⟨k, zs, hk, hk8, rfl, hown, hbook, hcurs, hbel⟩ := hrel
     have hsz := hbel.size
     have hzl := hbook.len
     obtain ⟨g, cap, hv, hg1, hg2, hnc, hcm⟩ := hown.open_ (by omega)
     obtain ⟨n, hn⟩ : ∃ n, zs.length = n := ⟨_, rfl⟩
     rw [hn] at hv hnc hzl
     subst hv
     have kc := hbel.cell (p := ⟨w.heap.size, 0, none⟩) (by simp)
     have kh := hbel.cell (p := ⟨w.heap.size, 1, none⟩) (by simp)
     have kl := hbel.cell (p := ⟨w.heap.size, 2, none⟩) (by simp)
     rw [K0.out] at kc
     rw [K1.out] at kh
     rw [K2.out] at kl
     have hbw : Below wb.heap.size wb wr := hbel.mono (by omega)
     have HOWN := Lib.hid hown
     have HBOOK := Lib.hid hbook
     have HCURS := Lib.hid hcurs
     have HBEL := Lib.hid hbel
     have HBW := Lib.hid hbw
     have HN := Lib.hid hn
     clear hown hbook hcurs hbel hbw hn
     have fin : (k = cl ∨ k = 8) → BookResC cl cs hs ls w (.returned (.slice (some ⟨g, 0, none⟩) n cap)) wr := fun h => ⟨_, zs, k, rfl, HOWN.out.less (by omega), hk8, h, HBOOK.out, ⟨HCURS.out.1, hk, HCURS.out.2⟩, HBB.out.trans (HBEL.out.mono (by omega))⟩
     have FIN := Lib.hid fin
     clear fin
     by_cases hlt : k < cl
     · obtain ⟨ax, rfl, hcell⟩ := (HRC.out.below HBW.out).at_ hlt
       rw [ints_getD] at hcell
       obtain ⟨c, hc⟩ : ∃ c, cs.getD k 0 = c := ⟨_, rfl⟩
       have hc8 : c < 256 := by
        have hj : k < cs.length := by rw [HLC.out]; exact hlt
        rw [← hc, show cs.getD k 0 = cs[k] by simp [List.getD, hj]]
        exact HCS.out _ (List.getElem_mem hj)
       rw [hc] at hcell
       have HCC := Lib.hid hc
       clear hc
       by_cases hk7 : k = 8
       · have hk8' : (k == 8) = true := by simp [hk7]
         have hk8'' : ((k : Int) == 8) = true := by simp; omega
         have HK7 := Lib.hid hk7
         clear hk7
         go_wp2
         go_ret
         exact FIN.out (.inr HK7.out)
       · obtain ⟨x, hx⟩ : ∃ x : Nat, (c : Int) % 3 = (x : Int) := ⟨c % 3, by omega⟩
         obtain ⟨m, hm⟩ : ∃ m : Nat, 3 * (x : Int) = (m : Int) := ⟨3 * x, by omega⟩
         have hx2 : x ≤ 2 := by omega
         have hm6 : m ≤ 6 := by omega
         have HX := Lib.hid hx
         have hn9 : 9 ≤ n := by omega
         have hk8' : ((k : Int) == 8) = false := by simp; omega
         have HZL := Lib.hid hzl
         have hw1 : w.heap.size < wr.heap.size := by omega
         have hw2 : ¬ w.heap.size = wr.heap.size := by omega
         have hk7' : k ≤ 7 := by omega
         clear hzl hk7
         obtain ⟨y, hy, hy1, hy2⟩ := HBOOK.out.house m (by omega)
         rw [show (m : Int) / 3 = (x : Int) by omega] at hy
         have hy3 : -800000 ≤ y := by omega
         obtain ⟨d0, d1, d2⟩ := HOWN.out.at_ hy
         have hf := HOWN.out.unfrozen HN.out.symm (m * 3 + 1)
         have HY := Lib.hid hy
         have HM := Lib.hid hm
         clear d0 d2 hy hy1
         by_cases hh : k < hl
         · by_cases hl' : k < ll
           · obtain ⟨ay, rfl, hcellh⟩ := (HRH.out.below HBW.out).at_ hh
             rw [ints_getD] at hcellh
             have hy4 := World.block_lt_of_cell? wr _ hcellh
             have hy5 : ay.block < wr.heap.size := by rw [add_block] at hy4; exact hy4
             have hy6 : ¬ ay.block = wr.heap.size := by omega
             obtain ⟨h, hh0⟩ : ∃ h, hs.getD k 0 = h := ⟨_, rfl⟩
             have hh8 : h < 4294967296 := by
              have hj : k < hs.length := by rw [HLH.out]; exact hh
              rw [← hh0, show hs.getD k 0 = hs[k] by simp [List.getD, hj]]
              exact HHS.out _ (List.getElem_mem hj)
             rw [hh0] at hcellh
             have HHV := Lib.hid hh0
             clear hh0
             obtain ⟨b, hb⟩ : ∃ b : Int, (h : Int) % 100000 = b := ⟨_, rfl⟩
             have b0 : 0 ≤ b := by omega
             have b1 : b ≤ 99999 := by omega
             obtain ⟨az, rfl, hcelll⟩ := (HRL.out.below HBW.out).at_ hl'
             rw [ints_getD] at hcelll
             have hz4 := World.block_lt_of_cell? wr _ hcelll
             have hz5 : az.block < wr.heap.size := by rw [add_block] at hz4; exact hz4
             have hz6 : ¬ az.block = wr.heap.size := by omega
             obtain ⟨l, hl0⟩ : ∃ l, ls.getD k 0 = l := ⟨_, rfl⟩
             have hl8 : l < 256 := by
              have hj : k < ls.length := by rw [HLL.out]; exact hl'
              rw [← hl0, show ls.getD k 0 = ls[k] by simp [List.getD, hj]]
              exact HLS.out _ (List.getElem_mem hj)
             rw [hl0] at hcelll
             have HLV := Lib.hid hl0
             clear hl0
             obtain ⟨p, hp⟩ : ∃ p : Int, (l : Int) % 101 = p := ⟨_, rfl⟩
             obtain ⟨p1, p2, p3⟩ := part_le b p b0 (by omega) (by omega) b1
             obtain ⟨t, ht⟩ : ∃ t : Int, b * p = t := ⟨_, rfl⟩
             rw [ht] at p1 p2 p3
             obtain ⟨q, hq⟩ : ∃ q : Int, t / 100 = q := ⟨_, rfl⟩
             rw [hq] at p3
             have q0 : 0 ≤ q := by omega
             have hset := (HOWN.out.set HN.out.symm HY.out (y - b)).2.1
             have HSET := Lib.hid hset
             have hnext := book_next HBOOK.out (c := (x : Int)) (b := b) (l := q) HM.out.symm (by omega) (by omega) (by omega) (by omega) (by omega) HY.out
             have HNEXT := Lib.hid hnext
             have hsl : (zs.set m ⟨(x : Int), y - b, 0⟩).length ≤ 1000000 := by rw [List.length_set, HN.out, HZL.out]; omega
             have HSL := Lib.hid hsl
             have HSTEP := Lib.hid (book_step HCURS.out.2 (by rw [HCC.out]; exact HX.out) HM.out HY.out (show bookBal hs k = b by unfold bookBal; rw [if_pos (by rw [HLH.out]; exact hh), HHV.out]; exact hb) (show bookHeld hs ls k = q by unfold bookHeld bookBal; rw [if_pos (by rw [HLL.out]; exact hl'), if_pos (by rw [HLH.out]; exact hh), HHV.out, HLV.out, hb, hp, ht]; exact hq))
             clear hset hnext hsl
             go_wp2
             go_region
             go_wp2
             go_region
             go_wp2_with (first
               | (at_builtin
                  refine wpList_append_acc _ rfl (.tmp 77) (.tmp 79) rfl (w.heap.size + 1) (.slice (some ⟨g, 0, none⟩) n cap) _ rfl ((HSET.out.alloc _).alloc _) ⟨wr.heap.size + 1, 0, none⟩ 1 ⟨(x : Int), b, q⟩ rfl (acAt_new _ _ (by simp) _ _ _ _).drew.drew HSL.out (by simp; omega) ?_
                  intro v2 w2 ho2 hg2))
             have hb2 : Below (w.heap.size + 1) wb w2 := Below.grown (((HBEL.out.setCell (p := ⟨g, m * 3 + 1, none⟩) (by simpa using hg1) (.int .i64 (y - b))).alloc (by simp; omega) _).alloc (by simp; omega) _).drew.drew hg2 (by simp; omega) (fun j hj => by have hj' : some g = some j := hj; injection hj' with hj'; omega)
             go_roundw
             case rel => first | exact ⟨k + 1, _, by omega, by omega, by go_num, ho2, HNEXT.out, ⟨curs_next HCURS.out.1 HBOOK.out.len (by omega) (by rw [HCC.out]; exact HX.out), HSTEP.out⟩, hb2⟩ | ((repeat apply Exists.intro); exact ⟨⟨k + 1, _, by omega, by omega, by go_num, ho2, HNEXT.out, ⟨curs_next HCURS.out.1 HBOOK.out.len (by omega) (by rw [HCC.out]; exact HX.out), HSTEP.out⟩, hb2⟩, rfl⟩)
             case measure => simp [intOf]; omega
           · obtain ⟨ay, rfl, hcellh⟩ := (HRH.out.below HBW.out).at_ hh
             rw [ints_getD] at hcellh
             have hy4 := World.block_lt_of_cell? wr _ hcellh
             have hy5 : ay.block < wr.heap.size := by rw [add_block] at hy4; exact hy4
             have hy6 : ¬ ay.block = wr.heap.size := by omega
             obtain ⟨h, hh0⟩ : ∃ h, hs.getD k 0 = h := ⟨_, rfl⟩
             have hh8 : h < 4294967296 := by
              have hj : k < hs.length := by rw [HLH.out]; exact hh
              rw [← hh0, show hs.getD k 0 = hs[k] by simp [List.getD, hj]]
              exact HHS.out _ (List.getElem_mem hj)
             rw [hh0] at hcellh
             have HHV := Lib.hid hh0
             clear hh0
             obtain ⟨b, hb⟩ : ∃ b : Int, (h : Int) % 100000 = b := ⟨_, rfl⟩
             have b0 : 0 ≤ b := by omega
             have b1 : b ≤ 99999 := by omega
             have hset := (HOWN.out.set HN.out.symm HY.out (y - b)).2.1
             have HSET := Lib.hid hset
             have hnext := book_next HBOOK.out (c := (x : Int)) (b := b) (l := 0) HM.out.symm (by omega) (by omega) (by omega) (by omega) (by omega) HY.out
             have HNEXT := Lib.hid hnext
             have hsl : (zs.set m ⟨(x : Int), y - b, 0⟩).length ≤ 1000000 := by rw [List.length_set, HN.out, HZL.out]; omega
             have HSL := Lib.hid hsl
             have HSTEP := Lib.hid (book_step HCURS.out.2 (by rw [HCC.out]; exact HX.out) HM.out HY.out (show bookBal hs k = b by unfold bookBal; rw [if_pos (by rw [HLH.out]; exact hh), HHV.out]; exact hb) (show bookHeld hs ls k = 0 by unfold bookHeld; rw [if_neg (by rw [HLL.out]; exact hl')]))
             clear hset hnext hsl
             go_wp2
             go_region
             go_wp2_with (first
               | (at_builtin
                  refine wpList_append_acc _ rfl (.tmp 77) (.tmp 79) rfl (w.heap.size + 1) (.slice (some ⟨g, 0, none⟩) n cap) _ rfl ((HSET.out.alloc _).alloc _) ⟨wr.heap.size + 1, 0, none⟩ 1 ⟨(x : Int), b, 0⟩ rfl (acAt_new _ _ (by simp) _ _ _ _).drew HSL.out (by simp; omega) ?_
                  intro v2 w2 ho2 hg2))
             have hb2 : Below (w.heap.size + 1) wb w2 := Below.grown (((HBEL.out.setCell (p := ⟨g, m * 3 + 1, none⟩) (by simpa using hg1) (.int .i64 (y - b))).alloc (by simp; omega) _).alloc (by simp; omega) _).drew hg2 (by simp; omega) (fun j hj => by have hj' : some g = some j := hj; injection hj' with hj'; omega)
             go_roundw
             case rel => first | exact ⟨k + 1, _, by omega, by omega, by go_num, ho2, HNEXT.out, ⟨curs_next HCURS.out.1 HBOOK.out.len (by omega) (by rw [HCC.out]; exact HX.out), HSTEP.out⟩, hb2⟩ | ((repeat apply Exists.intro); exact ⟨⟨k + 1, _, by omega, by omega, by go_num, ho2, HNEXT.out, ⟨curs_next HCURS.out.1 HBOOK.out.len (by omega) (by rw [HCC.out]; exact HX.out), HSTEP.out⟩, hb2⟩, rfl⟩)
             case measure => simp [intOf]; omega
         · by_cases hl' : k < ll
           · obtain ⟨az, rfl, hcelll⟩ := (HRL.out.below HBW.out).at_ hl'
             rw [ints_getD] at hcelll
             have hz4 := World.block_lt_of_cell? wr _ hcelll
             have hz5 : az.block < wr.heap.size := by rw [add_block] at hz4; exact hz4
             have hz6 : ¬ az.block = wr.heap.size := by omega
             obtain ⟨l, hl0⟩ : ∃ l, ls.getD k 0 = l := ⟨_, rfl⟩
             have hl8 : l < 256 := by
              have hj : k < ls.length := by rw [HLL.out]; exact hl'
              rw [← hl0, show ls.getD k 0 = ls[k] by simp [List.getD, hj]]
              exact HLS.out _ (List.getElem_mem hj)
             rw [hl0] at hcelll
             have HLV := Lib.hid hl0
             clear hl0
             obtain ⟨p, hp⟩ : ∃ p : Int, (l : Int) % 101 = p := ⟨_, rfl⟩
             have hset := (HOWN.out.set HN.out.symm HY.out (y)).2.1
             have HSET := Lib.hid hset
             have hnext := book_next HBOOK.out (c := (x : Int)) (b := 0) (l := 0) HM.out.symm (by omega) (by omega) (by omega) (by omega) (by omega) HY.out
             rw [Int.sub_zero] at hnext
             have HNEXT := Lib.hid hnext
             have hsl : (zs.set m ⟨(x : Int), y, 0⟩).length ≤ 1000000 := by rw [List.length_set, HN.out, HZL.out]; omega
             have HSL := Lib.hid hsl
             have HSTEP := Lib.hid (book_step HCURS.out.2 (by rw [HCC.out]; exact HX.out) HM.out HY.out (show bookBal hs k = 0 by unfold bookBal; rw [if_neg (by rw [HLH.out]; exact hh)]) (show bookHeld hs ls k = 0 by unfold bookHeld bookBal; rw [if_pos (by rw [HLL.out]; exact hl'), if_neg (by rw [HLH.out]; exact hh)]; simp))
             rw [Int.sub_zero] at HSTEP
             clear hset hnext hsl
             go_wp2
             go_region
             go_wp2
             go_region
             go_wp2_with (first
               | (at_builtin
                  refine wpList_append_acc _ rfl (.tmp 77) (.tmp 79) rfl (w.heap.size + 1) (.slice (some ⟨g, 0, none⟩) n cap) _ rfl ((HSET.out.alloc _).alloc _) ⟨wr.heap.size + 1, 0, none⟩ 1 ⟨(x : Int), 0, 0⟩ rfl (acAt_new _ _ (by simp) _ _ _ _).drew.drew HSL.out (by simp; omega) ?_
                  intro v2 w2 ho2 hg2))
             have hb2 : Below (w.heap.size + 1) wb w2 := Below.grown (((HBEL.out.setCell (p := ⟨g, m * 3 + 1, none⟩) (by simpa using hg1) (.int .i64 (y))).alloc (by simp; omega) _).alloc (by simp; omega) _).drew.drew hg2 (by simp; omega) (fun j hj => by have hj' : some g = some j := hj; injection hj' with hj'; omega)
             go_roundw
             case rel => first | exact ⟨k + 1, _, by omega, by omega, by go_num, ho2, HNEXT.out, ⟨curs_next HCURS.out.1 HBOOK.out.len (by omega) (by rw [HCC.out]; exact HX.out), HSTEP.out⟩, hb2⟩ | ((repeat apply Exists.intro); exact ⟨⟨k + 1, _, by omega, by omega, by go_num, ho2, HNEXT.out, ⟨curs_next HCURS.out.1 HBOOK.out.len (by omega) (by rw [HCC.out]; exact HX.out), HSTEP.out⟩, hb2⟩, rfl⟩)
             case measure => simp [intOf]; omega
           · have hset := (HOWN.out.set HN.out.symm HY.out (y)).2.1
             have HSET := Lib.hid hset
             have hnext := book_next HBOOK.out (c := (x : Int)) (b := 0) (l := 0) HM.out.symm (by omega) (by omega) (by omega) (by omega) (by omega) HY.out
             rw [Int.sub_zero] at hnext
             have HNEXT := Lib.hid hnext
             have hsl : (zs.set m ⟨(x : Int), y, 0⟩).length ≤ 1000000 := by rw [List.length_set, HN.out, HZL.out]; omega
             have HSL := Lib.hid hsl
             have HSTEP := Lib.hid (book_step HCURS.out.2 (by rw [HCC.out]; exact HX.out) HM.out HY.out (show bookBal hs k = 0 by unfold bookBal; rw [if_neg (by rw [HLH.out]; exact hh)]) (show bookHeld hs ls k = 0 by unfold bookHeld; rw [if_neg (by rw [HLL.out]; exact hl')]))
             rw [Int.sub_zero] at HSTEP
             clear hset hnext hsl
             go_wp2
             go_region
             go_wp2_with (first
               | (at_builtin
                  refine wpList_append_acc _ rfl (.tmp 77) (.tmp 79) rfl (w.heap.size + 1) (.slice (some ⟨g, 0, none⟩) n cap) _ rfl ((HSET.out.alloc _).alloc _) ⟨wr.heap.size + 1, 0, none⟩ 1 ⟨(x : Int), 0, 0⟩ rfl (acAt_new _ _ (by simp) _ _ _ _).drew HSL.out (by simp; omega) ?_
                  intro v2 w2 ho2 hg2))
             have hb2 : Below (w.heap.size + 1) wb w2 := Below.grown (((HBEL.out.setCell (p := ⟨g, m * 3 + 1, none⟩) (by simpa using hg1) (.int .i64 (y))).alloc (by simp; omega) _).alloc (by simp; omega) _).drew hg2 (by simp; omega) (fun j hj => by have hj' : some g = some j := hj; injection hj' with hj'; omega)
             go_roundw
             case rel => first | exact ⟨k + 1, _, by omega, by omega, by go_num, ho2, HNEXT.out, ⟨curs_next HCURS.out.1 HBOOK.out.len (by omega) (by rw [HCC.out]; exact HX.out), HSTEP.out⟩, hb2⟩ | ((repeat apply Exists.intro); exact ⟨⟨k + 1, _, by omega, by omega, by go_num, ho2, HNEXT.out, ⟨curs_next HCURS.out.1 HBOOK.out.len (by omega) (by rw [HCC.out]; exact HX.out), HSTEP.out⟩, hb2⟩, rfl⟩)
             case measure => simp [intOf]; omega
     · go_wp2
       go_ret
       exact FIN.out (.inl (by omega))
end Go.Proofs.YteifgmdaggiaaaaGreatDoor
namespace Go.Proofs.YteifgmdaggiaaaaGreatDoor
open Go.RowKit
/-- A slice of bytes that came in, as natural numbers. -/
theorem row_bytes {w : World} {a : Option Addr} {len cap : Nat} {zs : List Int} (h : IsRow .u8 w a len cap zs) :
  ∃ xs : List Nat, Rd .u8 w a len (ints xs) ∧ xs.length = len ∧ (∀ x ∈ xs, x < 256) ∧ len ≤ cap ∧ cap ≤ maxLen := by
 rcases h with ⟨rfl, rfl, rfl, rfl⟩ | ⟨x, rfl, hl, hm, hz, hc, hw⟩
 · exact ⟨[], Rd.nil, rfl, by simp, Nat.le_refl _, Nat.zero_le _⟩
 · have hnn : ∀ z ∈ zs, 0 ≤ z ∧ z ≤ 255 := by
    intro z hz
    have h := hw z hz
    simp only [Lit.wf, Bool.and_eq_true, decide_eq_true_eq] at h
    have e1 : IntKind.u8.min = 0 := rfl
    have e2 : IntKind.u8.max = 255 := rfl
    omega
   have hi : ints ((zs.take len).map Int.toNat) = zs.take len := by
    unfold ints
    rw [List.map_map]
    conv => rhs; rw [← List.map_id (zs.take len)]
    apply List.map_congr_left
    intro z hz
    have := hnn z (List.mem_of_mem_take hz)
    simp
    omega
   have hll : (zs.take len).length = len := by rw [List.length_take]; omega
   refine ⟨(zs.take len).map Int.toNat, ?_, by rw [List.length_map, hll], ?_, hl, hm⟩
   · rw [hi]
     refine ⟨hll, fun _ => ⟨x, rfl, fun j hj => ?_⟩⟩
     rw [hc j (by omega)]
     simp [List.getD, hj]
   · intro y hy
     obtain ⟨z, hz, rfl⟩ := List.mem_map.1 hy
     have := hnn z (List.mem_of_mem_take hz)
     omega
end Go.Proofs.YteifgmdaggiaaaaGreatDoor
namespace Go.Proofs.YteifgmdaggiaaaaGreatDoor
open Go Go.RowKit Go.ChangeShapes Go.WideShapes
set_option linter.unusedVariables false
theorem row_u32 {w : World} {a : Option Addr} {len cap : Nat} {zs : List Int} (h : IsRow .u32 w a len cap zs) :
  ∃ xs : List Nat, Rd .u32 w a len (ints xs) ∧ xs.length = len ∧ (∀ x ∈ xs, x < 4294967296) ∧ len ≤ cap ∧ cap ≤ maxLen := by
 rcases h with ⟨rfl, rfl, rfl, rfl⟩ | ⟨x, rfl, hl, hm, hz, hc, hw⟩
 · exact ⟨[], Rd.nil, rfl, by simp, Nat.le_refl _, Nat.zero_le _⟩
 · have hnn : ∀ z ∈ zs, 0 ≤ z ∧ z ≤ 4294967295 := by
    intro z hz
    have h := hw z hz
    simp only [Lit.wf, Bool.and_eq_true, decide_eq_true_eq] at h
    have e1 : IntKind.u32.min = 0 := rfl
    have e2 : IntKind.u32.max = 4294967295 := rfl
    omega
   have hi : ints ((zs.take len).map Int.toNat) = zs.take len := by
    unfold ints
    rw [List.map_map]
    conv => rhs; rw [← List.map_id (zs.take len)]
    apply List.map_congr_left
    intro z hz
    have := hnn z (List.mem_of_mem_take hz)
    simp
    omega
   have hll : (zs.take len).length = len := by rw [List.length_take]; omega
   refine ⟨(zs.take len).map Int.toNat, ?_, by rw [List.length_map, hll], ?_, hl, hm⟩
   · rw [hi]
     refine ⟨hll, fun _ => ⟨x, rfl, fun j hj => ?_⟩⟩
     rw [hc j (by omega)]
     simp [List.getD, hj]
   · intro y hy
     obtain ⟨z, hz, rfl⟩ := List.mem_map.1 hy
     have := hnn z (List.mem_of_mem_take hz)
     omega
/-- A book: three rows of numbers. -/
structure BookAt (w : World) (v : Value) : Prop where
 form : ∃ (CA HA LA : Option Addr) (cl cc hl hc ll lc : Nat) (cs hs ls : List Nat), v = .agg #[.slice CA cl cc, .slice HA hl hc, .slice LA ll lc] ∧
  Rd .u8 w CA cl (ints cs) ∧ Rd .u32 w HA hl (ints hs) ∧ Rd .u8 w LA ll (ints ls) ∧ (∀ x ∈ cs, x < 256) ∧ (∀ x ∈ hs, x < 4294967296) ∧ (∀ x ∈ ls, x < 256) ∧
  cl ≤ 9223372036854775807 ∧ hl ≤ 9223372036854775807 ∧ ll ≤ 9223372036854775807
 caps : ∃ (CA : Option Addr) (cl cc : Nat) (x y : Value), v = .agg #[.slice CA cl cc, x, y] ∧ cl ≤ cc ∧ cc ≤ maxLen
theorem row_of {H : Type} {enc : TypeId × Value → H} {w : World} {fuel : Nat} {k : IntKind} {t e : TypeId} {v : Value} {x : DataW H × List MemPlace} (ht : Tryz.prog.underlying t = some (.slice e)) (he : Tryz.prog.underlying e = some (.int k)) (h1 : Tryz.prog.cellsOf e = 1)
  (h : DataW.trod enc Tryz.prog w 0 (fun _ => true) true fuel t [v] = some x) : ∃ a len cap zs, v = .slice a len cap ∧ IsRow k w a len cap zs := by
 rcases open_ints ht he h1 h with ⟨h5, _⟩ | ⟨a', l', c', zs, h5, _, hl', hm', hz, _, hcell', hwz⟩
 · simp at h5
   exact ⟨none, 0, 0, [], h5, .inl ⟨rfl, rfl, rfl, rfl⟩⟩
 · simp at h5
   exact ⟨some a', l', c', zs, h5, .inr ⟨_, rfl, hl', hm', by simpa using hz, hcell', hwz⟩⟩
set_option maxRecDepth 100000 in
theorem book_arg {H : Type} {enc : TypeId × Value → H} {w : World} {base : Nat} {r : Reach} {v : Value} {d : DataW H} {p : List MemPlace} (hv : Value.okWide Tryz.prog w r base 25 v)
  (h : DataW.Trod enc Tryz.prog w 0 (fun _ => true) true 25 v d p) : BookAt w v := by
 obtain ⟨v0, v1, v2, y0, y1, y2, n, rfl, _, _, h0, h1, h2⟩ := Go.Joins.open_agg3 Tryz.underlying25 (by kernel_rfl) (by kernel_rfl) hv h
 obtain ⟨CA, cl, cc, zc, rfl, rc⟩ := row_of Tryz.underlying22 Tryz.underlying5 (by kernel_rfl) h0
 obtain ⟨HA, hl, hc, zh, rfl, rh⟩ := row_of Tryz.underlying23 Tryz.underlying88 (by kernel_rfl) h1
 obtain ⟨LA, ll, lc, zl, rfl, rl⟩ := row_of Tryz.underlying22 Tryz.underlying5 (by kernel_rfl) h2
 obtain ⟨cs, c1, c2, c3, c4, c5⟩ := row_bytes rc
 obtain ⟨hs, g1, g2, g3, g4, g5⟩ := row_u32 rh
 obtain ⟨ls, l1, l2, l3, l4, l5⟩ := row_bytes rl
 have hcap := c4
 have hcm := c5
 unfold maxLen at c5 g5 l5
 exact ⟨⟨CA, HA, LA, cl, cc, hl, hc, ll, lc, cs, hs, ls, rfl, c1, g1, l1, c3, g3, l3, by omega, by omega, by omega⟩, ⟨CA, cl, cc, _, _, rfl, hcap, hcm⟩⟩
end Go.Proofs.YteifgmdaggiaaaaGreatDoor
namespace Go.Proofs.YteifgmdaggiaaaaGreatDoor
open Go Go.RowKit
set_option linter.unusedVariables false
theorem bookTo_held (cs hs : List Nat) : ∀ k, ∀ a ∈ bookTo cs hs [] k, a.held = 0
 | 0 => fun a ha => by
   unfold bookTo house at ha
   simp at ha
   rcases ha with rfl | rfl | rfl <;> rfl
 | k + 1 => fun a ha => by
   simp only [bookTo, List.mem_append, List.mem_singleton] at ha
   rcases ha with ha | rfl
   · rcases List.mem_or_eq_of_mem_set ha with h | rfl
     · exact bookTo_held cs hs k a h
     · rfl
   · rfl
/-- What State makes: of so many payments, at such a time. -/
structure Made (n : Nat) (t : Int) (s : St) : Prop where
 ok : Ok s
 len : s.acs.length = 15
 bal : ∀ a ∈ s.acs, -1000000 ≤ a.bal ∧ a.bal ≤ 1000000
 pays : s.pys.length ≤ n
 now : s.now = t
 aut : ∀ p ∈ s.pys, p.aut ≤ 256 ∧ 0 ≤ p.til ∧ p.til < 20
theorem Made.first (cs hs : List Nat) {t : Int} (ht : 0 ≤ t ∧ t < 12) : Made 0 t ⟨bookTo cs hs [] 6, [], t⟩ := by
 have hb := bookTo_ok cs hs [] 6
 refine ⟨⟨hb.right (by omega), fun c _ => hb.sums c, Nat.zero_le _, (fun p hp => by cases hp), fun k a ha => ?_, by dsimp only; omega⟩, hb.len, fun a ha => ?_, Nat.le_refl _, rfl, fun p hp => by cases hp⟩
 · exact bookTo_held cs hs 6 a (List.mem_of_getElem? ha)
 · obtain ⟨j, hj⟩ := List.getElem?_of_mem ha
   by_cases h9 : j < 9
   · obtain ⟨b, h1, h2, h3⟩ := hb.house j h9
     rw [h1] at hj
     injection hj with hj
     subst hj
     dsimp only
     omega
   · obtain ⟨h1, h2, h3, h4, h5⟩ := hb.client j a (by omega) hj
     omega
theorem Ok.added {s : St} (h : Ok s) {p : Py} (hr : p.right) (hf : isC s.acs.length p.frm) (hd : isC s.acs.length p.dst) (hne : p.frm ≠ p.dst) (hcap : p.stg = 0 → p.cap < p.aut) (hm : s.pys.length < 2000000) :
  (0 < leftP p → holdE s.acs p.frm (leftP p) = 0 → Ok ⟨holdL s.acs p.frm (leftP p), s.pys ++ [p], s.now⟩) ∧ (¬ 0 < leftP p → Ok ⟨s.acs, s.pys ++ [p], s.now⟩) := by
 have hleft := hr.left
 constructor
 · intro h0 hE
   have hst : p.stg = 0 := by
    by_cases hs : p.stg = 0
    · exact hs
    · rw [if_neg hs] at hleft; omega
   rw [if_pos hst] at hleft
   have hlen := hold_len hE
   refine ⟨hold_right h.right hE, fun c hc => by rw [hold_sums hE c]; exact h.sums c hc, by rw [List.length_append, List.length_singleton]; omega, fun x hx => ?_, fun k b hb => ?_, h.now⟩
   · show x.right ∧ isC (holdL s.acs p.frm (leftP p)).length x.frm ∧ isC (holdL s.acs p.frm (leftP p)).length x.dst ∧ _
     rw [hlen]
     rcases List.mem_append.1 hx with hx | hx
     · exact h.pays x hx
     · rw [List.mem_singleton] at hx
       subst hx
       exact ⟨hr, hf, hd, hne, hcap⟩
   · dsimp only at hb
     obtain ⟨q, hq⟩ : ∃ q : Nat, p.frm = (q : Int) := ⟨p.frm.toNat, by unfold isC at hf; omega⟩
     rw [hq] at hE hb
     obtain ⟨a, ha, rfl⟩ := hold_at h.right hE hb
     dsimp only
     rw [hsum_append, hsum_cons, ← h.held k a ha]
     unfold hpart
     rw [show hsum k [] = 0 from rfl, hleft]
     by_cases hk : q = k
     · subst hk
       rw [if_pos rfl, if_pos ⟨hst, hq⟩]
       omega
     · rw [if_neg hk, if_neg (by rw [hq]; omega)]
       omega
 · intro h0
   have hst : ¬ p.stg = 0 := fun hs => by
    rw [if_pos hs] at hleft
    have := hcap hs
    omega
   refine ⟨h.right, h.sums, by rw [List.length_append, List.length_singleton]; omega, fun x hx => ?_, fun k b hb => ?_, h.now⟩
   · rcases List.mem_append.1 hx with hx | hx
     · exact h.pays x hx
     · rw [List.mem_singleton] at hx
       subst hx
       exact ⟨hr, hf, hd, hne, hcap⟩
   · rw [h.held k b hb]
     show hsum k s.pys = hsum k (s.pys ++ [p])
     rw [hsum_append, hsum_cons]
     unfold hpart
     rw [if_neg (fun hh => hst hh.1), show hsum k [] = 0 from rfl]
     omega
/-- One payment more, of numbers. -/
theorem Made.add {n : Nat} {t : Int} {s : St} (h : Made n t s) {z : Pd} (hz : z.fits) (hne : z.pay.frm ≠ z.pay.dst) (hn : n < 2000000) :
  (0 < leftP z.pay → holdE s.acs z.pay.frm (leftP z.pay) = 0 → Made (n + 1) t ⟨holdL s.acs z.pay.frm (leftP z.pay), s.pys ++ [z.pay], s.now⟩) ∧ (¬ 0 < leftP z.pay → Made (n + 1) t ⟨s.acs, s.pys ++ [z.pay], s.now⟩) := by
 have hc1 : isC s.acs.length z.pay.frm := by rw [h.len]; unfold isC Pd.pay; dsimp only; omega
 have hc2 : isC s.acs.length z.pay.dst := by rw [h.len]; unfold isC Pd.pay; dsimp only; omega
 have hcap : z.pay.stg = 0 → z.pay.cap < z.pay.aut := fun hs => by
  have h2 := z.C_lt
  have h3 : ¬ ((z.C : Int) = 1 + (z.a : Int)) := fun e => by
   unfold Pd.pay at hs
   dsimp only at hs
   rw [if_pos (Or.inr e)] at hs
   omega
  show (z.C : Int) < 1 + (z.a : Int)
  omega
 have hp := h.pays
 have key := h.ok.added (z.right hz) hc1 hc2 hne hcap (by omega)
 have haut : ∀ p ∈ s.pys ++ [z.pay], p.aut ≤ 256 ∧ 0 ≤ p.til ∧ p.til < 20 := fun p hp => by
  rcases List.mem_append.1 hp with hp | hp
  · exact h.aut p hp
  · rw [List.mem_singleton] at hp
    subst hp
    have := hz.a
    unfold Pd.pay
    dsimp only
    omega
 refine ⟨fun h0 hE => ⟨key.1 h0 hE, by show (holdL s.acs z.pay.frm (leftP z.pay)).length = 15; rw [hold_len hE]; exact h.len, fun a ha => ?_, by rw [List.length_append, List.length_singleton]; omega, h.now, haut⟩, fun h0 => ⟨key.2 h0, h.len, h.bal, by rw [List.length_append, List.length_singleton]; omega, h.now, haut⟩⟩
 obtain ⟨j, hj⟩ := List.getElem?_of_mem ha
 obtain ⟨q, hq⟩ : ∃ q : Nat, z.pay.frm = (q : Int) := ⟨z.pay.frm.toNat, by unfold isC at hc1; omega⟩
 dsimp only at hj
 rw [hq] at hE hj
 obtain ⟨b, hb, rfl⟩ := hold_at h.ok.right hE hj
 exact h.bal b (List.mem_of_getElem? hb)
theorem Made.more {n m : Nat} {t : Int} {s : St} (h : Made n t s) (hm : n ≤ m) : Made m t s := ⟨h.ok, h.len, h.bal, Nat.le_trans h.pays hm, h.now, h.aut⟩
/-- The state s lies in the block g, over accounts and payments of its own; F are blocks that it has nothing to do with. -/
structure Ds (F : Nat → Prop) (w : World) (g : Nat) (va vp X Y : Value) (s : St) : Prop where
 blk : Blk w g 35 #[va, vp, X, Y, .int .i64 s.now]
 oa : OwnA w 0 va s.acs
 op : OwnS pays w 0 vp s.pys
 ag : ∀ b, va.ownBlock = some b → b ≠ g ∧ vp.ownBlock ≠ some b ∧ ¬ F b
 pg : ∀ b, vp.ownBlock = some b → b ≠ g ∧ ¬ F b
 gF : ¬ F g
 lt : ∀ k, F k → k < w.heap.size
section
variable {F : Nat → Prop} {w w1 w2 w' : World} {g : Nat} {va vp X Y v : Value} {s : St} {zs : List Ac} {ps : List Py}
variable {b n c : Nat}
theorem Ds.alt (h : Ds F w g va vp X Y s) : ∀ b, va.ownBlock = some b → b < w.heap.size := fun b hb => (World.ownsRow.lt h.oa b hb).2
theorem Ds.plt (h : Ds F w g va vp X Y s) : ∀ b, vp.ownBlock = some b → b < w.heap.size := fun b hb => (World.ownsRow.lt h.op b hb).2
theorem Ds.below (h : Ds F w g va vp X Y s) (hb : Below w.heap.size w w') : Ds F w' g va vp X Y s :=
 ⟨h.blk.later hb, h.oa.below hb, h.op.below hb, h.ag, h.pg, h.gF, fun k hk => Nat.lt_of_lt_of_le (h.lt k hk) hb.size⟩
theorem Ds.alloc (h : Ds F w g va vp X Y s) (o : Obj) : Ds F (w.alloc o) g va vp X Y s := h.below ((Below.refl _ _).alloc (Nat.le_refl _) o)
theorem Ds.on (h : Ds F w g va vp X Y s) (hb : Below w.heap.size w w') : On F w w' := On.of hb h.lt
theorem Ds.drewN (h : Ds F w g va vp X Y s) (m : Nat) : Ds F (w.drewN m) g va vp X Y s := ⟨h.blk, h.oa, h.op, h.ag, h.pg, h.gF, h.lt⟩
theorem Ds.drew (h : Ds F w g va vp X Y s) : Ds F w.drew g va vp X Y s := ⟨h.blk, h.oa, h.op, h.ag, h.pg, h.gF, h.lt⟩
/-- Other accounts, made since. -/
theorem Ds.setA (h : Ds F w1 g va vp X Y s) (hb : Below w1.heap.size w1 w2) (ho : OwnA w2 w1.heap.size v zs) :
  Ds F (w2.setCell ⟨g, 0, none⟩ v) g v vp X Y ⟨zs, s.pys, s.now⟩ ∧ On F w1 (w2.setCell ⟨g, 0, none⟩ v) := by
 have h2 := h.below hb
 have hgl := h.blk.lt
 have hv : ∀ b, v.ownBlock = some b → w1.heap.size ≤ b := ho.rowLt
 refine ⟨⟨h2.blk.set 0 v, ?_, ?_, fun b e => ⟨?_, fun e' => ?_, fun hF => ?_⟩, h.pg, h.gF, fun k hk => ?_⟩, (h.on hb).setCell h.gF v⟩
 · exact (ho.less (Nat.zero_le _)).setOther (p := ⟨g, 0, none⟩) fun b e => by have := hv b e; dsimp only; omega
 · exact h2.op.setOther (p := ⟨g, 0, none⟩) fun b e => (h.pg b e).1
 · have := hv b e; omega
 · have := hv b e; have := h.plt b e'; omega
 · have := hv b e; have := h.lt b hF; omega
 · have := h2.lt k hk
   simpa [World.setCell] using this
/-- One payment more. -/
theorem Ds.growP (h : Ds F w1 g va vp X Y s) (hg : w1.grownBy w2 vp.ownBlock) (ho : OwnS pays w2 0 v ps) (hat : ∀ b, v.ownBlock = some b → vp.ownBlock = some b ∨ b = w1.heap.size) :
  Ds F (w2.setCell ⟨g, 1, none⟩ v) g va v X Y ⟨s.acs, ps, s.now⟩ ∧ On F w1 (w2.setCell ⟨g, 1, none⟩ v) := by
 have hgl := h.blk.lt
 have hv : ∀ b, v.ownBlock = some b → b ≠ g ∧ ¬ F b := fun b e => by
  rcases hat b e with e' | e'
  · exact h.pg b e'
  · exact ⟨by omega, fun k => by have := h.lt b k; omega⟩
 refine ⟨⟨(h.blk.grown hg (fun e => (h.pg g e.symm).1 rfl)).set 1 v, ?_, ?_, fun b e => ⟨(h.ag b e).1, fun k => ?_, (h.ag b e).2.2⟩, hv, h.gF, fun k hk => ?_⟩, ((On.refl F w1).grown hg h.lt (fun k e => (h.pg k e).2)).setCell h.gF v⟩
 · exact (h.oa.same fun b e => hg.block b (h.alt b e) (fun e' => (h.ag b e).2.1 e'.symm)).setOther (p := ⟨g, 1, none⟩) fun b e => (h.ag b e).1
 · exact ho.setOther (p := ⟨g, 1, none⟩) fun b e => (hv b e).1
 · rcases hat b k with k' | k'
   · exact (h.ag b e).2.1 k'
   · have := h.alt b e; omega
 · have h1 := h.lt k hk
   have h2 := hg.size
   have : k < w2.heap.size := by omega
   simpa [World.setCell] using this
end
end Go.Proofs.YteifgmdaggiaaaaGreatDoor
