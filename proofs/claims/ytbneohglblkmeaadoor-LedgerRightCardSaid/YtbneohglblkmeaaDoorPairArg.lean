/-
  Pairs (an account's place and an amount, as numbers) that came in: a slice of them as a list.
-/
import Derived.Test.YtbneohglblkmeaaDoorEntArg
namespace Go.Proofs.YtbneohglblkmeaaDoor
open Go Go.RowKit Go.ChangeShapes Go.WideShapes
set_option linter.unusedVariables false

/-- A pair. -/
structure Pr where
  acct : Nat
  amt : Int
def Pr.fits (p : Pr) : Prop := p.acct < 256 ∧ -2147483648 ≤ p.amt ∧ p.amt ≤ 2147483647
/-- The pair at j behind ad. -/
structure PrAt (w : World) (ad : Addr) (j : Nat) (a : Pr) : Prop where
  c0 : w.cell? (ad.add (j * 2)) = some (.int .u8 (a.acct : Int))
  c1 : w.cell? (ad.add (j * 2 + 1)) = some (.int .i32 a.amt)
def RdP (w : World) (A : Option Addr) (zs : List Pr) : Prop := 0 < zs.length → ∃ ad, A = some ad ∧ ∀ (j : Nat) (a : Pr), zs[j]? = some a → PrAt w ad j a
section
variable {w w' : World} {A : Option Addr} {zs : List Pr} {j : Nat} {a : Pr} {ad : Addr}
theorem PrAt.keep (h : PrAt w ad j a) (hk : ∀ p : Addr, p.block < w.heap.size → w'.cell? p = w.cell? p) : PrAt w' ad j a :=
  ⟨by rw [hk _ (World.block_lt_of_cell? w _ h.c0)]; exact h.c0, by rw [hk _ (World.block_lt_of_cell? w _ h.c1)]; exact h.c1⟩
theorem RdP.keep (h : RdP w A zs) (hk : ∀ p : Addr, p.block < w.heap.size → w'.cell? p = w.cell? p) : RdP w' A zs := fun hn => by
  obtain ⟨ad, he, hc⟩ := h hn
  exact ⟨ad, he, fun j a hj => (hc j a hj).keep hk⟩
theorem RdP.below (h : RdP w A zs) (hb : Below w.heap.size w w') : RdP w' A zs := h.keep fun _ hp => hb.cell hp
theorem RdP.at_ (h : RdP w A zs) (hj : zs[j]? = some a) : ∃ ad, A = some ad ∧ PrAt w ad j a := by
  have hlt : j < zs.length := (List.getElem?_eq_some_iff.1 hj).1
  obtain ⟨ad, he, hc⟩ := h (by omega)
  exact ⟨ad, he, hc j a hj⟩
end
/-- A slice of pairs: it is nil; or it leads to a row of them, two cells each. -/
def IsPairs (w : World) (a : Option Addr) (len cap : Nat) : Prop :=
  (a = none ∧ len = 0 ∧ cap = 0) ∨
  ∃ x, a = some x ∧ len ≤ cap ∧ cap ≤ maxLen ∧ ∀ i, i < cap → ∃ z : Pr, z.fits ∧ PrAt w x i z

theorem pairs_list {w : World} {a : Option Addr} {len cap : Nat} (h : IsPairs w a len cap) :
    ∃ zs : List Pr, zs.length = len ∧ RdP w a zs ∧ (∀ (j : Nat) z, zs[j]? = some z → z.fits) ∧ len ≤ cap ∧ cap ≤ maxLen := by
  rcases h with ⟨rfl, rfl, rfl⟩ | ⟨ad, rfl, hl, hm, hx⟩
  · exact ⟨[], rfl, fun h => by simp at h, by simp, Nat.le_refl _, Nat.zero_le _⟩
  · have each : ∀ j, ∃ z : Pr, j < len → z.fits ∧ PrAt w ad j z := by
      intro j
      by_cases hj : j < len
      · obtain ⟨z, h1, h2⟩ := hx j (by omega)
        exact ⟨z, fun _ => ⟨h1, h2⟩⟩
      · exact ⟨⟨0, 0⟩, fun h => absurd h hj⟩
    have hget : ∀ (j : Nat) z, ((List.range len).map fun j => (each j).choose)[j]? = some z → z.fits ∧ PrAt w ad j z := by
      intro j z hj
      rw [List.getElem?_map] at hj
      by_cases hjl : j < len
      · rw [List.getElem?_range hjl] at hj
        simp at hj
        subst hj
        exact (each j).choose_spec hjl
      · simp [hjl] at hj
    exact ⟨(List.range len).map fun j => (each j).choose, by simp, fun _ => ⟨ad, rfl, fun j z hj => (hget j z hj).2⟩, fun j z hj => (hget j z hj).1, hl, hm⟩

theorem size_pair2 : Tryd.prog.cellsOf 56 = 2 := by kernel_rfl
theorem size_u81 : Tryd.prog.cellsOf 5 = 1 := by kernel_rfl
theorem size_i321 : Tryd.prog.cellsOf 21 = 1 := by kernel_rfl

set_option maxRecDepth 100000 in
theorem pair_of {H : Type} {enc : TypeId × Value → H} {w : World} {fuel : Nat} {ad : Addr} {i : Nat} {cs' : List Value} {x : DataW H × List MemPlace}
    (h1 : w.cells? 0 (ad.add (i * 2)) 2 = some cs') (h2 : DataW.trod enc Tryd.prog w 0 (fun _ => true) true fuel 56 cs' = some x) : ∃ z : Pr, z.fits ∧ PrAt w ad i z := by
  obtain ⟨_, hlen, hcell⟩ := World.cells?_some h1
  obtain ⟨xs, k, hk, _, _, hxl, hf⟩ := DataW.trod_struct Tryd.underlying56 h2
  match xs, hxl, cs', hlen with
  | [y0, y1], _, [v0, v1], _ =>
    have g0 := hf 0 _ rfl
    have g1 := hf 1 _ rfl
    simp [size_u81, size_i321] at g0 g1
    have e0 := hcell 0 (by omega)
    have e1 := hcell 1 (by omega)
    rw [add_add] at e0 e1
    simp at e0 e1
    obtain ⟨c, hc, _, wc⟩ := DataW.trod_int Tryd.underlying5 g0
    obtain ⟨b, hb, _, wb⟩ := DataW.trod_int Tryd.underlying21 g1
    simp at hc hb
    subst hc hb
    simp only [Lit.wf, Bool.and_eq_true, decide_eq_true_eq] at wc wb
    have q1 : IntKind.u8.min = 0 := rfl
    have q2 : IntKind.u8.max = 255 := rfl
    have q3 : IntKind.i32.min = -2147483648 := rfl
    have q4 : IntKind.i32.max = 2147483647 := rfl
    exact ⟨⟨c.toNat, b⟩, ⟨by dsimp only; omega, by dsimp only; omega, by dsimp only; omega⟩, ⟨by dsimp only; rw [e0, show ((c.toNat : Nat) : Int) = c by omega], e1⟩⟩

set_option maxRecDepth 100000 in
theorem isPairs_of {H : Type} {enc : TypeId × Value → H} {w : World} {fuel : Nat} {a : Option Addr} {len cap : Nat} {x : DataW H × List MemPlace}
    (h : DataW.trod enc Tryd.prog w 0 (fun _ => true) true fuel 26 (Value.slice a len cap).cells.toList = some x) : IsPairs w a len cap := by
  rcases Go.Deep.open_slice Tryd.underlying26 h with ⟨hcs, hx0⟩ | ⟨ad, l, c, m, n, D, Pl, hcs, _, hl, hm, hmm, hd, hx⟩
  · simp [Value.cells] at hcs
    exact .inl hcs
  · simp [Value.cells] at hcs
    obtain ⟨rfl, rfl, rfl⟩ := hcs
    simp only [if_true] at hmm
    subst hmm
    refine .inr ⟨ad, rfl, hl, hm, fun i hi => ?_⟩
    obtain ⟨cs', h1, h2⟩ := hx i hi
    rw [size_pair2] at h1
    exact pair_of h1 h2
end Go.Proofs.YtbneohglblkmeaaDoor
