/-
  Entries, and pairs, that came in: a slice of them as a list.
-/
import Derived.Test.YtbneohglblkmeaaDoorEnt
import Derived.Test.YtbneohglblkmeaaDoorChartArg
import Derived.Deep.Slices
namespace Go.Proofs.YtbneohglblkmeaaDoor
open Go Go.RowKit Go.ChangeShapes Go.WideShapes
set_option linter.unusedVariables false

def En.fits (e : En) : Prop := isInt e.acct ∧ isInt e.amt
/-- A slice of entries: it is nil; or it leads to a row of them, two cells each. -/
def IsEnts (w : World) (a : Option Addr) (len cap : Nat) : Prop :=
  (a = none ∧ len = 0 ∧ cap = 0) ∨
  ∃ x, a = some x ∧ len ≤ cap ∧ cap ≤ maxLen ∧ ∀ i, i < cap → ∃ z : En, z.fits ∧ EnAt w x i z

theorem ents_list {w : World} {a : Option Addr} {len cap : Nat} (h : IsEnts w a len cap) :
    ∃ zs : List En, zs.length = len ∧ RdE w a zs ∧ (∀ (j : Nat) z, zs[j]? = some z → z.fits) ∧ len ≤ cap ∧ cap ≤ maxLen ∧ (a = none → len = 0 ∧ cap = 0) := by
  rcases h with ⟨rfl, rfl, rfl⟩ | ⟨ad, rfl, hl, hm, hx⟩
  · exact ⟨[], rfl, fun h => by simp at h, by simp, Nat.le_refl _, Nat.zero_le _, fun _ => ⟨rfl, rfl⟩⟩
  · have each : ∀ j, ∃ z : En, j < len → z.fits ∧ EnAt w ad j z := by
      intro j
      by_cases hj : j < len
      · obtain ⟨z, h1, h2⟩ := hx j (by omega)
        exact ⟨z, fun _ => ⟨h1, h2⟩⟩
      · exact ⟨⟨0, 0⟩, fun h => absurd h hj⟩
    have hget : ∀ (j : Nat) z, ((List.range len).map fun j => (each j).choose)[j]? = some z → z.fits ∧ EnAt w ad j z := by
      intro j z hj
      rw [List.getElem?_map] at hj
      by_cases hjl : j < len
      · rw [List.getElem?_range hjl] at hj
        simp at hj
        subst hj
        exact (each j).choose_spec hjl
      · simp [hjl] at hj
    exact ⟨(List.range len).map fun j => (each j).choose, by simp, fun _ => ⟨ad, rfl, fun j z hj => (hget j z hj).2⟩, fun j z hj => (hget j z hj).1, hl, hm, fun h => by cases h⟩

theorem size_ent2 : Tryd.prog.cellsOf 33 = 2 := by kernel_rfl

set_option maxRecDepth 100000 in
theorem ent_of {H : Type} {enc : TypeId × Value → H} {w : World} {fuel : Nat} {ad : Addr} {i : Nat} {cs' : List Value} {x : DataW H × List MemPlace}
    (h1 : w.cells? 0 (ad.add (i * 2)) 2 = some cs') (h2 : DataW.trod enc Tryd.prog w 0 (fun _ => true) true fuel 33 cs' = some x) : ∃ z : En, z.fits ∧ EnAt w ad i z := by
  obtain ⟨_, hlen, hcell⟩ := World.cells?_some h1
  obtain ⟨xs, k, hk, _, _, hxl, hf⟩ := DataW.trod_struct Tryd.underlying33 h2
  match xs, hxl, cs', hlen with
  | [y0, y1], _, [v0, v1], _ =>
    have g0 := hf 0 _ rfl
    have g1 := hf 1 _ rfl
    simp [size_int1] at g0 g1
    have e0 := hcell 0 (by omega)
    have e1 := hcell 1 (by omega)
    rw [add_add] at e0 e1
    simp at e0 e1
    obtain ⟨c, hc, _, wc⟩ := DataW.trod_int Tryd.underlying3 g0
    obtain ⟨b, hb, _, wb⟩ := DataW.trod_int Tryd.underlying3 g1
    simp at hc hb
    subst hc hb
    exact ⟨⟨c, b⟩, ⟨int_in wc, int_in wb⟩, ⟨e0, e1⟩⟩

set_option maxRecDepth 100000 in
theorem isEnts_of {H : Type} {enc : TypeId × Value → H} {w : World} {fuel : Nat} {a : Option Addr} {len cap : Nat} {x : DataW H × List MemPlace}
    (h : DataW.trod enc Tryd.prog w 0 (fun _ => true) true fuel 27 (Value.slice a len cap).cells.toList = some x) : IsEnts w a len cap ∧ (cap = 0 ∨ ∃ es sp, x.1 = .slice es sp ∧ es.length + sp.length = cap) := by
  rcases Go.Deep.open_slice Tryd.underlying27 h with ⟨hcs, hx0⟩ | ⟨ad, l, c, m, n, D, Pl, hcs, _, hl, hm, hmm, hd, hx⟩
  · simp [Value.cells] at hcs
    exact ⟨.inl hcs, .inl hcs.2.2⟩
  · simp [Value.cells] at hcs
    obtain ⟨rfl, rfl, rfl⟩ := hcs
    simp only [if_true] at hmm
    subst hmm
    refine ⟨.inr ⟨ad, rfl, hl, hm, fun i hi => ?_⟩, .inr ⟨_, _, by rw [hd], by simp; omega⟩⟩
    obtain ⟨cs', h1, h2⟩ := hx i hi
    rw [size_ent2] at h1
    exact ent_of h1 h2
end Go.Proofs.YtbneohglblkmeaaDoor
