/-
  Slices of records that came in, as lists; a struct's fields, one by one. Of any program.
-/
import Derived.Test.YtdcghnoioecglaaShape
import Derived.Deep.Slices
import Derived.Lib.SmallJoins
namespace Go.Proofs.Ytdcghnoioecglaa
open Go Go.RowKit Go.ChangeShapes Go.WideShapes Go.Deep Go.Joins
set_option linter.unusedVariables false

/-- A slice of records: it is nil; or it leads to a row of them. -/
def IsRecs {α : Type} (S : Shape α) (ok : α → Prop) (w : World) (a : Option Addr) (len cap : Nat) : Prop :=
  (a = none ∧ len = 0 ∧ cap = 0) ∨
  ∃ x, a = some x ∧ len ≤ cap ∧ cap ≤ maxLen ∧ ∀ i, i < cap → ∃ z, ok z ∧ AtS S w x i z

section
variable {α : Type} {S : Shape α} {ok : α → Prop} {w : World} {a : Option Addr} {len cap : Nat}
theorem recs_list (h : IsRecs S ok w a len cap) :
    ∃ zs : List α, zs.length = len ∧ RdS S w a zs ∧ (∀ (j : Nat) z, zs[j]? = some z → ok z) ∧ len ≤ cap ∧ cap ≤ maxLen ∧ (a = none → len = 0 ∧ cap = 0) := by
  rcases h with ⟨rfl, rfl, rfl⟩ | ⟨ad, rfl, hl, hm, hx⟩
  · exact ⟨[], rfl, fun h => by simp at h, by simp, Nat.le_refl _, Nat.zero_le _, fun _ => ⟨rfl, rfl⟩⟩
  · by_cases h0 : len = 0
    · subst h0
      exact ⟨[], rfl, fun h => by simp at h, by simp, hl, hm, fun h => by cases h⟩
    · obtain ⟨z0, _, _⟩ := hx 0 (by omega)
      have each : ∀ j, ∃ z : α, j < len → ok z ∧ AtS S w ad j z := by
        intro j
        by_cases hj : j < len
        · obtain ⟨z, h1, h2⟩ := hx j (by omega)
          exact ⟨z, fun _ => ⟨h1, h2⟩⟩
        · exact ⟨z0, fun h => absurd h hj⟩
      have hget : ∀ (j : Nat) z, ((List.range len).map fun j => (each j).choose)[j]? = some z → ok z ∧ AtS S w ad j z := by
        intro j z hj
        rw [List.getElem?_map] at hj
        by_cases hjl : j < len
        · rw [List.getElem?_range hjl] at hj
          simp at hj
          subst hj
          exact (each j).choose_spec hjl
        · simp [hjl] at hj
      exact ⟨(List.range len).map fun j => (each j).choose, by simp, fun _ => ⟨ad, rfl, fun j z hj => (hget j z hj).2⟩, fun j z hj => (hget j z hj).1, hl, hm, fun h => by cases h⟩
end

section
variable {P : Program} {H : Type} {enc : TypeId × Value → H} {w : World} {base fuel : Nat} {spare : Nat → Bool} {held : Bool} {t : TypeId} {cs : List Value} {x : DataW H × List MemPlace}
/-- One field of a struct. -/
theorem trod_field {fs : Array Field} (ht : P.underlying t = some (.struct fs)) (h : DataW.trod enc P w base spare held fuel t cs = some x) (i : Nat) (f : Field) (hf : fs[i]? = some f) (o c : Nat) (ho : f.offset = o) (hc : P.cellsOf f.type = c) :
    ∃ n y, DataW.trod enc P w base spare held n f.type ((cs.drop o).take c) = some y := by
  obtain ⟨xs, n, _, _, _, hxl, hx⟩ := DataW.trod_struct ht h
  subst ho hc
  have hi : i < xs.length := by rw [hxl]; exact (Array.getElem?_eq_some_iff.1 hf).1
  exact ⟨n, xs[i], by rw [hx i f hf]; exact List.getElem?_eq_getElem hi⟩
/-- A field that is an integer. -/
theorem trod_num {fs : Array Field} (ht : P.underlying t = some (.struct fs)) (h : DataW.trod enc P w base spare held fuel t cs = some x) (k : IntKind) (i : Nat) (f : Field) (hf : fs[i]? = some f) (o : Nat) (ho : f.offset = o) (hc : P.cellsOf f.type = 1) (hk : P.underlying f.type = some (.int k)) :
    ∃ n, (cs.drop o).take 1 = [.int k n] ∧ (Lit.int k n).wf = true := by
  obtain ⟨n, y, g⟩ := trod_field ht h i f hf o 1 ho hc
  obtain ⟨m, e, _, hw⟩ := DataW.trod_int hk g
  exact ⟨m, e, hw⟩
/-- A field that is a bool. -/
theorem trod_flag {fs : Array Field} (ht : P.underlying t = some (.struct fs)) (h : DataW.trod enc P w base spare held fuel t cs = some x) (i : Nat) (f : Field) (hf : fs[i]? = some f) (o : Nat) (ho : f.offset = o) (hc : P.cellsOf f.type = 1) (hk : P.underlying f.type = some .bool) :
    ∃ b, (cs.drop o).take 1 = [.bool b] := by
  obtain ⟨n, y, g⟩ := trod_field ht h i f hf o 1 ho hc
  obtain ⟨m, e, _⟩ := DataW.trod_bool hk g
  exact ⟨m, e⟩

/-- A slice of records that came in. -/
theorem isRecs_of {α : Type} (S : Shape α) (ok : α → Prop) {st : TypeId} (hst : P.underlying st = some (.slice S.ty)) (hsz : P.cellsOf S.ty = S.size) {a : Option Addr} {len cap : Nat}
    (hrec : ∀ n cs y, DataW.trod enc P w 0 (fun _ => true) true n S.ty cs = some y → ∃ z, ok z ∧ cs = S.cells z)
    (h : DataW.trod enc P w 0 (fun _ => true) true fuel st (Value.slice a len cap).cells.toList = some x) : IsRecs S ok w a len cap ∧ (cap = 0 ∨ ∃ es sp, x.1 = .slice es sp ∧ es.length + sp.length = cap) := by
  rcases Go.Deep.open_slice hst h with ⟨hcs, hx0⟩ | ⟨ad, l, c, m, n, D, Pl, hcs, _, hl, hm, hmm, hd, hx⟩
  · simp [Value.cells] at hcs
    exact ⟨.inl hcs, .inl hcs.2.2⟩
  · simp [Value.cells] at hcs
    obtain ⟨rfl, rfl, rfl⟩ := hcs
    simp only [if_true] at hmm
    subst hmm
    refine ⟨.inr ⟨ad, rfl, hl, hm, fun i hi => ?_⟩, .inr ⟨_, _, by rw [hd], by simp; omega⟩⟩
    obtain ⟨cs', h1, h2⟩ := hx i hi
    rw [hsz] at h1
    obtain ⟨_, hlen, hcell⟩ := World.cells?_some h1
    obtain ⟨z, hok, rfl⟩ := hrec _ _ _ h2
    refine ⟨z, hok, fun j u hu => ?_⟩
    have hj : j < S.size := by have := (List.getElem?_eq_some_iff.1 hu).1; rw [S.len] at this; exact this
    have := hcell j hj
    rw [add_add] at this
    rw [this, ← hu]
end
end Go.Proofs.Ytdcghnoioecglaa
