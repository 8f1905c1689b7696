/-
  A disk's files as a rising list of names with what each file has; the map in memory reads as that list: what a look-up, a store and a delete make of it.
-/
import Derived.Test.YtopogffoiofgbaaDoorOwnMade
import Derived.Maps.OwnOps
import Derived.Maps.OwnSet
import Derived.Maps.RangeWalk
import Derived.Lib.SlKeysI
namespace Go.Proofs.YtopogffoiofgbaaDoor
open Go Go.RowKit Go.Maps

/-- What a file has: the slice of its bytes, its bytes, how many are safe. -/
structure FV where
  v : Value
  zs : List Nat
  safe : Nat
/-- The file's value in the map. -/
def FV.val (f : FV) : Value := .agg #[f.v, .int .i64 (f.safe : Int)]
/-- What a look-up hands back where there is no file. -/
def FV.zero : FV := ⟨.slice none 0 0, [], 0⟩

def ent (p : Int × FV) : Lit × DataW Value := (.int .i64 p.1, .held p.2.val)
/-- The map's reading. -/
def datum (fs : List (Int × FV)) : DataW Value := .map (fs.map ent)
def heldE (v : Value) : Option (DataW Value × List MemPlace) := some (.held v, [])

def fget (fs : List (Int × FV)) (k : Int) : Option FV := (fs.find? (fun p => p.1 == k)).map (·.2)
def fins (x : Int × FV) : List (Int × FV) → List (Int × FV)
  | [] => [x]
  | y :: r => if x.1 < y.1 then x :: y :: r else y :: fins x r
def fdel (fs : List (Int × FV)) (k : Int) : List (Int × FV) := fs.filter fun p => !(p.1 == k)
def fput (fs : List (Int × FV)) (k : Int) (f : FV) : List (Int × FV) := fins (k, f) (fdel fs k)

theorem same_int (a b : Int) : (Lit.int .i64 a).sameKey (.int .i64 b) = (a == b) := by
  by_cases h : a = b <;> simp [Lit.sameKey, h]

theorem find_ent (k : Int) : ∀ fs : List (Int × FV), (fs.map ent).find? (fun p => p.1.sameKey (.int .i64 k)) = (fs.find? (fun p => p.1 == k)).map ent
  | [] => rfl
  | x :: r => by
    rw [List.map_cons, List.find?_cons, List.find?_cons]
    simp only [ent, same_int]
    cases h : (x.1 == k)
    · simpa [ent] using find_ent k r
    · rfl
theorem datum_at (fs : List (Int × FV)) (k : Int) : (datum fs).atKey (.int .i64 k) (.held FV.zero.val) = .held ((fget fs k).getD FV.zero).val := by
  simp only [datum, DataW.atKey, find_ent, fget]
  cases fs.find? (fun p => p.1 == k) <;> rfl
theorem any_ent (k : Int) : ∀ fs : List (Int × FV), (fs.map ent).any (fun p => p.1.sameKey (.int .i64 k)) = (fget fs k).isSome
  | [] => rfl
  | x :: r => by
    rw [List.map_cons, List.any_cons, any_ent k r]
    simp only [ent, same_int, fget, List.find?_cons]
    cases h : (x.1 == k) <;> simp
theorem datum_has (fs : List (Int × FV)) (k : Int) : Maps.has (datum fs) (.int .i64 k) = (fget fs k).isSome := by
  rw [datum, Maps.has_eq, any_ent]
theorem filter_ent (k : Int) : ∀ fs : List (Int × FV), (fs.map ent).filter (fun p => !p.1.sameKey (.int .i64 k)) = (fdel fs k).map ent
  | [] => rfl
  | x :: r => by
    rw [List.map_cons, List.filter_cons, fdel, List.filter_cons, filter_ent k r]
    simp only [ent, same_int]
    cases h : (x.1 == k) <;> simp [fdel, ent]
theorem ins_ent (x : Int × FV) : ∀ fs : List (Int × FV), DataW.insert (ent x) (fs.map ent) = (fins x fs).map ent
  | [] => rfl
  | y :: r => by
    rw [List.map_cons, DataW.insert, fins, ins_ent x r]
    simp only [ent, Lit.before]
    by_cases h : x.1 < y.1 <;> simp [h, ent]
theorem datum_put (fs : List (Int × FV)) (k : Int) (f : FV) : (datum fs).put (.int .i64 k) (.held f.val) = datum (fput fs k f) := by
  simp only [datum, DataW.put, filter_ent, fput]
  exact congrArg DataW.map (ins_ent (k, f) _)
theorem datum_del (fs : List (Int × FV)) (k : Int) : (datum fs).del (.int .i64 k) = datum (fdel fs k) := by
  simp only [datum, DataW.del, filter_ent]
theorem datum_size (fs : List (Int × FV)) : Maps.size (datum fs) = fs.length := by simp [datum, Maps.size_eq]
theorem datum_keys (fs : List (Int × FV)) : intKeys (datum fs) = fs.map (·.1) := by
  simp only [datum, intKeys, List.map_map]
  exact List.map_congr_left fun _ _ => rfl

/-! What stands in the list. -/
theorem mem_fins {x y : Int × FV} : ∀ {fs : List (Int × FV)}, y ∈ fins x fs ↔ y = x ∨ y ∈ fs
  | [] => by simp [fins]
  | z :: r => by
    unfold fins
    split
    · simp
    · rw [List.mem_cons, mem_fins, List.mem_cons]
      constructor
      · rintro (h | h | h) <;> simp [h]
      · rintro (h | h | h) <;> simp [h]
theorem mem_fdel {y : Int × FV} {fs : List (Int × FV)} {k : Int} : y ∈ fdel fs k ↔ y ∈ fs ∧ y.1 ≠ k := by simp [fdel]
theorem mem_fput {y : Int × FV} {fs : List (Int × FV)} {k : Int} {f : FV} (h : y ∈ fput fs k f) : y = (k, f) ∨ (y ∈ fs ∧ y.1 ≠ k) := by
  rcases mem_fins.1 h with h | h
  · exact .inl h
  · exact .inr (mem_fdel.1 h)
theorem mem_fget {fs : List (Int × FV)} {k : Int} {f : FV} (h : fget fs k = some f) : (k, f) ∈ fs := by
  unfold fget at h
  cases hf : fs.find? (fun p => p.1 == k) with
  | none => simp [hf] at h
  | some p =>
    have h1 := List.find?_some hf
    have h2 := List.mem_of_find?_eq_some hf
    obtain ⟨a, b⟩ := p
    simp [hf] at h h1
    subst h h1
    exact h2
theorem length_fins (x : Int × FV) : ∀ fs : List (Int × FV), (fins x fs).length = fs.length + 1
  | [] => rfl
  | y :: r => by
    unfold fins
    split
    · rfl
    · simp [length_fins x r]
theorem length_fput (fs : List (Int × FV)) (k : Int) (f : FV) : (fput fs k f).length ≤ fs.length + 1 := by
  rw [fput, length_fins]
  have := List.length_filter_le (fun p : Int × FV => !(p.1 == k)) fs
  simp only [fdel]; omega
theorem up_fdel {fs : List (Int × FV)} (h : fs.Pairwise (fun x y => x.1 < y.1)) (k : Int) : (fdel fs k).Pairwise (fun x y => x.1 < y.1) := h.filter _
theorem up_fins {x : Int × FV} : ∀ {fs : List (Int × FV)}, fs.Pairwise (fun x y => x.1 < y.1) → (∀ y ∈ fs, y.1 ≠ x.1) → (fins x fs).Pairwise (fun x y => x.1 < y.1)
  | [], _, _ => by simp [fins]
  | y :: r, h, hne => by
    have hy : y.1 ≠ x.1 := hne y (by simp)
    unfold fins
    rw [List.pairwise_cons] at h
    split
    · rename_i hlt
      refine List.pairwise_cons.2 ⟨fun z hz => ?_, List.pairwise_cons.2 h⟩
      rcases List.mem_cons.1 hz with rfl | hz
      · exact hlt
      · have := h.1 z hz; omega
    · rename_i hlt
      refine List.pairwise_cons.2 ⟨fun z hz => ?_, up_fins h.2 fun z hz => hne z (by simp [hz])⟩
      rcases mem_fins.1 hz with rfl | hz
      · omega
      · exact h.1 z hz
theorem up_fput {fs : List (Int × FV)} (h : fs.Pairwise (fun x y => x.1 < y.1)) (k : Int) (f : FV) : (fput fs k f).Pairwise (fun x y => x.1 < y.1) :=
  up_fins (up_fdel h k) fun _ hy => (mem_fdel.1 hy).2

/-! The map in memory. -/
section
variable {w : World} {b n : Nat} {fs : List (Int × FV)}
abbrev OwnsM (w : World) (b n : Nat) (fs : List (Int × FV)) : Prop := w.ownsMap Tryd.prog 3 heldE b n (datum fs)

theorem key_int : Keyed Tryd.prog 3 := int_keyed Tryd.underlying3
theorem key_at {k : Int} (h : (Lit.int .i64 k).wf = true) : keyOf Tryd.prog 3 (.int .i64 k) = some (.int .i64 k) := keyOf_int_mk Tryd.underlying3 h
theorem zero_file (w : World) : (zeroValue 55).run Tryd.prog w = .ok FV.zero.val w := by kernel_rfl
theorem OwnsM.tight (h : OwnsM w b n fs) : OwnsM w b fs.length fs := by
  obtain ⟨es, clock, hb, F, hs, hD⟩ := h
  refine ⟨es, clock, hb, F, ?_, hD⟩
  have h1 := congrArg Maps.size hD
  rw [datum_size] at h1
  simp [Maps.size, length_sorted] at h1
  omega
theorem OwnsM.look (h : OwnsM w b n fs) {k : Int} (hk : (Lit.int .i64 k).wf = true) {f : FV} (hf : (fget fs k).getD FV.zero = f) :
    (Instr.lookup 43 (.map (some b)) (.int .i64 k) false).run Tryd.prog w = .ok (.agg #[f.v, .int .i64 (f.safe : Int)]) w := by
  obtain ⟨v, ps, hrun, hv⟩ := World.ownsMap.lookup h key_int Tryd.underlying43 (zero_file w) (zd := .held FV.zero.val) (zp := []) rfl (key_at hk)
  rw [datum_at, hf] at hv
  simp only [heldE, Option.some.injEq, Prod.mk.injEq, DataW.held.injEq] at hv
  rw [hrun, hv.1]; rfl
theorem OwnsM.lookOk (h : OwnsM w b n fs) {k : Int} (hk : (Lit.int .i64 k).wf = true) {f : FV} (hf : (fget fs k).getD FV.zero = f) {t : Bool} (ht : (fget fs k).isSome = t) :
    (Instr.lookup 43 (.map (some b)) (.int .i64 k) true).run Tryd.prog w = .ok (.tuple #[.agg #[f.v, .int .i64 (f.safe : Int)], .bool t]) w := by
  obtain ⟨v, ps, hrun, hv⟩ := World.ownsMap.look_ok h key_int Tryd.underlying43 (zero_file w) (zd := .held FV.zero.val) (zp := []) rfl (key_at hk)
  rw [datum_at, hf] at hv
  simp only [heldE, Option.some.injEq, Prod.mk.injEq, DataW.held.injEq] at hv
  rw [hrun, hv.1, datum_has, ht]; rfl
theorem lookNil (w : World) {k : Int} (hk : (Lit.int .i64 k).wf = true) :
    (Instr.lookup 43 (.map none) (.int .i64 k) false).run Tryd.prog w = .ok (.agg #[.slice none 0 0, .int .i64 0]) w :=
  Maps.look_nil false key_int Tryd.underlying43 (zero_file w) (key_at hk)
theorem lookNilOk (w : World) {k : Int} (hk : (Lit.int .i64 k).wf = true) :
    (Instr.lookup 43 (.map none) (.int .i64 k) true).run Tryd.prog w = .ok (.tuple #[.agg #[.slice none 0 0, .int .i64 0], .bool false]) w :=
  Maps.look_nil true key_int Tryd.underlying43 (zero_file w) (key_at hk)
theorem OwnsM.store (h : OwnsM w b fs.length fs) (hn : fs.length < 4611686018427387904) {k : Int} (hk : (Lit.int .i64 k).wf = true) (f : FV) :
    ∃ w', (Instr.mapUpdate 43 (.map (some b)) (.int .i64 k) (.agg #[f.v, .int .i64 (f.safe : Int)])).run Tryd.prog w = .ok () w' ∧ OwnsM w' b (fput fs k f).length (fput fs k f) ∧ w.mapTurned w' b := by
  obtain ⟨w', hrun, h1, h2⟩ := World.ownsMap.store h key_int Tryd.underlying43 (by unfold maxLen; omega) (key_at hk) (val := f.val) (d := .held f.val) (ps := []) rfl
  rw [datum_put] at h1
  exact ⟨w', hrun, OwnsM.tight h1, h2⟩
theorem OwnsM.drop (h : OwnsM w b fs.length fs) {k : Int} (hk : (Lit.int .i64 k).wf = true) (ty : TypeId) :
    ∃ w', (Builtin.delete_ #[43, 3] ty #[.map (some b), .int .i64 k]).run Tryd.prog w = .ok (.tuple #[]) w' ∧ OwnsM w' b (fdel fs k).length (fdel fs k) ∧ w.mapTurned w' b := by
  obtain ⟨w', hrun, h1, h2⟩ := World.ownsMap.drop h key_int Tryd.underlying43 (key_at hk) ty
  rw [datum_del] at h1
  exact ⟨w', hrun, OwnsM.tight h1, h2⟩
end
end Go.Proofs.YtopogffoiofgbaaDoor
