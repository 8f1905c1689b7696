/-
  Files as they are told: names, bytes, how many are safe; what a store, a rename and a restart make of them.
-/
import Derived.Test.YtopogffoiofgbaaDoorDiskPut
namespace Go.Proofs.YtopogffoiofgbaaDoor
open Go Go.RowKit Go.Maps
set_option linter.unusedVariables false

/-- A file without where it lies. -/
def pv (p : Int × FV) : Int × List Nat × Nat := (p.1, p.2.zs, p.2.safe)
def plain (fs : List (Int × FV)) : List (Int × List Nat × Nat) := fs.map pv

/-- What a restart leaves of a file. -/
def rst (keep : Int) (p : Int × List Nat × Nat) : Int × List Nat × Nat :=
  (p.1, p.2.1.take (p.2.2 + (keep % ((p.2.1.length - p.2.2 : Nat) + 1 : Int)).toNat), p.2.2 + (keep % ((p.2.1.length - p.2.2 : Nat) + 1 : Int)).toNat)

theorem fget_mem {fs : List (Int × FV)} (hu : fs.Pairwise (fun x y => x.1 < y.1)) {k : Int} {f : FV} (hm : (k, f) ∈ fs) : fget fs k = some f := by
  induction fs with
  | nil => simp at hm
  | cons y r ih =>
    rw [List.pairwise_cons] at hu
    rcases List.mem_cons.1 hm with h | h
    · subst h; simp [fget]
    · have := hu.1 _ h
      have hne : (y.1 == k) = false := by simp; omega
      have := ih hu.2 h
      simp only [fget, List.find?_cons, hne] at this ⊢
      exact this
theorem fdel_none {k : Int} : ∀ {fs : List (Int × FV)}, (∀ y ∈ fs, y.1 ≠ k) → fdel fs k = fs
  | [], _ => rfl
  | y :: r, h => by
    have hy : (y.1 == k) = false := by simpa using h y (by simp)
    have h2 := fdel_none (k := k) (fs := r) fun z hz => h z (by simp [hz])
    simp only [fdel] at h2
    simp [fdel, hy]
    simpa using h2
/-- A store at a name that is there. -/
theorem fput_there {k : Int} {f : FV} : ∀ {fs : List (Int × FV)}, fs.Pairwise (fun x y => x.1 < y.1) → (∃ f0, (k, f0) ∈ fs) → fput fs k f = fs.map (fun p => if p.1 = k then (k, f) else p)
  | [], _, ⟨_, h⟩ => by simp at h
  | y :: r, hu, ⟨f0, h⟩ => by
    rw [List.pairwise_cons] at hu
    by_cases hy : y.1 = k
    · have hr : ∀ z ∈ r, z.1 ≠ k := fun z hz => by have := hu.1 z hz; omega
      have hd : fdel (y :: r) k = r := by
        have h2 := fdel_none hr
        simp only [fdel] at h2 ⊢
        rw [List.filter_cons, if_neg (by simp [hy])]
        exact h2
      have hm : r.map (fun p => if p.1 = k then (k, f) else p) = r := by
        conv => rhs; rw [← List.map_id r]
        exact List.map_congr_left fun z hz => by rw [if_neg (hr z hz)]; rfl
      rw [fput, hd, List.map_cons, if_pos hy, hm]
      cases r with
      | nil => rfl
      | cons z t => have := hu.1 z (by simp); unfold fins; rw [if_pos (by simp only; omega)]
    · have hin : (k, f0) ∈ r := by
        rcases List.mem_cons.1 h with h | h
        · exact absurd (by rw [← h]) hy
        · exact h
      have hlt := hu.1 _ hin
      have ih := fput_there (f := f) hu.2 ⟨f0, hin⟩
      have hd : fdel (y :: r) k = y :: fdel r k := by simp [fdel, hy]
      rw [fput, hd, fins, if_neg (by simp only at hlt ⊢; omega), List.map_cons, if_neg hy, ← ih]
      rfl
theorem plain_put {fs : List (Int × FV)} (hu : fs.Pairwise (fun x y => x.1 < y.1)) {k : Int} {f f0 : FV} (h : (k, f0) ∈ fs) : plain (fput fs k f) = (plain fs).map (fun p => if p.1 = k then (k, f.zs, f.safe) else p) := by
  rw [fput_there hu ⟨f0, h⟩, plain, plain, List.map_map, List.map_map]
  refine List.map_congr_left fun p hp => ?_
  simp only [Function.comp_apply, pv]
  by_cases hpk : p.1 = k <;> simp [hpk]
theorem plain_keys (fs : List (Int × FV)) : (plain fs).map (·.1) = fs.map (·.1) := by simp [plain, pv, Function.comp_def]
theorem plain_len (fs : List (Int × FV)) : (plain fs).length = fs.length := by simp [plain]
theorem plain_mem {fs : List (Int × FV)} {k : Int} {zs : List Nat} {s : Nat} (h : (k, zs, s) ∈ plain fs) : ∃ v, (k, (⟨v, zs, s⟩ : FV)) ∈ fs := by
  obtain ⟨⟨k', v, zs', s'⟩, hp, he⟩ := List.mem_map.1 h
  simp only [pv, Prod.mk.injEq] at he
  obtain ⟨rfl, rfl, rfl⟩ := he
  exact ⟨v, hp⟩
theorem mem_plain {fs : List (Int × FV)} {k : Int} {f : FV} (h : (k, f) ∈ fs) : (k, f.zs, f.safe) ∈ plain fs := List.mem_map.2 ⟨_, h, rfl⟩
theorem total_plain (fs : List (Int × FV)) : total fs = ((plain fs).map fun p => p.2.1.length).sum := by simp [total, plain, pv, Function.comp_def]

/-- Part of the files are restarted: those whose names are in ks. -/
def partly (keep : Int) (ks : List Int) (ps : List (Int × List Nat × Nat)) : List (Int × List Nat × Nat) := ps.map fun p => if p.1 ∈ ks then rst keep p else p
theorem partly_nil (keep : Int) (ps : List (Int × List Nat × Nat)) : partly keep [] ps = ps := by simp [partly]
theorem partly_all (keep : Int) (ps : List (Int × List Nat × Nat)) : partly keep (ps.map (·.1)) ps = ps.map (rst keep) :=
  List.map_congr_left fun p hp => if_pos (List.mem_map.2 ⟨p, hp, rfl⟩)
theorem partly_keys (keep : Int) (ks : List Int) (ps : List (Int × List Nat × Nat)) : (partly keep ks ps).map (·.1) = ps.map (·.1) := by
  rw [partly, List.map_map]
  refine List.map_congr_left fun p _ => ?_
  simp only [Function.comp_apply]
  split <;> rfl
theorem partly_step {keep k : Int} {ks : List Int} {ps : List (Int × List Nat × Nat)} {q : Int × List Nat × Nat} (hu : ps.Pairwise (fun x y => x.1 < y.1)) (hq : q ∈ ps) (hk : q.1 = k) (hn : k ∉ ks) :
    (partly keep ks ps).map (fun p => if p.1 = k then rst keep q else p) = partly keep (ks ++ [k]) ps := by
  rw [partly, partly, List.map_map]
  refine List.map_congr_left fun p hp => ?_
  simp only [Function.comp_apply, List.mem_append, List.mem_singleton]
  by_cases hpk : p.1 = k
  · have hpq : p = q := by
      by_cases he : p = q
      · exact he
      · exfalso
        obtain ⟨i, hi, rfl⟩ := List.getElem_of_mem hp
        obtain ⟨j, hj, rfl⟩ := List.getElem_of_mem hq
        rcases Nat.lt_trichotomy i j with h | h | h
        · have := List.pairwise_iff_getElem.1 hu i j hi hj h; omega
        · subst h; exact he rfl
        · have := List.pairwise_iff_getElem.1 hu j i hj hi h; omega
    subst hpq
    have e : (if p.1 ∈ ks then rst keep p else p) = p := if_neg (by rw [hpk]; exact hn)
    rw [e, if_pos hpk, if_pos (.inr hpk)]
  · have e : (if p.1 ∈ ks then rst keep p else p).1 = p.1 := by split <;> rfl
    rw [e, if_neg hpk]
    simp [hpk]
theorem partly_mem {keep : Int} {ks : List Int} {ps : List (Int × List Nat × Nat)} {q : Int × List Nat × Nat} (hq : q ∈ ps) (hn : q.1 ∉ ks) : q ∈ partly keep ks ps :=
  List.mem_map.2 ⟨q, hq, by rw [if_neg hn]⟩
end Go.Proofs.YtopogffoiofgbaaDoor
