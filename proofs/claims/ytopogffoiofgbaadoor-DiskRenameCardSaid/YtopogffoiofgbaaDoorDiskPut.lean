/-
  What a store into the map, and a delete, make of a disk.
-/
import Derived.Test.YtopogffoiofgbaaDoorDiskUsed
import Derived.Test.YtopogffoiofgbaaDoorAppendAt
namespace Go.Proofs.YtopogffoiofgbaaDoor
open Go Go.RowKit Go.Maps
set_option linter.unusedVariables false
section
variable {S S' : Nat → Prop} {w w' : World} {base sb b : Nat} {mv : Option Nat} {room left : Int} {fs : List (Int × FV)} {armed stopped : Bool} {k : Int} {f : FV}

theorem DiskAt.put (h : DiskAt w S base sb (some b) room fs armed left stopped) (hS : ∀ i, S i → S' i) (hlow : ∀ i, S' i → base ≤ i ∧ i < w'.heap.size)
    (hsb : w'.heap[sb]? = w.heap[sb]?) (hm : OwnsM w' b (fput fs k f).length (fput fs k f)) (hSb : S' b)
    (hkeep : ∀ p ∈ fs, p.1 ≠ k → ∀ g, p.2.v.ownBlock = some g → w'.heap[g]? = w.heap[g]?)
    (hf : FileOk w' S' base f) (hap : ∀ p ∈ fs, p.1 ≠ k → Apart p.2 f) : DiskAt w' S' base sb (some b) room (fput fs k f) armed left stopped where
  blk := hsb.trans h.blk
  map := .inr ⟨b, rfl, hm, hSb⟩
  up := up_fput h.up k f
  file := fun p hp => by
    rcases mem_fput hp with rfl | ⟨hp, hne⟩
    · exact hf
    · exact ((h.file p hp).same (hkeep p hp hne)).wide hS
  apart := fun p hp q hq hne => by
    rcases mem_fput hp with rfl | ⟨hp, hpk⟩
    · rcases mem_fput hq with rfl | ⟨hq, hqk⟩
      · exact absurd rfl hne
      · exact (hap q hq hqk).symm
    · rcases mem_fput hq with rfl | ⟨hq, hqk⟩
      · exact hap p hp hpk
      · exact h.apart p hp q hq hne
  inS := hS sb h.inS
  low := hlow

/-- The files when one is no more. -/
theorem DiskAt.dropped (h : DiskAt w S base sb (some b) room fs armed left stopped) (hm : OwnsM w' b (fdel fs k).length (fdel fs k)) (hb : S b) (ht : w.mapTurned w' b) : DiskAt w' S base sb (some b) room (fdel fs k) armed left stopped := by
  have hg := ht.grown
  obtain ⟨b', e, ho, _⟩ : ∃ b', some b = some b' ∧ OwnsM w b' fs.length fs ∧ S b' := by
    rcases h.map with ⟨h0, _⟩ | h0
    · cases h0
    · exact h0
  injection e with e
  subst e
  exact {
    blk := (hg.block sb h.lt (fun he => h.map_ne ⟨_, ho⟩ (by injection he with he; exact he.symm))).trans h.blk
    map := .inr ⟨b, rfl, hm, hb⟩
    up := up_fdel h.up k
    file := fun p hp => (h.file p (mem_fdel.1 hp).1).same fun g he => hg.block g ((h.low g ((h.file p (mem_fdel.1 hp).1).inS g he)).2) (fun e => (h.file p (mem_fdel.1 hp).1).ne_map ho (by rw [he]; exact e))
    apart := fun p hp q hq hne => h.apart p (mem_fdel.1 hp).1 q (mem_fdel.1 hq).1 hne
    inS := h.inS
    low := fun i hi => ⟨(h.low i hi).1, Nat.lt_of_lt_of_le (h.low i hi).2 hg.size⟩ }

/-- A store of a file whose bytes lie in its own old row, or in a new one (wA: the world ahead of what was done to that row). -/
theorem DiskAt.stored {wA w1 : World} (h : DiskAt wA S base sb (some b) room fs armed left stopped) (ho : OwnsM w1 b fs.length fs)
    (hg : wA.grownBy w1 ((fget fs k).getD FV.zero).v.ownBlock)
    (hf : Own 5 .u8 w1 base f.v f.zs.length (ints f.zs)) (hs : f.safe ≤ f.zs.length) (hlt : ∀ x ∈ f.zs, x < 256)
    (hloc : f.v.ownBlock = ((fget fs k).getD FV.zero).v.ownBlock ∨ ∀ g, f.v.ownBlock = some g → wA.heap.size ≤ g)
    (hm : OwnsM w' b (fput fs k f).length (fput fs k f)) (hSb : S b) (ht : w1.mapTurned w' b) (hbase : base ≤ wA.heap.size) :
    ∃ S', DiskAt w' S' base sb (some b) room (fput fs k f) armed left stopped ∧ Fr S wA w' ∧ Wider S S' wA := by
  have hold := h.found k
  have hg2 := ht.grown
  have hz1 := hg.size
  have hz2 := hg2.size
  have hoA : OwnsM wA b fs.length fs := by
    rcases h.map with ⟨h0, _⟩ | ⟨b', e, ho', _⟩
    · cases h0
    · injection e with e; subst e; exact ho'
  have hfb : f.v.ownBlock ≠ some b := (FileOk.mk (S := fun _ => True) hf hs hlt (fun _ _ => trivial)).ne_map ho
  have hfl : ∀ g, f.v.ownBlock = some g → base ≤ g ∧ g < w1.heap.size := fun g hg' => World.ownsRow.lt hf g hg'
  have hsb1 : w1.heap[sb]? = wA.heap[sb]? := hg.block sb h.lt (fun e => hold.ne_sb h e.symm)
  refine ⟨fun i => S i ∨ f.v.ownBlock = some i, ?_, ?_, ?_⟩
  · refine h.put (fun i hi => .inl hi) (fun i hi => ?_) ?_ hm (.inl hSb) (fun p hp hne g he => ?_) ?_ (fun p hp hne => ?_)
    · rcases hi with hi | hi
      · have := h.low i hi; omega
      · have := hfl i hi; omega
    · rw [hg2.block sb (Nat.lt_of_lt_of_le h.lt hz1) (fun e => h.map_ne ⟨_, hoA⟩ (by injection e with e; exact e.symm)), hsb1]
    · have hp' := h.file p hp
      have hgl := (h.low g (hp'.inS g he)).2
      rw [hg2.block g (by omega) (fun e => hp'.ne_map hoA (by rw [he]; exact e)), hg.block g hgl (fun e => ?_)]
      cases hfk : fget fs k with
      | none => rw [hfk] at e; cases e
      | some f0 =>
        rw [hfk] at e
        exact h.apart p hp _ (mem_fget hfk) hne g he e.symm
    · refine ⟨hf.same fun g hg' => hg2.block g (hfl g hg').2 (fun e => hfb (by rw [hg']; exact e)), hs, hlt, fun g hg' => .inr hg'⟩
    · intro g hpg hfg
      have hgl := (h.low g ((h.file p hp).inS g hpg)).2
      rcases hloc with hloc | hloc
      · rw [hloc] at hfg
        cases hfk : fget fs k with
        | none => rw [hfk] at hfg; cases hfg
        | some f0 =>
          rw [hfk] at hfg
          exact h.apart p hp _ (mem_fget hfk) hne g hpg hfg
      · have := hloc g hfg; omega
  · refine (Fr.of_grown hg fun g he => hold.inS g he).trans (S' := S) (Fr.of_turned ht hSb) (Wider.refl _ _)
  · intro i hi
    rcases hi with hi | hi
    · exact .inl hi
    · rcases hloc with hloc | hloc
      · rw [hloc] at hi; exact .inl (hold.inS i hi)
      · exact .inr (hloc i hi)
end
end Go.Proofs.YtopogffoiofgbaaDoor
