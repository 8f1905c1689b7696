/-
  What a disk is in memory: the struct's block, the map's, the files' rows; what keeps it so.
-/
import Derived.Test.YtopogffoiofgbaaDoorDiskMap
import Derived.Test.YtopogffoiofgbaaDoorBytes
namespace Go.Proofs.YtopogffoiofgbaaDoor
open Go Go.RowKit Go.Maps

/-- A file's bytes are in a row of the disk's own, and no more are safe than there are. -/
structure FileOk (w : World) (S : Nat → Prop) (base : Nat) (f : FV) : Prop where
  own : Own 5 .u8 w base f.v f.zs.length (ints f.zs)
  safe : f.safe ≤ f.zs.length
  lt : ∀ x ∈ f.zs, x < 256
  inS : ∀ g, f.v.ownBlock = some g → S g

/-- No two files lie in one row. -/
def Apart (x y : FV) : Prop := ∀ g, x.v.ownBlock = some g → y.v.ownBlock ≠ some g
theorem Apart.symm {x y : FV} (h : Apart x y) : Apart y x := fun g hy hx => h g hx hy

/-- The struct at block sb is a disk: its room, its files (a map, or nil), whether it is armed, with how many, and whether it has stopped; all of it lies in the blocks S, from base on. -/
structure DiskAt (w : World) (S : Nat → Prop) (base sb : Nat) (mv : Option Nat) (room : Int) (fs : List (Int × FV)) (armed : Bool) (left : Int) (stopped : Bool) : Prop where
  blk : w.heap[sb]? = some (.cells #[.int .i64 room, .map mv, .bool armed, .int .i64 left, .bool stopped] 45 (0, 0))
  map : (mv = none ∧ fs = []) ∨ ∃ b, mv = some b ∧ OwnsM w b fs.length fs ∧ S b
  up : fs.Pairwise (fun x y => x.1 < y.1)
  file : ∀ p ∈ fs, FileOk w S base p.2
  apart : ∀ p ∈ fs, ∀ q ∈ fs, p.1 ≠ q.1 → Apart p.2 q.2
  inS : S sb
  low : ∀ i, S i → base ≤ i ∧ i < w.heap.size

/-- What lies outside S is as it was. -/
structure Fr (S : Nat → Prop) (w w' : World) : Prop where
  os : w'.os = w.os
  tape : w'.tape = w.tape
  output : w'.output = w.output
  size : w.heap.size ≤ w'.heap.size
  block : ∀ k, k < w.heap.size → ¬ S k → w'.heap[k]? = w.heap[k]?

/-- What S has become: its blocks are old ones, or new. -/
def Wider (S S' : Nat → Prop) (w : World) : Prop := ∀ i, S' i → S i ∨ w.heap.size ≤ i

section
variable {S S' S'' : Nat → Prop} {w w' w'' : World} {base sb : Nat} {mv : Option Nat} {room left : Int} {fs : List (Int × FV)} {armed stopped : Bool} {f : FV}

theorem Fr.refl (S : Nat → Prop) (w : World) : Fr S w w := ⟨rfl, rfl, rfl, Nat.le_refl _, fun _ _ _ => rfl⟩
theorem Fr.trans (h : Fr S w w') (k : Fr S' w' w'') (hS : Wider S S' w) : Fr S w w'' :=
  ⟨k.os.trans h.os, k.tape.trans h.tape, k.output.trans h.output, Nat.le_trans h.size k.size, fun i hi hn => by
    rw [k.block i (Nat.lt_of_lt_of_le hi h.size) (fun hs => (hS i hs).elim hn (fun h' => by omega)), h.block i hi hn]⟩
theorem Fr.of_below (h : Below w.heap.size w w') : Fr S w w' := ⟨h.os, h.tape, h.output, h.size, fun i hi _ => h.block i hi⟩
theorem Fr.below (h : Fr S w w') (hS : ∀ i, S i → base ≤ i) (hB : base ≤ w.heap.size) : Below base w w' :=
  ⟨h.os, h.tape, h.output, h.size, fun i hi => h.block i (by omega) (fun hs => by have := hS i hs; omega)⟩
theorem Fr.of_grown {row : Option Nat} (h : w.grownBy w' row) (hr : ∀ g, row = some g → S g) : Fr S w w' :=
  ⟨h.os, h.tape, h.output, h.size, fun i hi hn => h.block i hi (fun he => hn (hr i he.symm))⟩
theorem Fr.of_turned {b : Nat} (h : w.mapTurned w' b) (hb : S b) : Fr S w w' := Fr.of_grown h.grown (fun g he => by injection he with he; subst he; exact hb)
theorem Fr.drew (w : World) : Fr S w w.drew := ⟨rfl, rfl, rfl, Nat.le_refl _, fun _ _ _ => rfl⟩
theorem Wider.refl (S : Nat → Prop) (w : World) : Wider S S w := fun _ h => .inl h
theorem Wider.trans (h : Wider S S' w) (k : Wider S' S'' w') (hs : w.heap.size ≤ w'.heap.size) : Wider S S'' w := fun i hi =>
  (k i hi).elim (fun h' => h i h') (fun h' => .inr (by omega))
/-- A slice of one's own that is none of the disk's is as it was. -/
theorem Own.fr {e : TypeId} {k : IntKind} {b n : Nat} {v : Value} {zs : List Int} (h : Own e k w b v n zs) (hf : Fr S w w') (hn : ∀ g, v.ownBlock = some g → ¬ S g) : Own e k w' b v n zs := by
  refine ⟨h.1, ?_⟩
  rcases h.2 with h | ⟨g, cap, cur, hv, hg, hh, r⟩
  · exact .inl h
  · exact .inr ⟨g, cap, cur, hv, hg, by rw [hf.block g (Array.getElem?_eq_some_iff.1 hh).1 (hn g (by rw [hv]; rfl))]; exact hh, r⟩

theorem Own.same {e : TypeId} {k : IntKind} {b n : Nat} {v : Value} {zs : List Int} (h : Own e k w b v n zs) (hn : ∀ g, v.ownBlock = some g → w'.heap[g]? = w.heap[g]?) : Own e k w' b v n zs := by
  refine ⟨h.1, ?_⟩
  rcases h.2 with h | ⟨g, cap, cur, hv, hg, hh, r⟩
  · exact .inl h
  · exact .inr ⟨g, cap, cur, hv, hg, by rw [hn g (by rw [hv]; rfl)]; exact hh, r⟩
theorem OwnsM.same {b n : Nat} (h : OwnsM w b n fs) (hb : w'.heap[b]? = w.heap[b]?) : OwnsM w' b n fs := by
  obtain ⟨es, clock, hh, r⟩ := h
  exact ⟨es, clock, hb.trans hh, r⟩
theorem FileOk.same (h : FileOk w S base f) (hn : ∀ g, f.v.ownBlock = some g → w'.heap[g]? = w.heap[g]?) : FileOk w' S base f := ⟨h.own.same hn, h.safe, h.lt, h.inS⟩
theorem FileOk.wide (h : FileOk w S base f) (hS : ∀ i, S i → S' i) : FileOk w S' base f := ⟨h.own, h.safe, h.lt, fun g hg => hS g (h.inS g hg)⟩

/-- What turns none of its blocks keeps the disk. -/
theorem DiskAt.kept (h : DiskAt w S base sb mv room fs armed left stopped) (hk : ∀ i, S i → w'.heap[i]? = w.heap[i]?) (hs : w.heap.size ≤ w'.heap.size) : DiskAt w' S base sb mv room fs armed left stopped :=
  ⟨(hk sb h.inS).trans h.blk, h.map.imp id (fun ⟨b, e, ho, hb⟩ => ⟨b, e, OwnsM.same ho (hk b hb), hb⟩), h.up,
    fun p hp => (h.file p hp).same fun g hg => hk g ((h.file p hp).inS g hg), h.apart, h.inS, fun i hi => ⟨(h.low i hi).1, Nat.lt_of_lt_of_le (h.low i hi).2 hs⟩⟩
theorem DiskAt.below (h : DiskAt w S base sb mv room fs armed left stopped) (hb : Below w.heap.size w w') : DiskAt w' S base sb mv room fs armed left stopped :=
  h.kept (fun i hi => hb.block i (h.low i hi).2) hb.size
theorem DiskAt.alloc (h : DiskAt w S base sb mv room fs armed left stopped) (o : Obj) : DiskAt (w.alloc o) S base sb mv room fs armed left stopped := h.below ((Below.refl _ _).alloc (Nat.le_refl _) _)
theorem DiskAt.drew (h : DiskAt w S base sb mv room fs armed left stopped) : DiskAt w.drew S base sb mv room fs armed left stopped := h.below (Below.refl _ _).drew

theorem DiskAt.lt (h : DiskAt w S base sb mv room fs armed left stopped) : sb < w.heap.size := (h.low sb h.inS).2
/-- The struct's cells. -/
theorem DiskAt.c0 (h : DiskAt w S base sb mv room fs armed left stopped) : w.cell? ⟨sb, 0, none⟩ = some (.int .i64 room) := by simp [World.cell?, h.blk]
theorem DiskAt.c1 (h : DiskAt w S base sb mv room fs armed left stopped) : w.cell? ⟨sb, 1, none⟩ = some (.map mv) := by simp [World.cell?, h.blk]
theorem DiskAt.c2 (h : DiskAt w S base sb mv room fs armed left stopped) : w.cell? ⟨sb, 2, none⟩ = some (.bool armed) := by simp [World.cell?, h.blk]
theorem DiskAt.c3 (h : DiskAt w S base sb mv room fs armed left stopped) : w.cell? ⟨sb, 3, none⟩ = some (.int .i64 left) := by simp [World.cell?, h.blk]
theorem DiskAt.c4 (h : DiskAt w S base sb mv room fs armed left stopped) : w.cell? ⟨sb, 4, none⟩ = some (.bool stopped) := by simp [World.cell?, h.blk]
theorem DiskAt.fz (h : DiskAt w S base sb mv room fs armed left stopped) (j : Nat) : w.frozen? ⟨sb, j, none⟩ = false := by simp [World.frozen?, h.blk]

/-- The file at a name, or the zero one: it reads. -/
theorem DiskAt.found (h : DiskAt w S base sb mv room fs armed left stopped) (k : Int) : FileOk w S base ((fget fs k).getD FV.zero) := by
  cases hf : fget fs k with
  | none => exact ⟨Own.nil, Nat.zero_le _, fun _ h => by simp [FV.zero] at h, fun g hg => by simp [FV.zero, Value.ownBlock] at hg⟩
  | some f => exact h.file _ (mem_fget hf)
/-- The row of a file is neither the struct's block nor the map's. -/
theorem FileOk.ne_sb (h : FileOk w S base f) (hd : DiskAt w S base sb mv room fs armed left stopped) : f.v.ownBlock ≠ some sb := fun he => by
  rcases h.own.2 with ⟨hn, _⟩ | ⟨g, cap, cur, hv, hg, hh, r⟩
  · rw [hn] at he; cases he
  · rw [hv] at he
    simp only [Value.ownBlock, Option.some.injEq] at he
    subst he
    rw [hd.blk] at hh
    simp at hh
theorem FileOk.ne_map {b n : Nat} (h : FileOk w S base f) (hd : OwnsM w b n fs) : f.v.ownBlock ≠ some b := fun he => by
  obtain ⟨es, clock, hb, _⟩ := hd
  rcases h.own.2 with ⟨hn, _⟩ | ⟨g, cap, cur, hv, hg, hh, r⟩
  · rw [hn] at he; cases he
  · rw [hv] at he
    simp only [Value.ownBlock, Option.some.injEq] at he
    subst he
    rw [hb] at hh
    cases hh
theorem DiskAt.map_ne {b : Nat} (hd : DiskAt w S base sb mv room fs armed left stopped) (hb : ∃ n, OwnsM w b n fs) : b ≠ sb := fun he => by
  obtain ⟨n, es, clock, hb, _⟩ := hb
  subst he
  rw [hd.blk] at hb
  cases hb
end
end Go.Proofs.YtopogffoiofgbaaDoor
