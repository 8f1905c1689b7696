/-
  A disk's files as a rising list of names with what each file has; the map in memory reads as that list: what a look-up, a store and a delete make of it.
  What a disk is in memory: the struct's block, the map's, the files' rows; what keeps it so.
  disk.Of, change, modulo, cut and find by their contracts.
  find and Read by their contracts.
  Used by its contract: the files are met one by one, in whatever order.
  What a store into the map, and a delete, make of a disk.
  lay and Append by their contracts.
  lay on a disk without files.
  Append by its contract, on a disk that is neither armed nor stopped.
  Sync by its contract, on a disk that is neither armed nor stopped.
-/
import Derived.Test.YtlakkhhibdcjaaaGreatDoorLow
import Derived.Maps.OwnOps
import Derived.Maps.OwnSet
import Derived.Maps.RangeWalk
import Derived.Lib.SlKeysI
import Derived.WalkSpells
import Derived.IntWalk
import Derived.Laws.ResultCell
import Derived.Laws.IdiomRangeMap
import Derived.LoopN
import Derived.LoopTactic
import Derived.Lib.Hide
import Derived.Deep.RegionLaw
import Derived.RegionTactic
namespace Go.Proofs.YtlakkhhibdcjaaaGreatDoor
open Go Go.RowKit Go.Maps

/-- What a file has: the slice of its bytes, its bytes, how many are safe. -/
structure FV where
  v : Value
  zs : List Nat
  safe : Nat
/-- The file's value in the map. -/
def FV.val (f : FV) : Value := .agg #[f.v, .int .i64 (f.safe : Int)]
/-- What a look-up hands back where there is no file. -/
def FV.zero : FV := ⟨.slice none 0 0, [], 0⟩

def ent (p : Int × FV) : Lit × DataW Value := (.int .i64 p.1, .held p.2.val)
/-- The map's reading. -/
def datum (fs : List (Int × FV)) : DataW Value := .map (fs.map ent)
def heldE (v : Value) : Option (DataW Value × List MemPlace) := some (.held v, [])

def fget (fs : List (Int × FV)) (k : Int) : Option FV := (fs.find? (fun p => p.1 == k)).map (·.2)
def fins (x : Int × FV) : List (Int × FV) → List (Int × FV)
  | [] => [x]
  | y :: r => if x.1 < y.1 then x :: y :: r else y :: fins x r
def fdel (fs : List (Int × FV)) (k : Int) : List (Int × FV) := fs.filter fun p => !(p.1 == k)
def fput (fs : List (Int × FV)) (k : Int) (f : FV) : List (Int × FV) := fins (k, f) (fdel fs k)

theorem same_int (a b : Int) : (Lit.int .i64 a).sameKey (.int .i64 b) = (a == b) := by
  by_cases h : a = b <;> simp [Lit.sameKey, h]

theorem find_ent (k : Int) : ∀ fs : List (Int × FV), (fs.map ent).find? (fun p => p.1.sameKey (.int .i64 k)) = (fs.find? (fun p => p.1 == k)).map ent
  | [] => rfl
  | x :: r => by
    rw [List.map_cons, List.find?_cons, List.find?_cons]
    simp only [ent, same_int]
    cases h : (x.1 == k)
    · simpa [ent] using find_ent k r
    · rfl
theorem datum_at (fs : List (Int × FV)) (k : Int) : (datum fs).atKey (.int .i64 k) (.held FV.zero.val) = .held ((fget fs k).getD FV.zero).val := by
  simp only [datum, DataW.atKey, find_ent, fget]
  cases fs.find? (fun p => p.1 == k) <;> rfl
theorem any_ent (k : Int) : ∀ fs : List (Int × FV), (fs.map ent).any (fun p => p.1.sameKey (.int .i64 k)) = (fget fs k).isSome
  | [] => rfl
  | x :: r => by
    rw [List.map_cons, List.any_cons, any_ent k r]
    simp only [ent, same_int, fget, List.find?_cons]
    cases h : (x.1 == k) <;> simp
theorem datum_has (fs : List (Int × FV)) (k : Int) : Maps.has (datum fs) (.int .i64 k) = (fget fs k).isSome := by
  rw [datum, Maps.has_eq, any_ent]
theorem filter_ent (k : Int) : ∀ fs : List (Int × FV), (fs.map ent).filter (fun p => !p.1.sameKey (.int .i64 k)) = (fdel fs k).map ent
  | [] => rfl
  | x :: r => by
    rw [List.map_cons, List.filter_cons, fdel, List.filter_cons, filter_ent k r]
    simp only [ent, same_int]
    cases h : (x.1 == k) <;> simp [fdel, ent]
theorem ins_ent (x : Int × FV) : ∀ fs : List (Int × FV), DataW.insert (ent x) (fs.map ent) = (fins x fs).map ent
  | [] => rfl
  | y :: r => by
    rw [List.map_cons, DataW.insert, fins, ins_ent x r]
    simp only [ent, Lit.before]
    by_cases h : x.1 < y.1 <;> simp [h, ent]
theorem datum_put (fs : List (Int × FV)) (k : Int) (f : FV) : (datum fs).put (.int .i64 k) (.held f.val) = datum (fput fs k f) := by
  simp only [datum, DataW.put, filter_ent, fput]
  exact congrArg DataW.map (ins_ent (k, f) _)
theorem datum_del (fs : List (Int × FV)) (k : Int) : (datum fs).del (.int .i64 k) = datum (fdel fs k) := by
  simp only [datum, DataW.del, filter_ent]
theorem datum_size (fs : List (Int × FV)) : Maps.size (datum fs) = fs.length := by simp [datum, Maps.size_eq]
theorem datum_keys (fs : List (Int × FV)) : intKeys (datum fs) = fs.map (·.1) := by
  simp only [datum, intKeys, List.map_map]
  exact List.map_congr_left fun _ _ => rfl

/-! What stands in the list. -/
theorem mem_fins {x y : Int × FV} : ∀ {fs : List (Int × FV)}, y ∈ fins x fs ↔ y = x ∨ y ∈ fs
  | [] => by simp [fins]
  | z :: r => by
    unfold fins
    split
    · simp
    · rw [List.mem_cons, mem_fins, List.mem_cons]
      constructor
      · rintro (h | h | h) <;> simp [h]
      · rintro (h | h | h) <;> simp [h]
theorem mem_fdel {y : Int × FV} {fs : List (Int × FV)} {k : Int} : y ∈ fdel fs k ↔ y ∈ fs ∧ y.1 ≠ k := by simp [fdel]
theorem mem_fput {y : Int × FV} {fs : List (Int × FV)} {k : Int} {f : FV} (h : y ∈ fput fs k f) : y = (k, f) ∨ (y ∈ fs ∧ y.1 ≠ k) := by
  rcases mem_fins.1 h with h | h
  · exact .inl h
  · exact .inr (mem_fdel.1 h)
theorem mem_fget {fs : List (Int × FV)} {k : Int} {f : FV} (h : fget fs k = some f) : (k, f) ∈ fs := by
  unfold fget at h
  cases hf : fs.find? (fun p => p.1 == k) with
  | none => simp [hf] at h
  | some p =>
    have h1 := List.find?_some hf
    have h2 := List.mem_of_find?_eq_some hf
    obtain ⟨a, b⟩ := p
    simp [hf] at h h1
    subst h h1
    exact h2
theorem length_fins (x : Int × FV) : ∀ fs : List (Int × FV), (fins x fs).length = fs.length + 1
  | [] => rfl
  | y :: r => by
    unfold fins
    split
    · rfl
    · simp [length_fins x r]
theorem length_fput (fs : List (Int × FV)) (k : Int) (f : FV) : (fput fs k f).length ≤ fs.length + 1 := by
  rw [fput, length_fins]
  have := List.length_filter_le (fun p : Int × FV => !(p.1 == k)) fs
  simp only [fdel]; omega
theorem up_fdel {fs : List (Int × FV)} (h : fs.Pairwise (fun x y => x.1 < y.1)) (k : Int) : (fdel fs k).Pairwise (fun x y => x.1 < y.1) := h.filter _
theorem up_fins {x : Int × FV} : ∀ {fs : List (Int × FV)}, fs.Pairwise (fun x y => x.1 < y.1) → (∀ y ∈ fs, y.1 ≠ x.1) → (fins x fs).Pairwise (fun x y => x.1 < y.1)
  | [], _, _ => by simp [fins]
  | y :: r, h, hne => by
    have hy : y.1 ≠ x.1 := hne y (by simp)
    unfold fins
    rw [List.pairwise_cons] at h
    split
    · rename_i hlt
      refine List.pairwise_cons.2 ⟨fun z hz => ?_, List.pairwise_cons.2 h⟩
      rcases List.mem_cons.1 hz with rfl | hz
      · exact hlt
      · have := h.1 z hz; omega
    · rename_i hlt
      refine List.pairwise_cons.2 ⟨fun z hz => ?_, up_fins h.2 fun z hz => hne z (by simp [hz])⟩
      rcases mem_fins.1 hz with rfl | hz
      · omega
      · exact h.1 z hz
theorem up_fput {fs : List (Int × FV)} (h : fs.Pairwise (fun x y => x.1 < y.1)) (k : Int) (f : FV) : (fput fs k f).Pairwise (fun x y => x.1 < y.1) :=
  up_fins (up_fdel h k) fun _ hy => (mem_fdel.1 hy).2

/-! The map in memory. -/
section
variable {w : World} {b n : Nat} {fs : List (Int × FV)}
abbrev OwnsM (w : World) (b n : Nat) (fs : List (Int × FV)) : Prop := w.ownsMap Tryz.prog 3 heldE b n (datum fs)

theorem key_int : Keyed Tryz.prog 3 := int_keyed Tryz.underlying3
theorem key_at {k : Int} (h : (Lit.int .i64 k).wf = true) : keyOf Tryz.prog 3 (.int .i64 k) = some (.int .i64 k) := keyOf_int_mk Tryz.underlying3 h
theorem zero_file (w : World) : (zeroValue 79).run Tryz.prog w = .ok FV.zero.val w := by kernel_rfl
theorem OwnsM.tight (h : OwnsM w b n fs) : OwnsM w b fs.length fs := by
  obtain ⟨es, clock, hb, F, hs, hD⟩ := h
  refine ⟨es, clock, hb, F, ?_, hD⟩
  have h1 := congrArg Maps.size hD
  rw [datum_size] at h1
  simp [Maps.size, length_sorted] at h1
  omega
theorem OwnsM.look (h : OwnsM w b n fs) {k : Int} (hk : (Lit.int .i64 k).wf = true) {f : FV} (hf : (fget fs k).getD FV.zero = f) :
    (Instr.lookup 59 (.map (some b)) (.int .i64 k) false).run Tryz.prog w = .ok (.agg #[f.v, .int .i64 (f.safe : Int)]) w := by
  obtain ⟨v, ps, hrun, hv⟩ := World.ownsMap.lookup h key_int Tryz.underlying59 (zero_file w) (zd := .held FV.zero.val) (zp := []) rfl (key_at hk)
  rw [datum_at, hf] at hv
  simp only [heldE, Option.some.injEq, Prod.mk.injEq, DataW.held.injEq] at hv
  rw [hrun, hv.1]; rfl
theorem OwnsM.lookOk (h : OwnsM w b n fs) {k : Int} (hk : (Lit.int .i64 k).wf = true) {f : FV} (hf : (fget fs k).getD FV.zero = f) {t : Bool} (ht : (fget fs k).isSome = t) :
    (Instr.lookup 59 (.map (some b)) (.int .i64 k) true).run Tryz.prog w = .ok (.tuple #[.agg #[f.v, .int .i64 (f.safe : Int)], .bool t]) w := by
  obtain ⟨v, ps, hrun, hv⟩ := World.ownsMap.look_ok h key_int Tryz.underlying59 (zero_file w) (zd := .held FV.zero.val) (zp := []) rfl (key_at hk)
  rw [datum_at, hf] at hv
  simp only [heldE, Option.some.injEq, Prod.mk.injEq, DataW.held.injEq] at hv
  rw [hrun, hv.1, datum_has, ht]; rfl
theorem lookNil (w : World) {k : Int} (hk : (Lit.int .i64 k).wf = true) :
    (Instr.lookup 59 (.map none) (.int .i64 k) false).run Tryz.prog w = .ok (.agg #[.slice none 0 0, .int .i64 0]) w :=
  Maps.look_nil false key_int Tryz.underlying59 (zero_file w) (key_at hk)
theorem lookNilOk (w : World) {k : Int} (hk : (Lit.int .i64 k).wf = true) :
    (Instr.lookup 59 (.map none) (.int .i64 k) true).run Tryz.prog w = .ok (.tuple #[.agg #[.slice none 0 0, .int .i64 0], .bool false]) w :=
  Maps.look_nil true key_int Tryz.underlying59 (zero_file w) (key_at hk)
theorem OwnsM.store (h : OwnsM w b fs.length fs) (hn : fs.length < 4611686018427387904) {k : Int} (hk : (Lit.int .i64 k).wf = true) (f : FV) :
    ∃ w', (Instr.mapUpdate 59 (.map (some b)) (.int .i64 k) (.agg #[f.v, .int .i64 (f.safe : Int)])).run Tryz.prog w = .ok () w' ∧ OwnsM w' b (fput fs k f).length (fput fs k f) ∧ w.mapTurned w' b := by
  obtain ⟨w', hrun, h1, h2⟩ := World.ownsMap.store h key_int Tryz.underlying59 (by unfold maxLen; omega) (key_at hk) (val := f.val) (d := .held f.val) (ps := []) rfl
  rw [datum_put] at h1
  exact ⟨w', hrun, OwnsM.tight h1, h2⟩
theorem OwnsM.drop (h : OwnsM w b fs.length fs) {k : Int} (hk : (Lit.int .i64 k).wf = true) (ty : TypeId) :
    ∃ w', (Builtin.delete_ #[59, 3] ty #[.map (some b), .int .i64 k]).run Tryz.prog w = .ok (.tuple #[]) w' ∧ OwnsM w' b (fdel fs k).length (fdel fs k) ∧ w.mapTurned w' b := by
  obtain ⟨w', hrun, h1, h2⟩ := World.ownsMap.drop h key_int Tryz.underlying59 (key_at hk) ty
  rw [datum_del] at h1
  exact ⟨w', hrun, OwnsM.tight h1, h2⟩
end
end Go.Proofs.YtlakkhhibdcjaaaGreatDoor

namespace Go.Proofs.YtlakkhhibdcjaaaGreatDoor
open Go Go.RowKit Go.Maps

/-- A file's bytes are in a row of the disk's own, and no more are safe than there are. -/
structure FileOk (w : World) (S : Nat → Prop) (base : Nat) (f : FV) : Prop where
  own : Own 5 .u8 w base f.v f.zs.length (ints f.zs)
  safe : f.safe ≤ f.zs.length
  lt : ∀ x ∈ f.zs, x < 256
  inS : ∀ g, f.v.ownBlock = some g → S g

/-- No two files lie in one row. -/
def Apart (x y : FV) : Prop := ∀ g, x.v.ownBlock = some g → y.v.ownBlock ≠ some g
theorem Apart.symm {x y : FV} (h : Apart x y) : Apart y x := fun g hy hx => h g hx hy

/-- The struct at block sb is a disk: its room, its files (a map, or nil), whether it is armed, with how many, and whether it has stopped; all of it lies in the blocks S, from base on. -/
structure DiskAt (w : World) (S : Nat → Prop) (base sb : Nat) (mv : Option Nat) (room : Int) (fs : List (Int × FV)) (armed : Bool) (left : Int) (stopped : Bool) : Prop where
  blk : w.heap[sb]? = some (.cells #[.int .i64 room, .map mv, .bool armed, .int .i64 left, .bool stopped] 61 (0, 0))
  map : (mv = none ∧ fs = []) ∨ ∃ b, mv = some b ∧ OwnsM w b fs.length fs ∧ S b
  up : fs.Pairwise (fun x y => x.1 < y.1)
  file : ∀ p ∈ fs, FileOk w S base p.2
  apart : ∀ p ∈ fs, ∀ q ∈ fs, p.1 ≠ q.1 → Apart p.2 q.2
  inS : S sb
  low : ∀ i, S i → base ≤ i ∧ i < w.heap.size

/-- What lies outside S is as it was. -/
structure Fr (S : Nat → Prop) (w w' : World) : Prop where
  os : w'.os = w.os
  tape : w'.tape = w.tape
  output : w'.output = w.output
  size : w.heap.size ≤ w'.heap.size
  block : ∀ k, k < w.heap.size → ¬ S k → w'.heap[k]? = w.heap[k]?

/-- What S has become: its blocks are old ones, or new. -/
def Wider (S S' : Nat → Prop) (w : World) : Prop := ∀ i, S' i → S i ∨ w.heap.size ≤ i

section
variable {S S' S'' : Nat → Prop} {w w' w'' : World} {base sb : Nat} {mv : Option Nat} {room left : Int} {fs : List (Int × FV)} {armed stopped : Bool} {f : FV}

theorem Fr.refl (S : Nat → Prop) (w : World) : Fr S w w := ⟨rfl, rfl, rfl, Nat.le_refl _, fun _ _ _ => rfl⟩
theorem Fr.trans (h : Fr S w w') (k : Fr S' w' w'') (hS : Wider S S' w) : Fr S w w'' :=
  ⟨k.os.trans h.os, k.tape.trans h.tape, k.output.trans h.output, Nat.le_trans h.size k.size, fun i hi hn => by
    rw [k.block i (Nat.lt_of_lt_of_le hi h.size) (fun hs => (hS i hs).elim hn (fun h' => by omega)), h.block i hi hn]⟩
theorem Fr.of_below (h : Below w.heap.size w w') : Fr S w w' := ⟨h.os, h.tape, h.output, h.size, fun i hi _ => h.block i hi⟩
theorem Fr.below (h : Fr S w w') (hS : ∀ i, S i → base ≤ i) (hB : base ≤ w.heap.size) : Below base w w' :=
  ⟨h.os, h.tape, h.output, h.size, fun i hi => h.block i (by omega) (fun hs => by have := hS i hs; omega)⟩
theorem Fr.of_grown {row : Option Nat} (h : w.grownBy w' row) (hr : ∀ g, row = some g → S g) : Fr S w w' :=
  ⟨h.os, h.tape, h.output, h.size, fun i hi hn => h.block i hi (fun he => hn (hr i he.symm))⟩
theorem Fr.of_turned {b : Nat} (h : w.mapTurned w' b) (hb : S b) : Fr S w w' := Fr.of_grown h.grown (fun g he => by injection he with he; subst he; exact hb)
theorem Fr.drew (w : World) : Fr S w w.drew := ⟨rfl, rfl, rfl, Nat.le_refl _, fun _ _ _ => rfl⟩
theorem Wider.refl (S : Nat → Prop) (w : World) : Wider S S w := fun _ h => .inl h
theorem Wider.trans (h : Wider S S' w) (k : Wider S' S'' w') (hs : w.heap.size ≤ w'.heap.size) : Wider S S'' w := fun i hi =>
  (k i hi).elim (fun h' => h i h') (fun h' => .inr (by omega))
/-- A slice of one's own that is none of the disk's is as it was. -/
theorem Own.fr {e : TypeId} {k : IntKind} {b n : Nat} {v : Value} {zs : List Int} (h : Own e k w b v n zs) (hf : Fr S w w') (hn : ∀ g, v.ownBlock = some g → ¬ S g) : Own e k w' b v n zs := by
  refine ⟨h.1, ?_⟩
  rcases h.2 with h | ⟨g, cap, cur, hv, hg, hh, r⟩
  · exact .inl h
  · exact .inr ⟨g, cap, cur, hv, hg, by rw [hf.block g (Array.getElem?_eq_some_iff.1 hh).1 (hn g (by rw [hv]; rfl))]; exact hh, r⟩

theorem Own.same {e : TypeId} {k : IntKind} {b n : Nat} {v : Value} {zs : List Int} (h : Own e k w b v n zs) (hn : ∀ g, v.ownBlock = some g → w'.heap[g]? = w.heap[g]?) : Own e k w' b v n zs := by
  refine ⟨h.1, ?_⟩
  rcases h.2 with h | ⟨g, cap, cur, hv, hg, hh, r⟩
  · exact .inl h
  · exact .inr ⟨g, cap, cur, hv, hg, by rw [hn g (by rw [hv]; rfl)]; exact hh, r⟩
theorem OwnsM.same {b n : Nat} (h : OwnsM w b n fs) (hb : w'.heap[b]? = w.heap[b]?) : OwnsM w' b n fs := by
  obtain ⟨es, clock, hh, r⟩ := h
  exact ⟨es, clock, hb.trans hh, r⟩
theorem FileOk.same (h : FileOk w S base f) (hn : ∀ g, f.v.ownBlock = some g → w'.heap[g]? = w.heap[g]?) : FileOk w' S base f := ⟨h.own.same hn, h.safe, h.lt, h.inS⟩
theorem FileOk.wide (h : FileOk w S base f) (hS : ∀ i, S i → S' i) : FileOk w S' base f := ⟨h.own, h.safe, h.lt, fun g hg => hS g (h.inS g hg)⟩

/-- What turns none of its blocks keeps the disk. -/
theorem DiskAt.kept (h : DiskAt w S base sb mv room fs armed left stopped) (hk : ∀ i, S i → w'.heap[i]? = w.heap[i]?) (hs : w.heap.size ≤ w'.heap.size) : DiskAt w' S base sb mv room fs armed left stopped :=
  ⟨(hk sb h.inS).trans h.blk, h.map.imp id (fun ⟨b, e, ho, hb⟩ => ⟨b, e, OwnsM.same ho (hk b hb), hb⟩), h.up,
    fun p hp => (h.file p hp).same fun g hg => hk g ((h.file p hp).inS g hg), h.apart, h.inS, fun i hi => ⟨(h.low i hi).1, Nat.lt_of_lt_of_le (h.low i hi).2 hs⟩⟩
theorem DiskAt.below (h : DiskAt w S base sb mv room fs armed left stopped) (hb : Below w.heap.size w w') : DiskAt w' S base sb mv room fs armed left stopped :=
  h.kept (fun i hi => hb.block i (h.low i hi).2) hb.size
theorem DiskAt.alloc (h : DiskAt w S base sb mv room fs armed left stopped) (o : Obj) : DiskAt (w.alloc o) S base sb mv room fs armed left stopped := h.below ((Below.refl _ _).alloc (Nat.le_refl _) _)
theorem DiskAt.drew (h : DiskAt w S base sb mv room fs armed left stopped) : DiskAt w.drew S base sb mv room fs armed left stopped := h.below (Below.refl _ _).drew

theorem DiskAt.lt (h : DiskAt w S base sb mv room fs armed left stopped) : sb < w.heap.size := (h.low sb h.inS).2
/-- The struct's cells. -/
theorem DiskAt.c0 (h : DiskAt w S base sb mv room fs armed left stopped) : w.cell? ⟨sb, 0, none⟩ = some (.int .i64 room) := by simp [World.cell?, h.blk]
theorem DiskAt.c1 (h : DiskAt w S base sb mv room fs armed left stopped) : w.cell? ⟨sb, 1, none⟩ = some (.map mv) := by simp [World.cell?, h.blk]
theorem DiskAt.c2 (h : DiskAt w S base sb mv room fs armed left stopped) : w.cell? ⟨sb, 2, none⟩ = some (.bool armed) := by simp [World.cell?, h.blk]
theorem DiskAt.c3 (h : DiskAt w S base sb mv room fs armed left stopped) : w.cell? ⟨sb, 3, none⟩ = some (.int .i64 left) := by simp [World.cell?, h.blk]
theorem DiskAt.c4 (h : DiskAt w S base sb mv room fs armed left stopped) : w.cell? ⟨sb, 4, none⟩ = some (.bool stopped) := by simp [World.cell?, h.blk]
theorem DiskAt.fz (h : DiskAt w S base sb mv room fs armed left stopped) (j : Nat) : w.frozen? ⟨sb, j, none⟩ = false := by simp [World.frozen?, h.blk]

/-- The file at a name, or the zero one: it reads. -/
theorem DiskAt.found (h : DiskAt w S base sb mv room fs armed left stopped) (k : Int) : FileOk w S base ((fget fs k).getD FV.zero) := by
  cases hf : fget fs k with
  | none => exact ⟨Own.nil, Nat.zero_le _, fun _ h => by simp [FV.zero] at h, fun g hg => by simp [FV.zero, Value.ownBlock] at hg⟩
  | some f => exact h.file _ (mem_fget hf)
/-- The row of a file is neither the struct's block nor the map's. -/
theorem FileOk.ne_sb (h : FileOk w S base f) (hd : DiskAt w S base sb mv room fs armed left stopped) : f.v.ownBlock ≠ some sb := fun he => by
  rcases h.own.2 with ⟨hn, _⟩ | ⟨g, cap, cur, hv, hg, hh, r⟩
  · rw [hn] at he; cases he
  · rw [hv] at he
    simp only [Value.ownBlock, Option.some.injEq] at he
    subst he
    rw [hd.blk] at hh
    simp at hh
theorem FileOk.ne_map {b n : Nat} (h : FileOk w S base f) (hd : OwnsM w b n fs) : f.v.ownBlock ≠ some b := fun he => by
  obtain ⟨es, clock, hb, _⟩ := hd
  rcases h.own.2 with ⟨hn, _⟩ | ⟨g, cap, cur, hv, hg, hh, r⟩
  · rw [hn] at he; cases he
  · rw [hv] at he
    simp only [Value.ownBlock, Option.some.injEq] at he
    subst he
    rw [hb] at hh
    cases hh
theorem DiskAt.map_ne {b : Nat} (hd : DiskAt w S base sb mv room fs armed left stopped) (hb : ∃ n, OwnsM w b n fs) : b ≠ sb := fun he => by
  obtain ⟨n, es, clock, hb, _⟩ := hb
  subst he
  rw [hd.blk] at hb
  cases hb
end
end Go.Proofs.YtlakkhhibdcjaaaGreatDoor

namespace Go.Proofs.YtlakkhhibdcjaaaGreatDoor
open Go Go.RowKit Go.Maps
set_option linter.unusedVariables false

/-- A new disk. -/
theorem disk_new (w : World) (room : Int) : DiskAt (w.alloc (.cells #[.int .i64 room, .map none, .bool false, .int .i64 0, .bool false] 61)) (fun i => i = w.heap.size) w.heap.size w.heap.size none room [] false 0 false :=
  ⟨heap_alloc_new w _, .inl ⟨rfl, rfl⟩, .nil, fun _ h => by simp at h, fun _ h => by simp at h, rfl, fun i hi => by subst hi; simp⟩

theorem of_any (room r1 r2 : Int) (w : World) (h1 : max room 0 = r1) (h2 : min r1 262144 = r2) :
    Calls Tryz.prog 8 #[.int .i64 room] w fun e w' => e = .returned (.pointer (some ⟨w.heap.size, 0, none⟩)) ∧ w' = w.alloc (.cells #[.int .i64 r2, .map none, .bool false, .int .i64 0, .bool false] 61) := by
  rcases Int.lt_or_le room 0 with h | h
  · have e1 : r1 = 0 := by omega
    have e2 : r2 = 0 := by omega
    subst e1 e2
    clear h1 h2
    go_enter Tryz.func8, Tryz.ntmps8
    go_wp2
    all_goals first | (go_ret; exact ⟨rfl, rfl⟩) | (exfalso; omega)
  · have e1 : r1 = room := by omega
    subst e1
    clear h1
    rcases Int.lt_or_le 262144 r1 with h' | h'
    · have e2 : r2 = 262144 := by omega
      subst e2
      clear h2
      go_enter Tryz.func8, Tryz.ntmps8
      go_wp2
      all_goals first | (go_ret; exact ⟨rfl, rfl⟩) | (exfalso; omega)
    · have e2 : r2 = r1 := by omega
      subst e2
      clear h2
      go_enter Tryz.func8, Tryz.ntmps8
      go_wp2
      all_goals first | (go_ret; exact ⟨rfl, rfl⟩) | (exfalso; omega)

/-- A disk that is not armed counts nothing. -/
theorem change_calm (sb : Nat) (w : World) (h : w.cell? ⟨sb, 2, none⟩ = some (.bool false)) :
    Calls Tryz.prog 47 #[.pointer (some ⟨sb, 0, none⟩)] w fun e w' => e = .returned .nilIface ∧ w = w' := by
  go_enter Tryz.func47, Tryz.ntmps47
  go_wp2
  go_ret
  exact ⟨rfl, rfl⟩

theorem modulo_any (n m : Int) (w : World) (hn : -9223372036854775808 ≤ n ∧ n ≤ 9223372036854775807) (hm : 0 < m ∧ m ≤ 4611686018427387904) :
    Calls Tryz.prog 43 #[.int .i64 n, .int .i64 m] w fun e w' => e = .returned (.int .i64 (n % m)) ∧ w = w' := by
  have h0 : m ≠ 0 := by omega
  have e0 := Int.tmod_eq_emod_of_nonneg (a := n) (b := m)
  have l1 := Int.emod_lt_of_pos n hm.1
  have l0 := Int.emod_nonneg n h0
  rcases Int.lt_or_le (n.tmod m) 0 with h | h
  · have e1 : n.tmod m + m = n % m := by
      rw [Int.tmod_eq_emod]
      split
      · rename_i hd
        rw [Int.tmod_eq_emod, if_pos hd] at h
        omega
      · rw [Int.natAbs_of_nonneg (by omega)]; omega
    go_enter Tryz.func43, Tryz.ntmps43
    go_wp2
    go_ret
    exact ⟨rfl, rfl⟩
  · have e1 : n.tmod m = n % m := by
      rw [Int.tmod_eq_emod]
      split
      · omega
      · rename_i hd
        rw [Int.tmod_eq_emod, if_neg hd, Int.natAbs_of_nonneg (by omega)] at h
        omega
    go_enter Tryz.func43, Tryz.ntmps43
    go_wp2
    go_ret
    exact ⟨rfl, rfl⟩

/-- What cut hands back: the first bytes, in new memory, all of them safe. -/
def CutRes (w : World) (k : Nat) (ys : List Nat) (e : Ending) (w' : World) : Prop :=
  ∃ v, e = .returned (.agg #[v, .int .i64 (k : Int)]) ∧ Own 5 .u8 w' w.heap.size v k (ints ys) ∧ Below w.heap.size w w'

theorem Own.setOther {e : TypeId} {k : IntKind} {w : World} {b n g j : Nat} {v u : Value} {zs : List Int} (h : Own e k w b v n zs) (hg : g < b) : Own e k (w.setCell ⟨g, j, none⟩ u) b v n zs :=
  h.same fun i hi => Below.heap_setCell _ _ _ _ (fun he => by have := h.rowLt i hi; simp only at he; omega)

theorem heap_set2 (w : World) (g : Nat) (x y x' y' : Value) (t : TypeId) (h : w.heap[g]? = some (.cells #[x, y] t (0, 0))) :
    ((w.setCell ⟨g, 0, none⟩ x').setCell ⟨g, 1, none⟩ y').heap[g]? = some (.cells #[x', y'] t (0, 0)) := by
  simp [World.setCell, Array.getElem?_modify, h]
theorem file_load (w : World) (g : Nat) (x y : Value) (h : w.heap[g]? = some (.cells #[x, y] 79 (0, 0))) : (loadVar 79 ⟨g, 0, none⟩).run Tryz.prog w = .ok (.agg #[x, y]) w :=
  run_loadVar_row w g _ _ #[x, y] (0, 0) _ h Tryz.underlying79 rfl (by kernel_rfl)

set_option maxRecDepth 100000 in
theorem cut_any (A : Option Addr) (n c : Nat) (xs ys : List Nat) (s : Int) (k : Nat) (w : World) (hr : Rd .u8 w A n (ints xs)) (hl : n ≤ 200000000000000) (hc : n ≤ c) (hk : k ≤ n) (hy : xs.take k = ys) :
    Calls Tryz.prog 42 #[.agg #[.slice A n c, .int .i64 s], .int .i64 (k : Int)] w (CutRes w k ys) := by
  have hyl : ys.length = k := by rw [← hy, List.length_take]; have := hr.1; rw [ints_length] at this; omega
  have hr1 : Rd .u8 w A k (ints ys) := by rw [← hy, ← ints_take]; exact hr.front hk
  have hf := fun W => run_front W A n c k (by omega)
  have HR := Lib.hid hr1
  have HY := Lib.hid hyl
  clear hr hr1 hy hyl
  go_enter Tryz.func42, Tryz.ntmps42
  go_wp2_with fail
  refine (clone_any A k c ys _ ((HR.out.alloc _).alloc _) (by omega)).mono ?_
  rintro e w1 ⟨v, rfl, ho, hb⟩
  have hb2 : Below w.heap.size w w1 := (((Below.refl _ w).alloc (Nat.le_refl _) _).alloc (by simp) _).trans (hb.mono (by simp; omega))
  rw [HY.out] at ho
  obtain ⟨A1, c1, rfl, _⟩ := ho.form
  have HO := Lib.hid ho
  have HB := Lib.hid hb2
  have hz := hb.size
  have hc2 : w1.cell? ⟨w.heap.size + 1, 0, none⟩ = some (.slice none 0 0) := by rw [hb.cell (by simp)]; simp
  have hc3 : w1.cell? ⟨w.heap.size + 1, 1, none⟩ = some (.int .i64 0) := by rw [hb.cell (by simp)]; simp
  have hc4 : ∀ j, w1.frozen? ⟨w.heap.size + 1, j, none⟩ = false := fun j => by rw [hb.frozen (by simp)]; simp
  have hh : w1.heap[w.heap.size + 1]? = some (.cells #[.slice none 0 0, .int .i64 0] 79 (0, 0)) := by rw [hb.block _ (by simp)]; exact heap_alloc2_new _ _ _
  clear ho hb hb2
  go_wp2
  refine bodyPost_ret (results_cell_row (p := 4) (ty := 79) rfl _ _ (w.heap.size + 1) _ _ (0, 0) _ rfl (heap_set2 _ _ _ _ _ _ _ hh) Tryz.underlying79 rfl (by kernel_rfl)) rfl ?_
  refine ⟨_, rfl, ?_, (HB.out.setCell (by simp) _).setCell (by simp) _⟩
  exact ((HO.out.setOther (by simp)).setOther (by simp)).less (by simp; omega)
end Go.Proofs.YtlakkhhibdcjaaaGreatDoor

namespace Go.Proofs.YtlakkhhibdcjaaaGreatDoor
open Go Go.RowKit Go.Maps
set_option linter.unusedVariables false

section
variable {S : Nat → Prop} {w : World} {base sb : Nat} {mv : Option Nat} {room left : Int} {fs : List (Int × FV)} {armed stopped : Bool}

/-- The look-up at a name, whether the map is there or not. -/
theorem DiskAt.look (h : DiskAt w S base sb mv room fs armed left stopped) {k : Int} (hk : (Lit.int .i64 k).wf = true) {f : FV} (hf : (fget fs k).getD FV.zero = f) :
    (Instr.lookup 59 (.map mv) (.int .i64 k) false).run Tryz.prog w = .ok (.agg #[f.v, .int .i64 (f.safe : Int)]) w := by
  rcases h.map with ⟨rfl, rfl⟩ | ⟨b, rfl, ho, _⟩
  · rw [lookNil w hk, ← hf]; rfl
  · exact ho.look hk hf
theorem DiskAt.lookOk (h : DiskAt w S base sb mv room fs armed left stopped) {k : Int} (hk : (Lit.int .i64 k).wf = true) {f : FV} (hf : (fget fs k).getD FV.zero = f) {t : Bool} (ht : (fget fs k).isSome = t) :
    (Instr.lookup 59 (.map mv) (.int .i64 k) true).run Tryz.prog w = .ok (.tuple #[.agg #[f.v, .int .i64 (f.safe : Int)], .bool t]) w := by
  rcases h.map with ⟨rfl, rfl⟩ | ⟨b, rfl, ho, _⟩
  · rw [lookNilOk w hk, ← hf, ← ht]; rfl
  · exact ho.lookOk hk hf ht

/-- What find hands back. -/
def FindRes (w : World) (v : Value) (s : Int) (r : Value) (e : Ending) (w' : World) : Prop := e = .returned (.tuple #[.agg #[v, .int .i64 s], r]) ∧ Below w.heap.size w w'

set_option maxRecDepth 100000 in
theorem find_yes (h : DiskAt w S base sb mv room fs armed left false) {k : Int} (hk : (Lit.int .i64 k).wf = true) {A : Option Addr} {n c : Nat} {zs : List Nat} {s : Nat} (hf : fget fs k = some ⟨.slice A n c, zs, s⟩) :
    Calls Tryz.prog 57 #[.pointer (some ⟨sb, 0, none⟩), .int .i64 k] w (FindRes w (.slice A n c) (s : Int) .nilIface) := by
  have c1 : ∀ o, (w.alloc o).cell? ⟨sb, 1, none⟩ = some (.map mv) := fun o => (h.alloc o).c1
  have c4 : ∀ o, (w.alloc o).cell? ⟨sb, 4, none⟩ = some (.bool false) := fun o => (h.alloc o).c4
  have hl := fun o => (h.alloc o).lookOk hk (f := ⟨.slice A n c, zs, s⟩) (by rw [hf]; rfl) (t := true) (by rw [hf]; rfl)
  dsimp only at hl
  clear h hf
  go_enter Tryz.func57, Tryz.ntmps57
  go_wp2
  refine bodyPost_ret (v := .tuple #[.agg #[.slice A n c, .int .i64 (s : Int)], .nilIface]) ?_ rfl ⟨rfl, ((Below.refl _ w).alloc (Nat.le_refl _) _).alloc (by simp) _⟩
  rw [results_cell_tmp (p := 4) (u := 5) (ty := 79) rfl]
  have hh := file_load ((w.alloc (.cells #[.slice A n c, .int .i64 (s : Int)] 79)).alloc (.cells #[.slice A n c, .int .i64 (s : Int)] 79)) w.heap.size (.slice A n c) (.int .i64 (s : Int)) (by rw [Below.heap_alloc _ _ _ (by simp)]; exact heap_alloc_new _ _)
  simp [asAddr, hh, Result.andThen]

set_option maxRecDepth 100000 in
theorem find_no (h : DiskAt w S base sb mv room fs armed left false) {k : Int} (hk : (Lit.int .i64 k).wf = true) (hf : fget fs k = none) :
    Calls Tryz.prog 57 #[.pointer (some ⟨sb, 0, none⟩), .int .i64 k] w (FindRes w (.slice none 0 0) 0 (.iface 39 (.int .i64 2))) := by
  have c1 : ∀ o, (w.alloc o).cell? ⟨sb, 1, none⟩ = some (.map mv) := fun o => (h.alloc o).c1
  have c4 : ∀ o, (w.alloc o).cell? ⟨sb, 4, none⟩ = some (.bool false) := fun o => (h.alloc o).c4
  have hl := fun o => (h.alloc o).lookOk hk (f := FV.zero) (by rw [hf]; rfl) (t := false) (by rw [hf]; rfl)
  simp only [FV.zero] at hl
  clear h hf
  go_enter Tryz.func57, Tryz.ntmps57
  go_wp2
  refine bodyPost_ret (v := .tuple #[.agg #[.slice none 0 0, .int .i64 0], .iface 39 (.int .i64 2)]) ?_ rfl ⟨rfl, ((Below.refl _ w).alloc (Nat.le_refl _) _).alloc (by simp) _⟩
  rw [results_cell_tmp (p := 4) (u := 5) (ty := 79) rfl]
  have hh := file_load ((w.alloc (.cells #[.slice none 0 0, .int .i64 0] 79)).alloc (.cells #[.slice none 0 0, .int .i64 0] 79)) w.heap.size (.slice none 0 0) (.int .i64 0) (by rw [Below.heap_alloc _ _ _ (by simp)]; exact heap_alloc_new _ _)
  simp [asAddr, hh, Result.andThen]

/-- What Read hands back: the bytes in new memory, and whether there is such a file. -/
def ReadRes (w : World) (zs : List Nat) (t : Bool) (e : Ending) (w' : World) : Prop := ∃ v, e = .returned (.tuple #[v, .bool t]) ∧ Own 5 .u8 w' w.heap.size v zs.length (ints zs) ∧ Below w.heap.size w w'

set_option maxRecDepth 100000 in
theorem read_any (h : DiskAt w S base sb mv room fs armed left stopped) {k : Int} (hk : (Lit.int .i64 k).wf = true) {f : FV} (hf : (fget fs k).getD FV.zero = f) {t : Bool} (ht : (fget fs k).isSome = t) (hn : f.zs.length ≤ 200000000000000) :
    Calls Tryz.prog 51 #[.pointer (some ⟨sb, 0, none⟩), .int .i64 k] w (ReadRes w f.zs t) := by
  have c1 := h.c1
  have hl := h.lookOk hk hf ht
  have hok := h.found k
  rw [hf] at hok
  obtain ⟨v, zs, s⟩ := f
  obtain ⟨A, c, hv, hnc, _, hr, _⟩ := hok.own.form
  dsimp only at hl hv hnc hr hn ⊢
  subst hv
  have HR := Lib.hid hr
  clear h hf hok ht hr
  go_enter Tryz.func51, Tryz.ntmps51
  go_wp2_with fail
  refine (clone_any A zs.length c zs _ (HR.out.alloc _) (by omega)).mono ?_
  rintro e w1 ⟨v, rfl, ho, hb⟩
  have HO := Lib.hid ho
  have HB := Lib.hid (((Below.refl _ w).alloc (Nat.le_refl _) _).trans (hb.mono (by simp)))
  clear ho hb
  go_wp2
  go_ret2
  exact ⟨_, rfl, HO.out.less (by simp), HB.out⟩
end
end Go.Proofs.YtlakkhhibdcjaaaGreatDoor

namespace Go.Proofs.YtlakkhhibdcjaaaGreatDoor
open Go Go.RowKit Go.Maps
set_option linter.unusedVariables false

/-- How many bytes all files have. -/
def total (fs : List (Int × FV)) : Nat := (fs.map fun p => p.2.zs.length).sum
/-- How many bytes those have that are still to come. -/
def rest (left : Lit → Bool) (fs : List (Int × FV)) : Nat := (fs.map fun p => if left (.int .i64 p.1) then p.2.zs.length else 0).sum

theorem rest_all {left : Lit → Bool} : ∀ {fs : List (Int × FV)}, (∀ p ∈ fs, left (.int .i64 p.1) = true) → rest left fs = total fs
  | [], _ => rfl
  | x :: r, h => by
    have h1 := h x (by simp)
    have h2 := rest_all (left := left) (fs := r) fun p hp => h p (by simp [hp])
    simp only [rest, total] at h2
    simp [rest, total, h1, h2]
theorem rest_none {left : Lit → Bool} (h : ∀ l, left l = false) : ∀ fs : List (Int × FV), rest left fs = 0
  | [] => rfl
  | x :: r => by
    show (if left (.int .i64 x.1) = true then x.2.zs.length else 0) + rest left r = 0
    rw [rest_none h r, h]; rfl
theorem rest_same {left left' : Lit → Bool} : ∀ {fs : List (Int × FV)}, (∀ p ∈ fs, left (.int .i64 p.1) = left' (.int .i64 p.1)) → rest left fs = rest left' fs
  | [], _ => rfl
  | x :: r, h => by
    have h1 := h x (by simp)
    have h2 := rest_same (left := left) (left' := left') (fs := r) fun p hp => h p (by simp [hp])
    simp only [rest] at h2
    simp [rest, h1, h2]
theorem rest_step {left : Lit → Bool} {x : Int} {f : FV} : ∀ {fs : List (Int × FV)}, fs.Pairwise (fun x y => x.1 < y.1) → (x, f) ∈ fs → left (.int .i64 x) = true →
    rest left fs = f.zs.length + rest (fun z => left z && !z.sameKey (.int .i64 x)) fs
  | [], _, h, _ => by simp at h
  | y :: r, hp, h, hl => by
    rw [List.pairwise_cons] at hp
    rcases List.mem_cons.1 h with rfl | h
    · have h2 := rest_same (left := left) (left' := fun z => left z && !z.sameKey (.int .i64 x)) (fs := r) fun p hp' => by
        have := hp.1 p hp'
        have hne : (p.1 == x) = false := by simp; omega
        simp [same_int, hne]
      simp only [rest] at h2
      simp [rest, hl, same_int, h2]
    · have h2 := rest_step hp.2 h hl
      have := hp.1 _ h
      have hne : (y.1 == x) = false := by simp; omega
      simp only [rest] at h2
      simp only [rest, List.map_cons, List.sum_cons, same_int, hne, Bool.not_false, Bool.and_true, h2]
      omega
theorem total_le {fs : List (Int × FV)} {p : Int × FV} (h : p ∈ fs) : p.2.zs.length ≤ total fs := by
  induction fs with
  | nil => simp at h
  | cons y r ih =>
    simp only [total, List.map_cons, List.sum_cons] at ih ⊢
    rcases List.mem_cons.1 h with rfl | h
    · omega
    · have := ih h; omega

section
variable {S : Nat → Prop} {w : World} {base sb : Nat} {mv : Option Nat} {room left : Int} {fs : List (Int × FV)} {armed stopped : Bool}

/-- A step of the range: a file that is still to come. -/
theorem files_next {wr : World} {b r n : Nat} {lf : Lit → Bool} {cnt : Nat} (h : wr.ranges Tryz.prog 3 heldE b r n (datum fs) lf cnt) (ty : TypeId) :
    (cnt = 0 ∧ (∀ kl, lf kl = false) ∧ (Instr.next (.pointer (some ⟨r, 0, none⟩)) false ty).run Tryz.prog wr = .ok (.tuple #[.bool false]) wr) ∨
    ∃ (x : Int) (f : FV) (w' : World) (cnt' : Nat), (x, f) ∈ fs ∧ lf (.int .i64 x) = true ∧ (Instr.next (.pointer (some ⟨r, 0, none⟩)) false ty).run Tryz.prog wr = .ok (.tuple #[.bool true, .int .i64 x, f.val]) w' ∧
      w'.ranges Tryz.prog 3 heldE b r n (datum fs) (fun z => lf z && !z.sameKey (.int .i64 x)) cnt' ∧ cnt' < cnt ∧ wr.grownBy w' (some r) ∧ w'.heap.size = wr.heap.size ∧
      (Instr.entry (.pointer (some ⟨r, 0, none⟩))).run Tryz.prog w' = .ok (.tuple #[.int .i64 x, f.val]) w' := by
  rcases h.next key_int ty with h0 | ⟨key, v, kl, y, w', cnt', hkey, hlk, hv, hat, hrun, hrg, hlt, hgr, hsz, hen⟩
  · exact .inl h0
  · obtain ⟨x, rfl, rfl, _⟩ := Maps.keyOf_i64 Tryz.underlying3 hkey
    have hy : y.1 = .held v := by
      have := hv
      simp only [heldE, Option.some.injEq] at this
      rw [← this]
    have hs : (fget fs x).isSome = true := by rw [← datum_has]; exact Maps.has_true_of_atKey hat
    obtain ⟨f, hf⟩ := Option.isSome_iff_exists.1 hs
    have hfv : f.val = v := by
      have h1 := hat (.held FV.zero.val)
      rw [datum_at, hf, hy] at h1
      simpa using h1
    subst hfv
    exact .inr ⟨x, f, w', cnt', mem_fget hf, hlk, hrun, hrg, hlt, hgr, hsz, hen⟩

/-- What Used hands back. -/
def UsedRes (w : World) (n : Nat) (e : Ending) (w' : World) : Prop := e = .returned (.int .i64 (n : Int)) ∧ Below w.heap.size w w'

theorem wpList_next_files {ops : Array Oper} {rst : List Oper} {o : Oper} {a : Act} {Q : Exit → Act → World → Prop} {wr : World} (hg : o.guard = none) (it : Operand) (hop : o.op = Op.next it false) (b r n : Nat) (lf : Lit → Bool) (cnt : Nat)
    (hit : a.eval it = .pointer (some ⟨r, 0, none⟩)) (h : wr.ranges Tryz.prog 3 heldE b r n (datum fs) lf cnt) (hform : ∀ p ∈ fs, ∃ A n c, p.2.v = .slice A n c)
    (hDone : (∀ kl, lf kl = false) → wpList Tryz.prog ops Q rst (a.put o.dst (.tuple #[.bool false])) wr)
    (hMore : ∀ (x : Int) (A : Option Addr) (n' c s : Nat) (zs : List Nat) (w' : World) (cnt' : Nat), (x, (⟨.slice A n' c, zs, s⟩ : FV)) ∈ fs → lf (.int .i64 x) = true →
      w'.ranges Tryz.prog 3 heldE b r n (datum fs) (fun z => lf z && !z.sameKey (.int .i64 x)) cnt' → cnt' < cnt → wr.grownBy w' (some r) →
      (Instr.entry (.pointer (some ⟨r, 0, none⟩))).run Tryz.prog w' = .ok (.tuple #[.int .i64 x, .agg #[.slice A n' c, .int .i64 (s : Int)]]) w' → wpList Tryz.prog ops Q rst (a.put o.dst (.tuple #[.bool true, .int .i64 x, .agg #[.slice A n' c, .int .i64 (s : Int)]])) w') :
    wpList Tryz.prog ops Q (o :: rst) a wr := by
  refine wpList_plain hg fun K' hK' => ?_
  unfold Oper.wp
  rcases files_next h o.type with ⟨_, hl, hrun⟩ | ⟨x, f, w', cnt', hm, hlk, hrun, hrg, hlt, hgr, _, hen⟩
  · simp [execOp, hop, hit, hrun, Result.andThen]
    exact hK' _ _ (hDone hl)
  · obtain ⟨A, n', c, hv⟩ := hform _ hm
    obtain ⟨v, zs, s⟩ := f
    dsimp only at hv
    subst hv
    simp [execOp, hop, hit, hrun, Result.andThen, FV.val]
    exact hK' _ _ (hMore x A n' c s zs w' cnt' hm hlk hrg hlt hgr hen)

theorem DiskAt.form (h : DiskAt w S base sb mv room fs armed left stopped) : ∀ p ∈ fs, ∃ A n c, p.2.v = .slice A n c := fun p hp => by
  obtain ⟨A, c, hv, _⟩ := (h.file p hp).own.form
  exact ⟨A, _, c, hv⟩
theorem DiskAt.len (h : DiskAt w S base sb mv room fs armed left stopped) {x : Int} {A : Option Addr} {n c s : Nat} {zs : List Nat} (hm : (x, (⟨.slice A n c, zs, s⟩ : FV)) ∈ fs) : zs.length = n := by
  obtain ⟨A', c', hv, _⟩ := (h.file _ hm).own.form
  injection hv with _ h2 _
  exact h2.symm

set_option maxRecDepth 100000 in
set_option maxHeartbeats 1000000 in
theorem used_any (h : DiskAt w S base sb mv room fs armed left stopped) (ht : total fs ≤ 4611686018427387904) :
    Calls Tryz.prog 21 #[.pointer (some ⟨sb, 0, none⟩)] w (UsedRes w (total fs)) := by
  have c1 := h.c1
  rcases h.map with ⟨rfl, rfl⟩ | ⟨b, rfl, ho, _⟩
  · have hrg := run_range_nilMap (P := Tryz.prog) w 59 3 79 Tryz.underlying59
    have hnx : ∀ ty, (Instr.next (.pointer (some ⟨w.heap.size, 0, none⟩)) false ty).run Tryz.prog (w.alloc (.mapIter none 0 #[] 0)) = _ := fun ty => run_next_nilMap _ ty 0 0 #[]
    clear h
    go_enter Tryz.func21, Tryz.ntmps21
    go_wp2
    refine wp_loop_rounds 1 ?_
    rw [rounds_succ]
    go_wp2
    go_ret
    exact ⟨rfl, (Below.refl _ _).alloc (Nat.le_refl _) _⟩
  · have HD := Lib.hid h
    have HT := Lib.hid ht
    have HU := Lib.hid h.up
    have hlow := ho.lt
    clear h ht
    go_enter Tryz.func21, Tryz.ntmps21
    go_wp2_with (first
      | (at_range; refine wpList_range_own _ rfl _ 59 rfl 3 79 key_int Tryz.underlying59 _ b fs.length _ rfl ho ?_; intro w0 hrg0 hg0 hs0)
      | go_in)
    go_frame
    go_loopw [3] (fun u wr => ∃ (lf : Lit → Bool) (cnt m : Nat), wr.ranges Tryz.prog 3 heldE b w.heap.size fs.length (datum fs) lf cnt ∧ u = .int .i64 (m : Int) ∧ m + rest lf fs = total fs ∧ Below w.heap.size w wr ∧ w.heap.size < wr.heap.size)
      (fun _ wr => wr.rangeLeft b w.heap.size)
    case atStart =>
      refine ⟨_, _, 0, hrg0, rfl, ?_, (Below.refl _ _).grown hg0 (Nat.le_refl _) (fun g he => by cases he), by omega⟩
      rw [Nat.zero_add]
      refine rest_all fun p hp => ?_
      rw [datum_has]
      unfold fget
      rw [Option.isSome_map, List.find?_isSome]
      exact ⟨p, hp, by simp⟩
    case round =>
      obtain ⟨lf, cnt, m, hrg, rfl, hm, hbl, hsz⟩ := hrel
      go_wp2_with (first
        | (at_next; refine wpList_next_files rfl _ rfl b w.heap.size fs.length lf cnt rfl hrg HD.out.form ?_ ?_)
        | go_in)
      · intro hl0
        rw [rest_none hl0, Nat.add_zero] at hm
        subst hm
        go_wp2
        go_ret
        exact ⟨rfl, hbl⟩
      · intro x A n' c s zs w2 cnt2 hmem hlk hrg2 hlt hg2 hen
        have hstep := rest_step HU.out hmem hlk
        have hlen := HD.out.len hmem
        have hz2 := hg2.size
        have hb2 : Below w.heap.size w w2 := hbl.grown hg2 (by omega) (fun g he => by injection he with he; omega)
        have hsum : m + n' + rest (fun z => lf z && !z.sameKey (.int .i64 x)) fs = total fs := by rw [← hlen, ← hm, hstep]; simp only; omega
        have hle : m + n' ≤ 4611686018427387904 := by have := HT.out; omega
        have HS := Lib.hid hsum
        have HB := Lib.hid hb2
        clear hstep hlen hm hsum hb2 hbl hmem hlk hg2
        go_wp2
        go_roundw
        case rel => exact ⟨_, cnt2, m + n', hrg2.alloc _, by go_num, HS.out, HB.out.alloc (by omega) _, by simp; omega⟩
        case measure => rw [(hrg2.alloc _).left_eq, hrg.left_eq]; exact hlt
end
end Go.Proofs.YtlakkhhibdcjaaaGreatDoor

namespace Go.Proofs.YtlakkhhibdcjaaaGreatDoor
open Go Go.RowKit Go.Maps
set_option linter.unusedVariables false
section
variable {S S' : Nat → Prop} {w w' : World} {base sb b : Nat} {mv : Option Nat} {room left : Int} {fs : List (Int × FV)} {armed stopped : Bool} {k : Int} {f : FV}

theorem DiskAt.put (h : DiskAt w S base sb (some b) room fs armed left stopped) (hS : ∀ i, S i → S' i) (hlow : ∀ i, S' i → base ≤ i ∧ i < w'.heap.size)
    (hsb : w'.heap[sb]? = w.heap[sb]?) (hm : OwnsM w' b (fput fs k f).length (fput fs k f)) (hSb : S' b)
    (hkeep : ∀ p ∈ fs, p.1 ≠ k → ∀ g, p.2.v.ownBlock = some g → w'.heap[g]? = w.heap[g]?)
    (hf : FileOk w' S' base f) (hap : ∀ p ∈ fs, p.1 ≠ k → Apart p.2 f) : DiskAt w' S' base sb (some b) room (fput fs k f) armed left stopped where
  blk := hsb.trans h.blk
  map := .inr ⟨b, rfl, hm, hSb⟩
  up := up_fput h.up k f
  file := fun p hp => by
    rcases mem_fput hp with rfl | ⟨hp, hne⟩
    · exact hf
    · exact ((h.file p hp).same (hkeep p hp hne)).wide hS
  apart := fun p hp q hq hne => by
    rcases mem_fput hp with rfl | ⟨hp, hpk⟩
    · rcases mem_fput hq with rfl | ⟨hq, hqk⟩
      · exact absurd rfl hne
      · exact (hap q hq hqk).symm
    · rcases mem_fput hq with rfl | ⟨hq, hqk⟩
      · exact hap p hp hpk
      · exact h.apart p hp q hq hne
  inS := hS sb h.inS
  low := hlow

/-- The files when one is no more. -/
theorem DiskAt.dropped (h : DiskAt w S base sb (some b) room fs armed left stopped) (hm : OwnsM w' b (fdel fs k).length (fdel fs k)) (hb : S b) (ht : w.mapTurned w' b) : DiskAt w' S base sb (some b) room (fdel fs k) armed left stopped := by
  have hg := ht.grown
  obtain ⟨b', e, ho, _⟩ : ∃ b', some b = some b' ∧ OwnsM w b' fs.length fs ∧ S b' := by
    rcases h.map with ⟨h0, _⟩ | h0
    · cases h0
    · exact h0
  injection e with e
  subst e
  exact {
    blk := (hg.block sb h.lt (fun he => h.map_ne ⟨_, ho⟩ (by injection he with he; exact he.symm))).trans h.blk
    map := .inr ⟨b, rfl, hm, hb⟩
    up := up_fdel h.up k
    file := fun p hp => (h.file p (mem_fdel.1 hp).1).same fun g he => hg.block g ((h.low g ((h.file p (mem_fdel.1 hp).1).inS g he)).2) (fun e => (h.file p (mem_fdel.1 hp).1).ne_map ho (by rw [he]; exact e))
    apart := fun p hp q hq hne => h.apart p (mem_fdel.1 hp).1 q (mem_fdel.1 hq).1 hne
    inS := h.inS
    low := fun i hi => ⟨(h.low i hi).1, Nat.lt_of_lt_of_le (h.low i hi).2 hg.size⟩ }

/-- A store of a file whose bytes lie in its own old row, or in a new one (wA: the world ahead of what was done to that row). -/
theorem DiskAt.stored {wA w1 : World} (h : DiskAt wA S base sb (some b) room fs armed left stopped) (ho : OwnsM w1 b fs.length fs)
    (hg : wA.grownBy w1 ((fget fs k).getD FV.zero).v.ownBlock)
    (hf : Own 5 .u8 w1 base f.v f.zs.length (ints f.zs)) (hs : f.safe ≤ f.zs.length) (hlt : ∀ x ∈ f.zs, x < 256)
    (hloc : f.v.ownBlock = ((fget fs k).getD FV.zero).v.ownBlock ∨ ∀ g, f.v.ownBlock = some g → wA.heap.size ≤ g)
    (hm : OwnsM w' b (fput fs k f).length (fput fs k f)) (hSb : S b) (ht : w1.mapTurned w' b) (hbase : base ≤ wA.heap.size) :
    ∃ S', DiskAt w' S' base sb (some b) room (fput fs k f) armed left stopped ∧ Fr S wA w' ∧ Wider S S' wA := by
  have hold := h.found k
  have hg2 := ht.grown
  have hz1 := hg.size
  have hz2 := hg2.size
  have hoA : OwnsM wA b fs.length fs := by
    rcases h.map with ⟨h0, _⟩ | ⟨b', e, ho', _⟩
    · cases h0
    · injection e with e; subst e; exact ho'
  have hfb : f.v.ownBlock ≠ some b := (FileOk.mk (S := fun _ => True) hf hs hlt (fun _ _ => trivial)).ne_map ho
  have hfl : ∀ g, f.v.ownBlock = some g → base ≤ g ∧ g < w1.heap.size := fun g hg' => World.ownsRow.lt hf g hg'
  have hsb1 : w1.heap[sb]? = wA.heap[sb]? := hg.block sb h.lt (fun e => hold.ne_sb h e.symm)
  refine ⟨fun i => S i ∨ f.v.ownBlock = some i, ?_, ?_, ?_⟩
  · refine h.put (fun i hi => .inl hi) (fun i hi => ?_) ?_ hm (.inl hSb) (fun p hp hne g he => ?_) ?_ (fun p hp hne => ?_)
    · rcases hi with hi | hi
      · have := h.low i hi; omega
      · have := hfl i hi; omega
    · rw [hg2.block sb (Nat.lt_of_lt_of_le h.lt hz1) (fun e => h.map_ne ⟨_, hoA⟩ (by injection e with e; exact e.symm)), hsb1]
    · have hp' := h.file p hp
      have hgl := (h.low g (hp'.inS g he)).2
      rw [hg2.block g (by omega) (fun e => hp'.ne_map hoA (by rw [he]; exact e)), hg.block g hgl (fun e => ?_)]
      cases hfk : fget fs k with
      | none => rw [hfk] at e; cases e
      | some f0 =>
        rw [hfk] at e
        exact h.apart p hp _ (mem_fget hfk) hne g he e.symm
    · refine ⟨hf.same fun g hg' => hg2.block g (hfl g hg').2 (fun e => hfb (by rw [hg']; exact e)), hs, hlt, fun g hg' => .inr hg'⟩
    · intro g hpg hfg
      have hgl := (h.low g ((h.file p hp).inS g hpg)).2
      rcases hloc with hloc | hloc
      · rw [hloc] at hfg
        cases hfk : fget fs k with
        | none => rw [hfk] at hfg; cases hfg
        | some f0 =>
          rw [hfk] at hfg
          exact h.apart p hp _ (mem_fget hfk) hne g hpg hfg
      · have := hloc g hfg; omega
  · refine (Fr.of_grown hg fun g he => hold.inS g he).trans (S' := S) (Fr.of_turned ht hSb) (Wider.refl _ _)
  · intro i hi
    rcases hi with hi | hi
    · exact .inl hi
    · rcases hloc with hloc | hloc
      · rw [hloc] at hi; exact .inl (hold.inS i hi)
      · exact .inr (hloc i hi)
end
end Go.Proofs.YtlakkhhibdcjaaaGreatDoor

namespace Go.Proofs.YtlakkhhibdcjaaaGreatDoor
open Go Go.RowKit Go.Maps
set_option linter.unusedVariables false
section
variable {S : Nat → Prop} {w : World} {base sb b : Nat} {mv : Option Nat} {room left : Int} {fs : List (Int × FV)} {armed stopped : Bool}

theorem eql_map (w : World) (r : Option Nat) : (binOp .eql 59 (.map r) (.map none)).run Tryz.prog w = .ok (.bool r.isNone) w := run_eql_map_nil w _ _ _ r Tryz.underlying59

/-- An append to bytes of one's own, as one step of a region that draws. -/
theorem step_append_at {P : Program} {ops : Array Oper} {o : Oper} {a : Act} {w : World} {K : Act → World → Prop} {Q : Exit → Act → World → Prop} {E : Prop} (hg : o.guard = none) (s x : Operand) (t : TypeId)
    (ho : o.op = .call { callee := .builtin .append, args := #[s, x], argTypes := #[t, t] })
    (k : IntKind) (bytes base : Nat) (e : TypeId) (ht : P.underlying t = some (.slice e))
    (hinfo : (P.info? e).map (fun i => (i.zero, i.size, i.bytes)) = some (some (.int k 0), 1, bytes))
    (v : Value) (n : Nat) (xs : List Int) (hs : a.eval s = v) (hown : Own e k w base v n xs) (A : Option Addr) (m c : Nat) (zs : List Int) (hx : a.eval x = .slice A m c) (hr : Rd k w A m zs)
    (h63 : n + m ≤ 9223372036854775807) (hfit : (5 * (n + m) + 768) * bytes ≤ 1125899906842624) (hbase : base ≤ w.heap.size)
    (h : ∀ v' w', Own e k w' base v' (n + m) (xs ++ zs) → w.grownBy w' v.ownBlock → (v'.ownBlock = v.ownBlock ∨ ∃ g, v'.ownBlock = some g ∧ w.heap.size ≤ g) → K (a.put o.dst v') w') :
    if Region.wanted o (yielded ops a.tmps) = true then Oper.wp P o a w K Q else E := by
  have hw : Region.wanted o (yielded ops a.tmps) = true := by simp [Region.wanted, hg]
  rw [if_pos hw]
  exact wp_append_at w s x t ho k bytes base e ht hinfo v n xs hs hown A m c zs hx hr h63 hfit hbase h

/-- What lay leaves: the bytes behind those of the file. -/
def LayRes (S : Nat → Prop) (w : World) (base sb : Nat) (room : Int) (fs : List (Int × FV)) (armed : Bool) (left : Int) (stopped : Bool) (k : Int) (zs : List Nat) (s : Nat) (w' : World) : Prop :=
  ∃ S' mv' f', DiskAt w' S' base sb mv' room (fput fs k f') armed left stopped ∧ f'.zs = zs ∧ f'.safe = s ∧ Fr S w w' ∧ Wider S S' w

set_option maxRecDepth 100000 in
set_option maxHeartbeats 1000000 in
theorem lay_some (h : DiskAt w S base sb (some b) room fs armed left stopped) {k : Int} (hk : (Lit.int .i64 k).wf = true) (B : Option Addr) (m d : Nat) (ys : List Nat) (hr : Rd .u8 w B m (ints ys)) (hy : ∀ x ∈ ys, x < 256)
    {f : FV} (hf : (fget fs k).getD FV.zero = f) (hn : f.zs.length + m ≤ 200000000000000) (hlen : fs.length < 4611686018427387904) (hbase : base ≤ w.heap.size) :
    Calls Tryz.prog 48 #[.pointer (some ⟨sb, 0, none⟩), .int .i64 k, .slice B m d] w fun e w' => e = .returned (.tuple #[]) ∧ LayRes S w base sb room fs armed left stopped k (f.zs ++ ys) f.safe w' := by
  have c1 : w.cell? ⟨sb, 1, none⟩ = some (.map (some b)) := h.c1
  have c1' : ∀ o, (w.alloc o).cell? ⟨sb, 1, none⟩ = some (.map (some b)) := fun o => (h.alloc o).c1
  have q := eql_map
  have hl := h.look hk hf
  have hok := h.found k
  rw [hf] at hok
  obtain ⟨v, zs, s⟩ := f
  obtain ⟨A, c, hv, hnc, _, _, _⟩ := hok.own.form
  have ho := hok.own
  dsimp only at hl hv hnc hn ho ⊢
  subst hv
  have HO := Lib.hid ho
  have HR := Lib.hid hr
  clear hr ho
  go_enter Tryz.func48, Tryz.ntmps48
  go_wp2
  have hb0 : Below w.heap.size w (w.alloc (.cells #[.slice A zs.length c, .int .i64 (s : Int)] 79)) := (Below.refl _ _).alloc (Nat.le_refl _) _
  have hzA : (w.alloc (.cells #[.slice A zs.length c, .int .i64 (s : Int)] 79)).heap.size = w.heap.size + 1 := by simp
  have hA0 : (w.alloc (.cells #[.slice A zs.length c, .int .i64 (s : Int)] 79)).cell? ⟨w.heap.size, 0, none⟩ = some (.slice A zs.length c) := by simp
  have hA1 : (w.alloc (.cells #[.slice A zs.length c, .int .i64 (s : Int)] 79)).cell? ⟨w.heap.size, 1, none⟩ = some (.int .i64 (s : Int)) := by simp
  generalize (w.alloc (.cells #[.slice A zs.length c, .int .i64 (s : Int)] 79)) = wA at *
  have HB0 := Lib.hid hb0
  have HZA := Lib.hid hzA
  have HD := Lib.hid (h.below hb0)
  have hcA : wA.cell? ⟨sb, 1, none⟩ = some (.map (some b)) := HD.out.c1
  have HF := Lib.hid hf
  have HR1 := Lib.hid (HR.out.below hb0)
  have HO1 := Lib.hid (HO.out.below hb0)
  have hne : (Value.slice A zs.length c).ownBlock ≠ some w.heap.size := fun e => by
    have := (World.ownsRow.lt HO.out _ e).2
    omega
  have hnsb : (Value.slice A zs.length c).ownBlock ≠ some sb := hok.ne_sb h
  obtain ⟨b', e, hob, hSb⟩ : ∃ b', some b = some b' ∧ OwnsM wA b' fs.length fs ∧ S b' := by
    rcases HD.out.map with ⟨h0, _⟩ | h0
    · cases h0
    · exact h0
  injection e with e
  subst e
  have hnb : (Value.slice A zs.length c).ownBlock ≠ some b := hok.ne_map (fs := fs) (n := fs.length) (by
    rcases h.map with ⟨h0, _⟩ | ⟨b', e, h0, _⟩
    · cases h0
    · injection e with e; subst e; exact h0)
  have HOK := Lib.hid hok
  have HOB := Lib.hid hob
  clear h hok hl hb0 hzA hf c1 c1' q hob
  go_region_law (refine step_append_at rfl (.tmp 28) (.tmp 29) 34 rfl .u8 1 base 5 Tryz.underlying34 info_byte (.slice A zs.length c) zs.length (ints zs) (by simp [Act.eval]) HO1.out.drew B m d _ (by simp [Act.eval]) HR1.out.drew (by omega) (by omega) (by have := HZA.out; simp; omega) ?_; intro v' w1 ho' hg1 hloc
                 have hw0 : w1.cell? ⟨w.heap.size, 0, none⟩ = some (.slice A zs.length c) := hg1.cell hA0 (fun e => hne e.symm)
                 have hw1 : w1.cell? ⟨w.heap.size, 1, none⟩ = some (.int .i64 (s : Int)) := hg1.cell hA1 (fun e => hne e.symm)
                 have hw2 : w1.cell? ⟨sb, 1, none⟩ = some (.map (some b)) := hg1.cell hcA (fun e => hnsb e.symm)
                 obtain ⟨A', c', rfl, _⟩ := ho'.form
                 have hob1 : OwnsM w1 b fs.length fs := OwnsM.same HOB.out (hg1.block b HOB.out.lt (fun e => hnb e.symm))
                 obtain ⟨w2, hst, hown2, hturn⟩ := OwnsM.store hob1 hlen hk ⟨.slice A' (zs.length + m) c', zs ++ ys, s⟩
                 dsimp only at hst
                 have HO' := Lib.hid ho'
                 have HG1 := Lib.hid hg1
                 have HL := Lib.hid hloc
                 have HOB1 := Lib.hid hob1
                 have HW2 := Lib.hid hown2
                 have HT := Lib.hid hturn
                 clear ho' hg1 hloc hob1 hown2 hturn)
  all_goals
    go_wp2
    go_end0
    refine ⟨rfl, ?_⟩
    have hyl : ys.length = m := by have := HR.out.1; rwa [ints_length] at this
    have hown : Own 5 .u8 w1 base (.slice A' (zs.length + m) c') (zs ++ ys).length (ints (zs ++ ys)) := by rw [List.length_append, hyl, ints_append]; exact HO'.out
    obtain ⟨S', hd', hfr, hwd⟩ := HD.out.drew.stored (k := k) (f := ⟨.slice A' (zs.length + m) c', zs ++ ys, s⟩) HOB1.out (by rw [HF.out]; exact HG1.out) hown (by have := HOK.out.safe; simp only [List.length_append] at *; omega)
      (fun x hx => (List.mem_append.1 hx).elim (HOK.out.lt x) (hy x)) (by
        rw [HF.out]
        rcases HL.out with hl | ⟨g, hl, hg⟩
        · exact .inl hl
        · exact .inr fun g' hg' => by rw [hl] at hg'; injection hg' with hg'; omega) HW2.out hSb HT.out (by have e : wA.drew.heap.size = wA.heap.size := rfl; have := HZA.out; omega)
    have hfr' : Fr S wA w2 := ⟨hfr.os, hfr.tape, hfr.output, hfr.size, hfr.block⟩
    exact ⟨S', some b, _, hd', rfl, rfl, (Fr.of_below HB0.out).trans hfr' (Wider.refl _ _), fun i hi => (hwd i hi).imp id (fun h => by have e : wA.drew.heap.size = wA.heap.size := rfl; have := HZA.out; omega)⟩
end
end Go.Proofs.YtlakkhhibdcjaaaGreatDoor

namespace Go.Proofs.YtlakkhhibdcjaaaGreatDoor
open Go Go.RowKit Go.Maps
set_option linter.unusedVariables false
section
variable {S : Nat → Prop} {w : World} {base sb b : Nat} {mv : Option Nat} {room left : Int} {fs : List (Int × FV)} {armed stopped : Bool}

/-- The disk's struct with a new map. -/
theorem disk_mapped (h : DiskAt w S base sb none room fs armed left stopped) :
    DiskAt ((w.setCell ⟨sb, 1, none⟩ (.map (some w.heap.size))).alloc (.map #[] 0)) (fun i => S i ∨ i = w.heap.size) base sb (some w.heap.size) room [] armed left stopped ∧
      Fr S w ((w.setCell ⟨sb, 1, none⟩ (.map (some w.heap.size))).alloc (.map #[] 0)) := by
  have hz : (w.setCell ⟨sb, 1, none⟩ (.map (some w.heap.size))).heap.size = w.heap.size := by simp [World.setCell]
  have hlt := h.lt
  refine ⟨⟨?_, .inr ⟨_, rfl, ?_, .inr rfl⟩, .nil, fun _ h => by simp at h, fun _ h => by simp at h, .inl h.inS, fun i hi => ?_⟩, ⟨rfl, rfl, rfl, ?_, fun i hi hn => ?_⟩⟩
  · rw [Below.heap_alloc _ _ _ (by rw [hz]; exact hlt)]
    simp [World.setCell, Array.getElem?_modify, h.blk]
  · have := World.ownsMap_made (w.setCell ⟨sb, 1, none⟩ (.map (some w.heap.size))) Tryz.prog 3 heldE
    rw [hz] at this
    exact this
  · have := h.low sb h.inS
    rcases hi with hi | hi
    · have := h.low i hi
      simp [hz]; omega
    · subst hi
      simp [hz]; omega
  · simp [hz]
  · rw [Below.heap_alloc _ _ _ (by rw [hz]; exact hi)]
    exact Below.heap_setCell _ _ _ _ (fun e => hn (by simp only at e; rw [e]; exact h.inS))

/-- Bytes that come in are none of the struct's cells. -/
theorem DiskAt.ne_u8 (h : DiskAt w S base sb mv room fs armed left stopped) {p : Addr} {x : Int} (hp : w.cell? p = some (.int .u8 x)) : p.block ≠ sb := fun e => by
  simp only [World.cell?, e, h.blk] at hp
  split at hp
  · cases hp
  · rcases ho : p.off with _ | _ | _ | _ | _ | n <;> simp [ho] at hp
theorem Rd.mapped (h : DiskAt w S base sb mv room fs armed left stopped) {B : Option Addr} {m : Nat} {zs : List Int} (hr : Rd .u8 w B m zs) (u : Value) (o : Obj) : Rd .u8 ((w.setCell ⟨sb, 1, none⟩ u).alloc o) B m zs := by
  refine Rd.alloc ⟨hr.1, fun hm => ?_⟩ o
  obtain ⟨ad, e, hc⟩ := hr.2 hm
  refine ⟨ad, e, fun j hj => ?_⟩
  have := hc j hj
  rw [World.cell?_of_block (w := w) (Below.heap_setCell _ _ _ _ (h.ne_u8 this))]
  exact this

set_option maxRecDepth 100000 in
set_option maxHeartbeats 1000000 in
theorem lay_none (h : DiskAt w S base sb none room fs armed left stopped) {k : Int} (hk : (Lit.int .i64 k).wf = true) (B : Option Addr) (m d : Nat) (ys : List Nat) (hr : Rd .u8 w B m (ints ys)) (hy : ∀ x ∈ ys, x < 256)
    (hn : m ≤ 200000000000000) (hbase : base ≤ w.heap.size) :
    Calls Tryz.prog 48 #[.pointer (some ⟨sb, 0, none⟩), .int .i64 k, .slice B m d] w fun e w' => e = .returned (.tuple #[]) ∧ LayRes S w base sb room [] armed left stopped k ys 0 w' := by
  have hfs : fs = [] := by
    rcases h.map with ⟨_, h0⟩ | ⟨b, h0, _⟩
    · exact h0
    · cases h0
  subst hfs
  have c1 : w.cell? ⟨sb, 1, none⟩ = some (.map none) := h.c1
  have cf := h.fz 1
  have hsl := h.lt
  have q := eql_map
  have hmk := @run_makeMap Tryz.prog
  obtain ⟨hD1, hFr⟩ := disk_mapped h
  have hR1 := hr.mapped h (.map (some w.heap.size)) (.map #[] 0)
  have c1' := hD1.c1
  have hl := hD1.look hk (f := FV.zero) rfl
  simp only [FV.zero] at hl
  have HD1 := Lib.hid hD1
  have HFR := Lib.hid hFr
  have HR := Lib.hid hR1
  clear hr hR1 hD1 hFr h
  go_enter Tryz.func48, Tryz.ntmps48
  go_wp2
  have hb0 : Below ((w.setCell ⟨sb, 1, none⟩ (.map (some w.heap.size))).alloc (.map #[] 0)).heap.size ((w.setCell ⟨sb, 1, none⟩ (.map (some w.heap.size))).alloc (.map #[] 0)) (((w.setCell ⟨sb, 1, none⟩ (.map (some w.heap.size))).alloc (.map #[] 0)).alloc (.cells #[.slice none 0 0, .int .i64 0] 79)) := (Below.refl _ _).alloc (Nat.le_refl _) _
  have hz1 : ((w.setCell ⟨sb, 1, none⟩ (.map (some w.heap.size))).alloc (.map #[] 0)).heap.size = w.heap.size + 1 := by simp
  have hzA : (((w.setCell ⟨sb, 1, none⟩ (.map (some w.heap.size))).alloc (.map #[] 0)).alloc (.cells #[.slice none 0 0, .int .i64 0] 79)).heap.size = w.heap.size + 2 := by simp
  have hA0 : (((w.setCell ⟨sb, 1, none⟩ (.map (some w.heap.size))).alloc (.map #[] 0)).alloc (.cells #[.slice none 0 0, .int .i64 0] 79)).cell? ⟨w.heap.size + 1, 0, none⟩ = some (.slice none 0 0) := by
    have := heap_alloc_new ((w.setCell ⟨sb, 1, none⟩ (.map (some w.heap.size))).alloc (.map #[] 0)) (.cells #[.slice none 0 0, .int .i64 0] 79)
    rw [hz1] at this
    simp only [World.cell?, this]; rfl
  have hA1 : (((w.setCell ⟨sb, 1, none⟩ (.map (some w.heap.size))).alloc (.map #[] 0)).alloc (.cells #[.slice none 0 0, .int .i64 0] 79)).cell? ⟨w.heap.size + 1, 1, none⟩ = some (.int .i64 0) := by
    have := heap_alloc_new ((w.setCell ⟨sb, 1, none⟩ (.map (some w.heap.size))).alloc (.map #[] 0)) (.cells #[.slice none 0 0, .int .i64 0] 79)
    rw [hz1] at this
    simp only [World.cell?, this]; rfl
  generalize (((w.setCell ⟨sb, 1, none⟩ (.map (some w.heap.size))).alloc (.map #[] 0)).alloc (.cells #[.slice none 0 0, .int .i64 0] 79)) = wA at *
  generalize ((w.setCell ⟨sb, 1, none⟩ (.map (some w.heap.size))).alloc (.map #[] 0)) = W1 at *
  have HB0 := Lib.hid hb0
  have HZ1 := Lib.hid hz1
  have HZA := Lib.hid hzA
  have HD := Lib.hid (HD1.out.below hb0)
  have hcA : wA.cell? ⟨sb, 1, none⟩ = some (.map (some w.heap.size)) := HD.out.c1
  have HR1 := Lib.hid (HR.out.below hb0)
  obtain ⟨b', e, hob, hSb⟩ : ∃ b', some w.heap.size = some b' ∧ OwnsM wA b' 0 [] ∧ (S b' ∨ b' = w.heap.size) := by
    rcases HD.out.map with ⟨h0, _⟩ | h0
    · cases h0
    · exact h0
  injection e with e
  subst e
  have HOB := Lib.hid hob
  clear hl hb0 hzA hz1 c1 c1' q hob cf hmk
  go_region_law (
                 refine step_append_at rfl (.tmp 28) (.tmp 29) 34 rfl .u8 1 base 5 Tryz.underlying34 info_byte (.slice none 0 0) 0 [] (by simp [Act.eval]) Own.nil B m d _ (by simp [Act.eval]) HR1.out.drew (by omega) (by omega) (by have := HZA.out; simp; omega) ?_; intro v' w1 ho' hg1 hloc
                 have hw0 : w1.cell? ⟨w.heap.size + 1, 0, none⟩ = some (.slice none 0 0) := hg1.cell hA0 (fun e => by cases e)
                 have hw1 : w1.cell? ⟨w.heap.size + 1, 1, none⟩ = some (.int .i64 0) := hg1.cell hA1 (fun e => by cases e)
                 have hw2 : w1.cell? ⟨sb, 1, none⟩ = some (.map (some w.heap.size)) := hg1.cell hcA (fun e => by cases e)
                 rw [Nat.zero_add, List.nil_append] at ho'
                 obtain ⟨A', c', rfl, _⟩ := ho'.form
                 have hob1 : OwnsM w1 w.heap.size 0 [] := OwnsM.same HOB.out (hg1.block w.heap.size HOB.out.lt (fun e => by cases e))
                 obtain ⟨w2, hst, hown2, hturn⟩ := OwnsM.store (fs := []) hob1 (by simp) hk ⟨.slice A' m c', ys, 0⟩
                 dsimp only at hst
                 rw [show ((0 : Nat) : Int) = 0 from rfl] at hst
                 have HO' := Lib.hid ho'
                 have HG1 := Lib.hid hg1
                 have HL := Lib.hid hloc
                 have HOB1 := Lib.hid hob1
                 have HW2 := Lib.hid hown2
                 have HT := Lib.hid hturn
                 clear ho' hg1 hloc hob1 hown2 hturn)
  all_goals
    go_wp2
    go_end0
    refine ⟨rfl, ?_⟩
    have hyl : ys.length = m := by have := HR.out.1; rwa [ints_length] at this
    have hown : Own 5 .u8 w1 base (.slice A' m c') ys.length (ints ys) := by rw [hyl]; exact HO'.out
    obtain ⟨S', hd', hfr, hwd⟩ := HD.out.drew.stored (k := k) (f := ⟨.slice A' m c', ys, 0⟩) HOB1.out HG1.out hown (Nat.zero_le _) hy (by
        rcases HL.out with hl | ⟨g, hl, hg⟩
        · exact .inl hl
        · exact .inr fun g' hg' => by rw [hl] at hg'; injection hg' with hg'; omega) HW2.out (.inr rfl) HT.out (by have e : wA.drew.heap.size = wA.heap.size := rfl; have := HZA.out; omega)
    have hfr' : Fr (fun i => S i ∨ i = w.heap.size) wA w2 := ⟨hfr.os, hfr.tape, hfr.output, hfr.size, hfr.block⟩
    have hfr2 : Fr (fun i => S i ∨ i = w.heap.size) W1 w2 := (Fr.of_below HB0.out).trans hfr' (Wider.refl _ _)
    refine ⟨S', some w.heap.size, _, hd', rfl, rfl, HFR.out.trans hfr2 (fun i hi => hi.imp id (fun h => by omega)), fun i hi => ?_⟩
    have e : wA.drew.heap.size = wA.heap.size := rfl
    have := HZA.out
    rcases hwd i hi with (h | h) | h
    · exact .inl h
    · exact .inr (by omega)
    · exact .inr (by omega)
end
end Go.Proofs.YtlakkhhibdcjaaaGreatDoor

namespace Go.Proofs.YtlakkhhibdcjaaaGreatDoor
open Go Go.RowKit Go.Maps
set_option linter.unusedVariables false
section
variable {S : Nat → Prop} {w : World} {base sb b : Nat} {mv : Option Nat} {room left : Int} {fs : List (Int × FV)}

theorem lay_any (h : DiskAt w S base sb mv room fs false left false) {k : Int} (hk : (Lit.int .i64 k).wf = true) (B : Option Addr) (m d : Nat) (ys : List Nat) (hr : Rd .u8 w B m (ints ys)) (hy : ∀ x ∈ ys, x < 256)
    {f : FV} (hf : (fget fs k).getD FV.zero = f) (hn : f.zs.length + m ≤ 200000000000000) (hlen : fs.length < 4611686018427387904) (hbase : base ≤ w.heap.size) :
    Calls Tryz.prog 48 #[.pointer (some ⟨sb, 0, none⟩), .int .i64 k, .slice B m d] w fun e w' => e = .returned (.tuple #[]) ∧ LayRes S w base sb room fs false left false k (f.zs ++ ys) f.safe w' := by
  cases mv with
  | none =>
    have hfs : fs = [] := by
      rcases h.map with ⟨_, h0⟩ | ⟨b, h0, _⟩
      · exact h0
      · cases h0
    subst hfs
    have hz : f = FV.zero := hf.symm
    subst hz
    exact lay_none h hk B m d ys hr hy (by omega) hbase
  | some b => exact lay_some h hk B m d ys hr hy hf hn hlen hbase

/-- The disk behind w, whatever was made since. -/
theorem used_after (h : DiskAt w S base sb mv room fs false left false) (ht : total fs ≤ 4611686018427387904) (p : After w) :
    Calls Tryz.prog 21 #[.pointer (some ⟨sb, 0, none⟩)] p.world fun e w'' => e = .returned (.int .i64 (total fs : Int)) ∧ ∃ q : After w, w'' = q.world :=
  after_call p (used_any (h.below p.below) ht)

def AppendRes (S : Nat → Prop) (w : World) (base sb : Nat) (room : Int) (fs : List (Int × FV)) (left : Int) (k : Int) (zs : List Nat) (s : Nat) (e : Ending) (w' : World) : Prop :=
  e = .returned .nilIface ∧ LayRes S w base sb room fs false left false k zs s w'

set_option maxRecDepth 100000 in
set_option maxHeartbeats 1000000 in
theorem append_fits (h : DiskAt w S base sb mv room fs false left false) {k : Int} (hk : (Lit.int .i64 k).wf = true) (B : Option Addr) (m d : Nat) (ys : List Nat) (hr : Rd .u8 w B m (ints ys)) (hy : ∀ x ∈ ys, x < 256)
    {f : FV} (hf : (fget fs k).getD FV.zero = f) (hroom : room ≤ 262144) (hfit : (total fs : Int) + m ≤ room) (hlen : fs.length < 4611686018427387904) (hbase : base ≤ w.heap.size) :
    Calls Tryz.prog 24 #[.pointer (some ⟨sb, 0, none⟩), .int .i64 k, .slice B m d] w (AppendRes S w base sb room fs left k (f.zs ++ ys) f.safe) := by
  have hfl : f.zs.length ≤ 262144 := by
    cases hfk : fget fs k with
    | none => rw [hfk] at hf; rw [← hf]; simp [FV.zero]
    | some f0 => rw [hfk] at hf; have := total_le (mem_fget hfk); rw [show f = f0 from hf.symm]; simp only at this; omega
  have c4 := h.c4
  have c0 : ∀ p : After w, p.world.cell? ⟨sb, 0, none⟩ = some (.int .i64 room) := fun p => (h.below p.below).c0
  have hu := used_after h (by omega)
  obtain ⟨u, hue⟩ : ∃ u : Int, u = room - (total fs : Int) := ⟨_, rfl⟩
  have hle : ¬ u < (m : Int) := by omega
  have hu0 : 0 ≤ u := by omega
  have hu1 : u ≤ 262144 := by omega
  obtain ⟨t, hte⟩ : ∃ t : Nat, t = total fs := ⟨_, rfl⟩
  rw [← hte] at hu hue
  have hue' : room - (t : Int) = u := hue.symm
  have HD := Lib.hid h
  have HR := Lib.hid hr
  clear h hr hfit hte hue
  go_enter Tryz.func24, Tryz.ntmps24
  go_wp2
  refine wp_region_after (by kernel_rfl) (by kernel_rfl) ?_
  repeat (go_big_quiet_step ((go_at_call 21; exact hu _)))
  refine wpQuiet_nil ?_
  intro _ hw'
  obtain ⟨p, rfl⟩ := hw'
  have c2 := (HD.out.below p.below).c2
  have hz := p.below.size
  go_wp2_with fail
  refine (change_calm sb _ c2).mono ?_
  rintro e w1 ⟨rfl, rfl⟩
  go_wp2_with fail
  refine (lay_any (HD.out.below p.below) hk B m d ys (HR.out.below p.below) hy hf (by omega) hlen (by omega)).mono ?_
  rintro e w2 ⟨rfl, S', mv', f', hd', e1, e2, hfr, hwd⟩
  go_wp2
  go_ret
  exact ⟨rfl, S', mv', f', hd', e1, e2, (Fr.of_below p.below).trans hfr (Wider.refl _ _), fun i hi => (hwd i hi).imp id (fun h => by omega)⟩

set_option maxRecDepth 100000 in
set_option maxHeartbeats 1000000 in
theorem append_full (h : DiskAt w S base sb mv room fs false left false) (k : Int) (B : Option Addr) (m d : Nat)
    (hroom : 0 ≤ room ∧ room ≤ 262144) (ht : (total fs : Int) ≤ room) (hm : m ≤ 9223372036854775807) (hfit : room < (total fs : Int) + m) :
    Calls Tryz.prog 24 #[.pointer (some ⟨sb, 0, none⟩), .int .i64 k, .slice B m d] w fun e w' => e = .returned (.iface 39 (.int .i64 8)) ∧ Below w.heap.size w w' := by
  have c4 := h.c4
  have c0 : ∀ p : After w, p.world.cell? ⟨sb, 0, none⟩ = some (.int .i64 room) := fun p => (h.below p.below).c0
  have hu := used_after h (by omega)
  obtain ⟨u, hue⟩ : ∃ u : Int, u = room - (total fs : Int) := ⟨_, rfl⟩
  have hle : u < (m : Int) := by omega
  have hu0 : 0 ≤ u := by omega
  have hu1 : u ≤ 262144 := by omega
  obtain ⟨t, hte⟩ : ∃ t : Nat, t = total fs := ⟨_, rfl⟩
  rw [← hte] at hu hue
  have hue' : room - (t : Int) = u := hue.symm
  clear h hfit hte hue ht
  go_enter Tryz.func24, Tryz.ntmps24
  go_wp2
  refine wp_region_after (by kernel_rfl) (by kernel_rfl) ?_
  repeat (go_big_quiet_step ((go_at_call 21; exact hu _)))
  refine wpQuiet_nil ?_
  intro _ hw'
  obtain ⟨p, rfl⟩ := hw'
  have HB := Lib.hid p.below
  go_wp2
  go_ret
  exact ⟨rfl, HB.out⟩
end
end Go.Proofs.YtlakkhhibdcjaaaGreatDoor

namespace Go.Proofs.YtlakkhhibdcjaaaGreatDoor
open Go Go.RowKit Go.Maps
set_option linter.unusedVariables false
section
variable {S : Nat → Prop} {w : World} {base sb b : Nat} {mv : Option Nat} {room left : Int} {fs : List (Int × FV)}

theorem DiskAt.mapped {armed stopped : Bool} (h : DiskAt w S base sb mv room fs armed left stopped) {k : Int} {f : FV} (hf : fget fs k = some f) : ∃ b, mv = some b ∧ OwnsM w b fs.length fs ∧ S b := by
  rcases h.map with ⟨_, h0⟩ | h0
  · subst h0; cases hf
  · exact h0

set_option maxRecDepth 100000 in
set_option maxHeartbeats 1000000 in
theorem sync_yes (h : DiskAt w S base sb mv room fs false left false) {k : Int} (hk : (Lit.int .i64 k).wf = true) {f : FV} (hf : fget fs k = some f) (hlen : fs.length < 4611686018427387904) (hbase : base ≤ w.heap.size) :
    Calls Tryz.prog 55 #[.pointer (some ⟨sb, 0, none⟩), .int .i64 k] w (AppendRes S w base sb room fs left k f.zs f.zs.length) := by
  have hok := h.found k
  rw [hf] at hok
  simp only [Option.getD_some] at hok
  obtain ⟨v, zs, s⟩ := f
  obtain ⟨A, c, hv, hnc, _, _, _⟩ := hok.own.form
  dsimp only at hv hnc ⊢
  subst hv
  obtain ⟨b, rfl, hob, hSb⟩ := h.mapped hf
  have HD := Lib.hid h
  have HF := Lib.hid hf
  have HOK := Lib.hid hok
  have HOB := Lib.hid hob
  clear h hok hob
  go_enter Tryz.func55, Tryz.ntmps55
  go_wp2_with fail
  refine (find_yes HD.out hk hf).mono ?_
  rintro e w1 ⟨rfl, hb1⟩
  have HB1 := Lib.hid hb1
  have hz1 := hb1.size
  clear hb1 hf
  have c2 : ∀ o, (w1.alloc o).cell? ⟨sb, 2, none⟩ = some (.bool false) := fun o => ((HD.out.below HB1.out).alloc o).c2
  have c1 : ∀ o, (w1.alloc o).cell? ⟨sb, 1, none⟩ = some (.map (some b)) := fun o => ((HD.out.below HB1.out).alloc o).c1
  go_wp2_with fail
  refine (change_calm sb _ (c2 _)).mono ?_
  rintro e w2 ⟨rfl, rfl⟩
  have hob2 : OwnsM ((w1.alloc (.cells #[.slice A zs.length c, .int .i64 (s : Int)] 79)).drew) b fs.length fs := OwnsM.same HOB.out (((HB1.out.trans (((Below.refl _ _).alloc (Nat.le_refl _) _).mono hz1)).drew).block b HOB.out.lt)
  obtain ⟨w2, hst, hown2, hturn⟩ := OwnsM.store hob2 hlen hk ⟨.slice A zs.length c, zs, zs.length⟩
  dsimp only at hst
  have HOB2 := Lib.hid hob2
  have HW2 := Lib.hid hown2
  have HT := Lib.hid hturn
  clear hob2 hown2 hturn
  go_wp2
  go_region
  all_goals
    go_wp2
    go_ret
    refine ⟨rfl, ?_⟩
    have hdA := ((HD.out.below HB1.out).alloc (.cells #[.slice A zs.length c, .int .i64 (s : Int)] 79)).drew
    have hbA : Below w.heap.size w ((w1.alloc (.cells #[.slice A zs.length c, .int .i64 (s : Int)] 79)).drew) := (HB1.out.trans (((Below.refl _ _).alloc (Nat.le_refl _) _).mono hz1)).drew
    have hzA := hbA.size
    obtain ⟨S', hd', hfr, hwd⟩ := hdA.stored (k := k) (f := ⟨.slice A zs.length c, zs, zs.length⟩) HOB2.out (World.grownBy.refl _ _) (HOK.out.own.below hbA) (Nat.le_refl _) HOK.out.lt (.inl (by rw [HF.out]; rfl)) HW2.out hSb HT.out (by omega)
    exact ⟨S', some b, _, hd', rfl, rfl, (Fr.of_below hbA).trans hfr (Wider.refl _ _), fun i hi => (hwd i hi).imp id (fun h => by omega)⟩
end
end Go.Proofs.YtlakkhhibdcjaaaGreatDoor
