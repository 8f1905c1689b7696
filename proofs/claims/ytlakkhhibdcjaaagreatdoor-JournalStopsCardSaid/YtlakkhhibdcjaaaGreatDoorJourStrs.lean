/-
  A law's own slice of strings; a journal beside another one, and beside a slice that grows.
-/
import Derived.Test.YtlakkhhibdcjaaaGreatDoorJourB
namespace Go.Proofs.YtlakkhhibdcjaaaGreatDoor
open Go Go.RowKit Go.Maps
set_option linter.unusedVariables false

theorem info_str : (Tryz.prog.info? 9).map (fun i => (i.zero, i.size, i.bytes)) = some (some (.string ⟨#[]⟩), 1, 16) := by kernel_rfl

/-- A slice of strings that is the call's own. -/
def OwnStrs (w : World) (base : Nat) (v : Value) (qs : List (List Nat)) : Prop := w.ownsRow base 9 1 v qs.length (qs.map fun r => Value.string (strN r))

section
variable {S S' T T' : Nat → Prop} {w w' : World} {base jb jb' sb : Nat} {room : Int} {t : Nat} {b : List Nat} {rs qs : List (List Nat)} {o : Option (List (List Nat))} {v v' : Value} {r : List Nat}

theorem OwnStrs.nil : OwnStrs w base (.slice none 0 0) [] := World.ownsRow_nil w base _ 1
theorem OwnStrs.same (h : OwnStrs w base v qs) (hs : ∀ g, v.ownBlock = some g → w'.heap[g]? = w.heap[g]?) : OwnStrs w' base v qs := ownsRow_same h hs
theorem OwnStrs.lt (h : OwnStrs w base v qs) : ∀ g, v.ownBlock = some g → base ≤ g ∧ g < w.heap.size := fun g hg => World.ownsRow.lt h g hg
theorem OwnStrs.below (h : OwnStrs w base v qs) (hb : Below w.heap.size w w') : OwnStrs w' base v qs := h.same fun g hg => hb.block g (h.lt g hg).2
theorem OwnStrs.alloc (h : OwnStrs w base v qs) (ob : Obj) : OwnStrs (w.alloc ob) base v qs := h.below ((Below.refl _ _).alloc (Nat.le_refl _) _)
theorem OwnStrs.fr (h : OwnStrs w base v qs) (hf : Fr S w w') (hn : ∀ g, v.ownBlock = some g → ¬ S g) : OwnStrs w' base v qs := h.same fun g hg => hf.block g (h.lt g hg).2 (hn g hg)
theorem OwnStrs.form (h : OwnStrs w base v qs) : ∃ A cap, v = .slice A qs.length cap ∧ RdStrs w A qs := by
  have h0 := h
  rcases h.2 with ⟨rfl, h1⟩ | ⟨g, cap, cur, rfl, _⟩
  · exact ⟨none, 0, by rw [h1], fun hn => by omega⟩
  · refine ⟨some ⟨g, 0, none⟩, cap, rfl, fun _ => ⟨_, rfl, fun j r hj => ?_⟩⟩
    exact World.ownsRow.cells h0 (g := g) rfl j _ (by rw [List.getElem?_map, hj]; rfl)
theorem OwnStrs.push (h : w'.ownsRow base 9 1 v' (qs.length + 1) ((qs.map fun r => Value.string (strN r)) ++ [.string (strN r)])) : OwnStrs w' base v' (qs ++ [r]) := by
  unfold OwnStrs
  rw [List.length_append, List.map_append]
  exact h

theorem Jn.same (h : Jn w S T base jb sb room t b rs o) (hs : ∀ i, joined S T i → w'.heap[i]? = w.heap[i]?) (hz : w.heap.size ≤ w'.heap.size) : Jn w' S T base jb sb room t b rs o :=
  ⟨⟨h.jd.disk.same (fun i hi => hs i (.inl hi)) hz, h.jd.jat.same (fun i hi => hs i (.inr hi)) hz, h.jd.apt⟩, h.recs, h.zero, h.small, h.snap, h.short, h.fits, h.room_, Nat.le_trans h.base_ hz⟩
/-- Another slice grows. -/
theorem Jn.grew (h : Jn w S T base jb sb room t b rs o) (hg : Grew w w' v v') (hn : ∀ g, v.ownBlock = some g → ¬ joined S T g) : Jn w' S T base jb sb room t b rs o := by
  refine h.same (fun i hi => ?_) ?_
  · have hl := (h.jd.low i hi).2
    rcases hg with ⟨_, hg⟩ | ⟨hg, _⟩
    · exact hg.block i hl (fun e => hn i e.symm hi)
    · exact hg.block i hl (by simp)
  · rcases hg with ⟨_, hg⟩ | ⟨hg, _⟩ <;> exact hg.size
theorem Grew.out {U : Nat → Prop} (hg : Grew w w' v v') (hn : ∀ g, v.ownBlock = some g → ¬ U g) (hU : ∀ i, U i → i < w.heap.size) : ∀ g, v'.ownBlock = some g → ¬ U g := fun g he hu => by
  rcases hg with ⟨e, _⟩ | ⟨_, g', e, hge⟩
  · exact hn g (by rw [← e]; exact he) hu
  · rw [e] at he; injection he with he; subst he; have := hU _ hu; omega
/-- A journal beside one that was opened on its disk. -/
theorem Jn.beside (h : Jn w S T base jb sb room t b rs o) (hx : Jn w' S' T' base jb' sb room t b rs o) (hf : Fr S w w') (hw : Wider S S' w) : Jn w' S' T base jb sb room t b rs o :=
  ⟨⟨hx.jd.disk, h.jd.jat.fr hf h.jd.apt, h.jd.apt.wide hw fun i hi => (h.jd.jat.low i hi).2⟩, h.recs, h.zero, h.small, h.snap, h.short, h.fits, h.room_, Nat.le_trans h.base_ hf.size⟩
theorem out_wide {U U' : Nat → Prop} (hn : ∀ g, v.ownBlock = some g → ¬ U g) (hl : ∀ g, v.ownBlock = some g → g < w.heap.size) (hw : Wider U U' w) : ∀ g, v.ownBlock = some g → ¬ U' g := fun g hg hu => (hw g hu).elim (hn g hg) (fun h => by have := hl g hg; omega)
end
end Go.Proofs.YtlakkhhibdcjaaaGreatDoor
