/-
  What stays where only the answers' block is turned; undo by its contract.
-/
import Derived.Test.YteifgmdaggiaaaaGreatDoorQBankAns
import Derived.Test.YteifgmdaggiaaaaGreatDoorQBankRsv
import Derived.Test.YteifgmdaggiaaaaGreatDoorQGrD
namespace Go.Proofs.YteifgmdaggiaaaaGreatDoor
open Go Go.RowKit
set_option linter.unusedVariables false
theorem cell_lt {w : World} {ad : Addr} {v : Value} (h : w.cell? ad = some v) : ad.block < w.heap.size := by
 refine Decidable.byContradiction fun hn => ?_
 have hx : w.heap[ad.block]? = none := Array.getElem?_eq_none (by omega)
 simp [World.cell?, hx] at h
section
variable {w w' : World} {g : Nat} {t : TypeId} {vs : Array Value}
theorem RdA.on {A : Option Addr} {zs : List Ac} (h : RdA w A zs) (hg : Blk w g t vs) (hv : Thin vs) (ho : On (fun k => k < w.heap.size ∧ k ≠ g) w w') : RdA w' A zs := fun hn => by
 obtain ⟨ad, he, hc⟩ := h hn
 obtain ⟨a, ha⟩ : ∃ a, zs[0]? = some a := ⟨_, List.getElem?_eq_getElem hn⟩
 have h0 := hc 0 a ha
 have e0 : w.cell? ad = some (.int .i64 a.cur) := by have := h0.c0; rw [Nat.zero_mul] at this; simpa [Addr.add] using this
 have hne : ad.block ≠ g := three_ints hg hv e0 (by have := h0.c1; rw [Nat.zero_mul, Nat.zero_add] at this; exact this) (by have := h0.c2; rw [Nat.zero_mul, Nat.zero_add] at this; exact this)
 have hb : ∀ i, w'.cell? (ad.add i) = w.cell? (ad.add i) := fun i => World.cell?_of_block (ho.block _ ⟨by rw [add_block]; exact cell_lt e0, by rw [add_block]; exact hne⟩)
 exact ⟨ad, he, fun j b hj => ⟨by rw [hb]; exact (hc j b hj).c0, by rw [hb]; exact (hc j b hj).c1, by rw [hb]; exact (hc j b hj).c2⟩⟩
theorem RdS.on {α : Type} {S : Shape α} {A : Option Addr} {zs : List α} (h : RdS S w A zs) (hf : ∀ a : α, ∃ x y z, (S.cells a)[0]? = some (.int .i64 x) ∧ (S.cells a)[1]? = some (.int .i64 y) ∧ (S.cells a)[2]? = some (.int .i64 z)) (hg : Blk w g t vs) (hv : Thin vs) (ho : On (fun k => k < w.heap.size ∧ k ≠ g) w w') : RdS S w' A zs := fun hn => by
 obtain ⟨ad, he, hc⟩ := h hn
 obtain ⟨a, ha⟩ : ∃ a, zs[0]? = some a := ⟨_, List.getElem?_eq_getElem hn⟩
 have h0 := hc 0 a ha
 obtain ⟨x, y, z, f0, f1, f2⟩ := hf a
 have e0 : w.cell? ad = some (.int .i64 x) := by have := h0 0 _ f0; rw [Nat.zero_mul] at this; simpa [Addr.add] using this
 have hne : ad.block ≠ g := three_ints hg hv e0 (by have := h0 1 _ f1; rw [Nat.zero_mul, Nat.zero_add] at this; exact this) (by have := h0 2 _ f2; rw [Nat.zero_mul, Nat.zero_add] at this; exact this)
 have hb : ∀ i, w'.cell? (ad.add i) = w.cell? (ad.add i) := fun i => World.cell?_of_block (ho.block _ ⟨by rw [add_block]; exact cell_lt e0, by rw [add_block]; exact hne⟩)
 exact ⟨ad, he, fun j b hj i u hu => by rw [hb]; exact hc j b hj i u hu⟩
theorem SkAt.on {V : Sv} {T : St} {sl : List Sg} {kl : List Kn} (h : SkAt w V T sl kl) (hg : Blk w g t vs) (hv : Thin vs) (ho : On (fun k => k < w.heap.size ∧ k ≠ g) w w') : SkAt w' V T sl kl :=
 ⟨h.n, h.q, h.xn, h.yn, h.t, h.accs.on hg hv ho, h.pays.on (fun a => ⟨_, _, _, rfl, rfl, rfl⟩) hg hv ho, h.sag.on (fun a => ⟨_, _, _, rfl, rfl, rfl⟩) hg hv ho, h.kn.on (fun a => ⟨_, _, _, rfl, rfl, rfl⟩) hg hv ho, h.sa, h.sp, h.sx, h.sy⟩
/-- What is stored into a state's block. -/
theorem st_on {F : Nat → Prop} {a : World} (h : On F a w) (hg : ¬ F g) (x0 x1 x2 x3 x4 : Value) : On F a (((((w.setCell ⟨g, 0, none⟩ x0).setCell ⟨g, 1, none⟩ x1).setCell ⟨g, 2, none⟩ x2).setCell ⟨g, 3, none⟩ x3).setCell ⟨g, 4, none⟩ x4) :=
 ((((h.setCell (p := ⟨g, 0, none⟩) hg x0).setCell (p := ⟨g, 1, none⟩) hg x1).setCell (p := ⟨g, 2, none⟩) hg x2).setCell (p := ⟨g, 3, none⟩) hg x3).setCell (p := ⟨g, 4, none⟩) hg x4
theorem rp_on {F : Nat → Prop} {a : World} (h : On F a w) (hg : ¬ F g) (x0 x1 : Value) : On F a ((w.setCell ⟨g, 0, none⟩ x0).setCell ⟨g, 1, none⟩ x1) :=
 (h.setCell (p := ⟨g, 0, none⟩) hg x0).setCell (p := ⟨g, 1, none⟩) hg x1
theorem st0_no_bool (i : Nat) (b : Bool) : (st0 : Array Value)[i]? ≠ some (.bool b) := by
 match i with
 | 0 | 1 | 2 | 3 | 4 => simp
 | k + 5 => simp
theorem AnsAt.st {ga : Nat} {la : Option Addr} {ln lc : Nat} {ls : List Bool} {u : Nat} (h : AnsAt w ga la ln lc ls u) (hg : Blk w g t st0) (hne : g ≠ ga) (x0 x1 x2 x3 x4 : Value) : AnsAt (((((w.setCell ⟨g, 0, none⟩ x0).setCell ⟨g, 1, none⟩ x1).setCell ⟨g, 2, none⟩ x2).setCell ⟨g, 3, none⟩ x3).setCell ⟨g, 4, none⟩ x4) ga la ln lc ls u :=
 ⟨st_other h.blk hne _ _ _ _ _, flags_far h.rd hg st0_no_bool (fun k hk => st_heap w g x0 x1 x2 x3 x4 k hk), h.len, h.us⟩
theorem HasErr.on {ga : Nat} {la : Option Addr} {ln lc : Nat} {ls : List Bool} {u : Nat} (h : HasErr w) (ha : AnsAt w ga la ln lc ls u) (ho : On (fun k => k < w.heap.size ∧ k ≠ ga) w w') : HasErr w' := by
 unfold HasErr at h ⊢
 have hne : (⟨0, 0, none⟩ : Addr).block ≠ ga := fun e => by
  have := cell_in ha.blk e h
  simp at this
 rw [World.cell?_of_block (ho.block _ ⟨cell_lt h, hne⟩)]
 exact h
end
end Go.Proofs.YteifgmdaggiaaaaGreatDoor
