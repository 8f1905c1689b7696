/-
  The answers of legs as they lie in memory; the next one; a saga that goes on by them.
-/
import Derived.Test.YteifgmdaggiaaaaGreatDoorQFlags
import Derived.Test.YteifgmdaggiaaaaGreatDoorQBankSt
import Derived.Test.YteifgmdaggiaaaaGreatDoorQBankPlain
import Derived.Test.YteifgmdaggiaaaaGreatDoorQGrN
import Derived.Test.YteifgmdaggiaaaaGreatDoorQGrE
import Derived.Test.YteifgmdaggiaaaaGreatDoorQGrA
import Derived.Deep.RegionHeld3
import Derived.Deep.CutRange
import Derived.Deep.QuietTactic
import Derived.LoopTactic
import Derived.IntWalk
import Derived.WalkSpells
namespace Go.Proofs.YteifgmdaggiaaaaGreatDoor
open Go Go.RowKit
set_option linter.unusedVariables false
/-- The answers lie in the block g; so many are used. -/
structure AnsAt (w : World) (g : Nat) (la : Option Addr) (ln lc : Nat) (ls : List Bool) (u : Nat) : Prop where
 blk : Blk w g 109 #[.slice la ln lc, .int .i64 (u : Int)]
 rd : RdS flags w la ls
 len : ls.length = ln
 us : u ≤ ln
theorem flags_far {w w' : World} {A : Option Addr} {ls : List Bool} {g : Nat} {t : TypeId} {vs : Array Value} (h : RdS flags w A ls) (hg : Blk w g t vs) (hv : ∀ (i : Nat) (b : Bool), vs[i]? ≠ some (.bool b)) (hk : ∀ k, k ≠ g → w'.heap[k]? = w.heap[k]?) : RdS flags w' A ls := fun hn => by
 obtain ⟨ad, he, hc⟩ := h hn
 obtain ⟨a, ha⟩ : ∃ a, ls[0]? = some a := ⟨_, List.getElem?_eq_getElem hn⟩
 have h0 := flag_cell (hc 0 a ha)
 have hne : ad.block ≠ g := fun e => hv _ _ (cell_in hg (by rw [add_block]; exact e) h0)
 have hb : ∀ i, w'.cell? (ad.add i) = w.cell? (ad.add i) := fun i => World.cell?_of_block (hk _ (by rw [add_block]; exact hne))
 exact ⟨ad, he, fun j b hj i u hu => by rw [hb]; exact hc j b hj i u hu⟩
theorem ans_no_bool (la : Option Addr) (ln lc : Nat) (u : Int) (i : Nat) (b : Bool) : (#[Value.slice la ln lc, .int .i64 u] : Array Value)[i]? ≠ some (.bool b) := by
 match i with
 | 0 => simp
 | 1 => simp
 | k + 2 => simp
section
variable {w w' : World} {g : Nat} {la : Option Addr} {ln lc : Nat} {ls : List Bool} {u : Nat}
theorem AnsAt.below (h : AnsAt w g la ln lc ls u) (hb : Below w.heap.size w w') : AnsAt w' g la ln lc ls u := ⟨h.blk.later hb, h.rd.below hb, h.len, h.us⟩
theorem AnsAt.drewN (h : AnsAt w g la ln lc ls u) (m : Nat) : AnsAt (w.drewN m) g la ln lc ls u := ⟨h.blk.drewN m, h.rd.drewN m, h.len, h.us⟩
theorem AnsAt.used (h : AnsAt w g la ln lc ls u) (hu : u < ln) : AnsAt (w.setCell ⟨g, 1, none⟩ (.int .i64 ((u : Int) + 1))) g la ln lc ls (u + 1) :=
 ⟨by rw [Int.natCast_add]; exact h.blk.set 1 _, flags_far h.rd h.blk (ans_no_bool la ln lc _) (fun k hk => Below.heap_setCell _ _ _ _ hk), h.len, hu⟩
theorem AnsAt.sk {V : Sv} {T : St} {sl : List Sg} {kl : List Kn} (h : AnsAt w g la ln lc ls u) (hs : SkAt w V T sl kl) (hk : ∀ k, k ≠ g → w'.heap[k]? = w.heap[k]?) : SkAt w' V T sl kl := hs.far h.blk (thin_an la ln lc _) hk
end
end Go.Proofs.YteifgmdaggiaaaaGreatDoor
