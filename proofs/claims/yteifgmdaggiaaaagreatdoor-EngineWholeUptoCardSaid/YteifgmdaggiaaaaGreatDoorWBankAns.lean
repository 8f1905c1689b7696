/-
  The answers of legs as they lie in memory; the next one; a saga that goes on by them.
-/
import Derived.Test.YteifgmdaggiaaaaGreatDoorWFlags
import Derived.Test.YteifgmdaggiaaaaGreatDoorWBankSt
import Derived.Test.YteifgmdaggiaaaaGreatDoorWBankPlain
import Derived.Test.YteifgmdaggiaaaaGreatDoorWGrN
import Derived.Test.YteifgmdaggiaaaaGreatDoorWGrE
import Derived.Test.YteifgmdaggiaaaaGreatDoorWGrA
import Derived.Deep.RegionHeld3
import Derived.Deep.CutRange
import Derived.Deep.QuietTactic
import Derived.LoopTactic
import Derived.IntWalk
import Derived.WalkSpells
namespace Go.Proofs.YteifgmdaggiaaaaGreatDoor
open Go Go.RowKit
set_option linter.unusedVariables false
/-- The answers lie in the block g; so many are used. -/
structure AnsAt (w : World) (g : Nat) (la : Option Addr) (ln lc : Nat) (ls : List Bool) (u : Nat) : Prop where
 blk : Blk w g 109 #[.slice la ln lc, .int .i64 (u : Int)]
 rd : RdS flags w la ls
 len : ls.length = ln
 us : u ≤ ln
theorem flags_far {w w' : World} {A : Option Addr} {ls : List Bool} {g : Nat} {t : TypeId} {vs : Array Value} (h : RdS flags w A ls) (hg : Blk w g t vs) (hv : ∀ (i : Nat) (b : Bool), vs[i]? ≠ some (.bool b)) (hk : ∀ k, k ≠ g → w'.heap[k]? = w.heap[k]?) : RdS flags w' A ls := fun hn => by
 obtain ⟨ad, he, hc⟩ := h hn
 obtain ⟨a, ha⟩ : ∃ a, ls[0]? = some a := ⟨_, List.getElem?_eq_getElem hn⟩
 have h0 := flag_cell (hc 0 a ha)
 have hne : ad.block ≠ g := fun e => hv _ _ (cell_in hg (by rw [add_block]; exact e) h0)
 have hb : ∀ i, w'.cell? (ad.add i) = w.cell? (ad.add i) := fun i => World.cell?_of_block (hk _ (by rw [add_block]; exact hne))
 exact ⟨ad, he, fun j b hj i u hu => by rw [hb]; exact hc j b hj i u hu⟩
theorem ans_no_bool (la : Option Addr) (ln lc : Nat) (u : Int) (i : Nat) (b : Bool) : (#[Value.slice la ln lc, .int .i64 u] : Array Value)[i]? ≠ some (.bool b) := by
 match i with
 | 0 => simp
 | 1 => simp
 | k + 2 => simp
section
variable {w w' : World} {g : Nat} {la : Option Addr} {ln lc : Nat} {ls : List Bool} {u : Nat}
theorem AnsAt.below (h : AnsAt w g la ln lc ls u) (hb : Below w.heap.size w w') : AnsAt w' g la ln lc ls u := ⟨h.blk.later hb, h.rd.below hb, h.len, h.us⟩
theorem AnsAt.drewN (h : AnsAt w g la ln lc ls u) (m : Nat) : AnsAt (w.drewN m) g la ln lc ls u := ⟨h.blk.drewN m, h.rd.drewN m, h.len, h.us⟩
theorem AnsAt.used (h : AnsAt w g la ln lc ls u) (hu : u < ln) : AnsAt (w.setCell ⟨g, 1, none⟩ (.int .i64 ((u : Int) + 1))) g la ln lc ls (u + 1) :=
 ⟨by rw [Int.natCast_add]; exact h.blk.set 1 _, flags_far h.rd h.blk (ans_no_bool la ln lc _) (fun k hk => Below.heap_setCell _ _ _ _ hk), h.len, hu⟩
theorem AnsAt.sk {V : Sv} {T : St} {sl : List Sg} {kl : List Kn} (h : AnsAt w g la ln lc ls u) (hs : SkAt w V T sl kl) (hk : ∀ k, k ≠ g → w'.heap[k]? = w.heap[k]?) : SkAt w' V T sl kl := hs.far h.blk (thin_an la ln lc _) hk
end
/-- The method value. -/
abbrev nxV (g : Nat) : Value := .func (.func 40) #[.pointer (some ⟨g, 0, none⟩)] #[]
set_option maxRecDepth 100000 in
theorem next_any (w : World) (g : Nat) (la : Option Addr) (ln lc : Nat) (ls : List Bool) (u : Nat) (h : AnsAt w g la ln lc ls u) (hm : ln ≤ 9223372036854775806) :
  Calls Tryz.prog 40 #[.pointer (some ⟨g, 0, none⟩)] w fun e w' => e = .returned (.bool (ansB ls u)) ∧ AnsAt w' g la ln lc ls (ansN ls u) ∧ On (fun k => k ≠ g) w w' := by
 have HA := Lib.hid h
 have hlen := h.len
 have hus := h.us
 have c0 := h.blk.cell 0 rfl
 have c1 := h.blk.cell 1 rfl
 by_cases hu : (u : Int) = (ln : Int)
 · have q := eqT hu
   have e1 : ansB ls u = true := by unfold ansB; rw [if_pos (by omega)]
   have e2 : ansN ls u = u := by unfold ansN; rw [if_pos (by omega)]
   rw [e1, e2]
   clear h hu hlen hus e1 e2
   go_enter Tryz.func40, Tryz.ntmps40
   go_wp2
   go_quiet (fail)
   go_wp2
   go_ret
   exact ⟨rfl, HA.out.drewN _, (On.refl _ _).drewN _⟩
 · have q := eqF hu
   have hlt : u < ln := by omega
   obtain ⟨b, hb⟩ : ∃ b, ls[u]? = some b := ⟨_, List.getElem?_eq_getElem (by omega)⟩
   have e1 : ansB ls u = b := by unfold ansB; rw [if_neg (by omega)]; simp [List.getD, hb]
   have e2 : ansN ls u = u + 1 := by unfold ansN; rw [if_neg (by omega)]
   rw [e1, e2]
   have HU := Lib.hid (fun m => (h.drewN m).used hlt)
   have hw1 : wrap64 ((u : Int) + 1) = (u : Int) + 1 := w64 (by omega) (by omega)
   have f1 := h.blk.loose 1
   have HLT := Lib.hid hlt
   have HB := Lib.hid hb
   clear h hu e1 e2 hlt
   go_enter Tryz.func40, Tryz.ntmps40
   go_wp2
   go_quiet (fail)
   go_upto_region 4 with fail
   have HU2 := Lib.hid (HU.out nq)
   have HO2 := Lib.hid (((On.refl (fun k => k ≠ g) w).drewN nq).setCell (p := ⟨g, 1, none⟩) (fun e => e rfl) (.int .i64 ((u : Int) + 1)))
   clear c0 c1 f1 HU HA
   generalize (w.drewN nq).setCell ⟨g, 1, none⟩ (.int .i64 ((u : Int) + 1)) = w2 at HU2 HO2 ⊢
   obtain ⟨ad, rfl, hat⟩ := HU2.out.rd.at_ HB.out
   have ca := flag_cell hat
   have c0 := HU2.out.blk.cell 0 rfl
   have c1 := HU2.out.blk.cell 1 rfl
   have hi := HLT.out
   rw [Int.natCast_add] at c1
   clear hat
   go_quiet (fail)
   go_wp2
   go_ret
   exact ⟨rfl, HU2.out.drewN _, HO2.out.drewN _⟩
end Go.Proofs.YteifgmdaggiaaaaGreatDoor
