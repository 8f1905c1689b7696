/-
  Payments whose time is over are voided one by one: it comes to a tick: plain words.
  A slice of integers that is the call's own: its cells, that none is frozen, and what a store into one leaves. Of any program.
  The first of the ints of a slice of the call's own, in the same memory; []int sliced.
  The program's Tick by its contract.
-/
import Derived.Test.YteifgmdaggiaaaaGreatDoorWGrE
import Derived.Test.YteifgmdaggiaaaaGreatDoorWGrB
import Derived.Test.YteifgmdaggiaaaaGreatDoorWGrA
import Derived.Test.YteifgmdaggiaaaaGreatDoorProg
import Derived.WalkKit
import Derived.Test.YteifgmdaggiaaaaGreatDoorWOpsDoFn
import Derived.Deep.RegionLaw
import Derived.BigQuiet
import Derived.BigRegion
import Derived.Deep.QuietTactic
import Derived.IntWalk
import Derived.WalkSpells
import Derived.LoopTactic
namespace Go.Proofs.YteifgmdaggiaaaaGreatDoor
open Go Go.RowKit
set_option linter.unusedVariables false
/-- A payment, closed. -/
def shut (p : Py) : Py := ⟨p.frm, p.dst, p.aut, p.cap, p.ref, p.chg, p.til, 1⟩
theorem hpart_nn (k : Nat) {p : Py} (h : p.cap ≤ p.aut) : 0 ≤ hpart k p := by unfold hpart; split <;> omega
theorem hsum_nn (k : Nat) : ∀ ps : List Py, (∀ p ∈ ps, p.cap ≤ p.aut) → 0 ≤ hsum k ps
 | [], _ => Int.le_refl _
 | p :: r, h => by
   rw [hsum_cons]
   have h1 := hpart_nn k (h p (List.mem_cons_self ..))
   have h2 := hsum_nn k r fun q hq => h q (List.mem_cons_of_mem _ hq)
   omega
theorem hsum_ge (k : Nat) : ∀ {ps : List Py} {p : Py}, (∀ p ∈ ps, p.cap ≤ p.aut) → p ∈ ps → hpart k p ≤ hsum k ps
 | q :: r, p, h, hp => by
   rw [hsum_cons]
   rcases List.mem_cons.1 hp with rfl | hp
   · have := hsum_nn k r fun q hq => h q (List.mem_cons_of_mem _ hq)
     omega
   · have h1 := hpart_nn k (h q (List.mem_cons_self ..))
     have h2 := hsum_ge k (fun q hq => h q (List.mem_cons_of_mem _ hq)) hp
     omega
/-- Void of an open payment goes. -/
theorem Ok.void {s : St} (h : Ok s) {q : Nat} {p : Py} (hp : s.pys[q]? = some p) (ho : p.stg = 0) :
  opE s ⟨0, 5, q, 0, 0, 0, 0⟩ = 0 ∧ relE s.acs p.frm (leftP p) = 0 ∧ opS s ⟨0, 5, q, 0, 0, 0, 0⟩ = ⟨relL s.acs p.frm (leftP p), s.pys.set q (shut p), s.now⟩ := by
 have hm := List.mem_of_getElem? hp
 obtain ⟨h1, h2, h3, h4, h5⟩ := h.pays p hm
 have hq : q < s.pys.length := (List.getElem?_eq_some_iff.1 hp).1
 have hleft := h1.left
 rw [if_pos ho] at hleft
 have hcap := h5 ho
 have hpr := h1
 obtain ⟨f, hf⟩ : ∃ f : Nat, p.frm = (f : Int) := ⟨p.frm.toNat, by unfold isC at h2; omega⟩
 obtain ⟨a, ha⟩ : ∃ a, s.acs[f]? = some a := ⟨_, List.getElem?_eq_getElem (by unfold isC at h2; omega)⟩
 have hR : relE s.acs p.frm (leftP p) = 0 := by
  have hge := hsum_ge f (ps := s.pys) (fun x hx => (h.pays x hx).1.2.1.2) hm
  have hhp : hpart f p = p.aut - p.cap := by unfold hpart; rw [if_pos ⟨ho, hf⟩]
  have hh := h.held f a ha
  unfold isC at h2
  unfold Py.right at hpr
  have hM : mayE s.acs.length (f : Int) (p.aut - p.cap) = 0 := by unfold mayE; rw [if_pos (by omega), if_pos (by omega)]
  unfold relE
  rw [hleft, hf, hM, if_pos rfl, acOf_at ha, if_neg (by omega)]
 have hP : payE p 5 0 = 0 := by
  unfold payE
  rw [if_neg (by decide), if_pos rfl, if_pos ho]
 have hE : opE s ⟨0, 5, q, 0, 0, 0, 0⟩ = 0 := by
  unfold opE payOpE
  dsimp only
  rw [if_neg (by decide), if_neg (by decide), if_neg (by decide), if_neg (by decide), if_pos (by decide), if_pos (by omega), pyAt_at hp, if_pos hP]
  unfold accE
  rw [if_pos rfl, hR]
 refine ⟨hE, hR, ?_⟩
 rw [opS_yes hE]
 unfold opT
 dsimp only
 rw [if_neg (by decide), if_neg (by decide), if_neg (by decide), if_neg (by decide), pyAt_at hp, payP_5, Int.toNat_natCast]
 unfold accL
 rw [if_pos rfl]
 rfl
section
variable {k : IntKind} {w : World} {n cap base g : Nat} {zs : List Int} {e : TypeId} {v : Value}
theorem Own.open_ (h : Own e k w base v n zs) (hn : 0 < n) : ∃ g cap, v = .slice (some ⟨g, 0, none⟩) n cap ∧ base ≤ g ∧ g < w.heap.size ∧ n ≤ cap ∧ cap ≤ maxLen := by
 rcases h.2 with ⟨_, h0⟩ | ⟨g, cap, cur, hv, hb, hg, hnc, hcm, _⟩
 · omega
 · exact ⟨g, cap, hv, hb, (Array.getElem?_eq_some_iff.1 hg).1, hnc, hcm⟩
theorem Own.cell (h : Own e k w base (.slice (some ⟨g, 0, none⟩) n cap) n zs) {j : Nat} (hj : j < n) : w.cell? ⟨g, j, none⟩ = some (.int k (zs.getD j 0)) := by
 have h1 := World.ownsRow.cellAt h j (by omega)
 have hl := h.len
 rw [h1, List.getElem?_map, List.getElem?_eq_getElem (by omega)]
 simp [List.getD, List.getElem?_eq_getElem (show j < zs.length by omega)]
theorem Own.unfrozen (h : Own e k w base (.slice (some ⟨g, 0, none⟩) n cap) n zs) (j : Nat) : w.frozen? ⟨g, j, none⟩ = false := World.ownsRow.frozenAt h j
theorem Own.set (h : Own e k w base (.slice (some ⟨g, 0, none⟩) n cap) n zs) (j : Nat) (x : Int) : Own e k (w.setCell ⟨g, j, none⟩ (.int k x)) base (.slice (some ⟨g, 0, none⟩) n cap) n (zs.set j x) := by
 have h1 := World.ownsRow.stored h j (.int k x)
 unfold Own
 rw [List.map_set]
 exact h1.1
end
theorem Own.front {e : TypeId} {k : IntKind} {w : World} {base g n cap : Nat} {zs : List Int} (h : Own e k w base (.slice (some ⟨g, 0, none⟩) n cap) n zs) (j : Nat) (hj : j ≤ n) : Own e k w base (.slice (some ⟨g, 0, none⟩) j cap) j (zs.take j) := by
 have hl := h.len
 refine ⟨by rw [List.length_map, List.length_take]; omega, ?_⟩
 rcases h.2 with ⟨h0, _⟩ | ⟨g', cap', cur, hv, hb, hg, hnc, hcm, hs, ht⟩
 · cases h0
 · injection hv with e1 e2 e3
   injection e1 with e1
   injection e1 with e1
   subst e1 e3
   refine .inr ⟨g, cap, cur, rfl, hb, hg, by omega, hcm, hs, ?_⟩
   have h2 := congrArg (List.take (j * 1)) ht
   rw [List.take_take, Nat.min_eq_left (by omega)] at h2
   rw [h2, List.map_take, Nat.mul_one]
theorem Dr.tick {F : Nat → Prop} {w : World} {g : Nat} {va vp X Y : Value} {s : St} (h : Dr F w g va vp X Y s) (t : Int) : Dr F (w.setCell ⟨g, 4, none⟩ (.int .i64 t)) g va vp X Y ⟨s.acs, s.pys, t⟩ ∧ On F w (w.setCell ⟨g, 4, none⟩ (.int .i64 t)) := by
 refine ⟨⟨h.blk.set 4 (.int .i64 t), h.oa.setOther (p := ⟨g, 4, none⟩) fun b e => (h.ag b e).1, h.op.setOther (p := ⟨g, 4, none⟩) fun b e => (h.pg b e).1, h.ag, h.pg, h.gF, fun k hk => ?_⟩, (On.refl F w).setCell h.gF _⟩
 have := h.lt k hk
 simpa [World.setCell] using this
end Go.Proofs.YteifgmdaggiaaaaGreatDoor
