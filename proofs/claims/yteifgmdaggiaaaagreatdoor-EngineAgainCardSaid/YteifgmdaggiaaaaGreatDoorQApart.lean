/-
  A store into a small block leaves a state as it was; a request, and a reply, stored.
-/
import Derived.Test.YteifgmdaggiaaaaGreatDoorQBankSt
import Derived.Test.YteifgmdaggiaaaaGreatDoorQGrE
namespace Go.Proofs.YteifgmdaggiaaaaGreatDoor
open Go Go.RowKit
set_option linter.unusedVariables false
theorem cell_room {w : World} {g : Nat} {t : TypeId} {vs : Array Value} (h : Blk w g t vs) {ad : Addr} {k : Nat} (hb : ad.block = g) {v : Value} (hv : w.cell? (ad.add k) = some v) : ad.off + k < vs.size := by
 have e := cell_in h (ad := ad.add k) (by rw [add_block]; exact hb) hv
 have ho : (ad.add k).off = ad.off + k := by unfold Addr.add; split <;> simp_all
 rw [ho] at e
 exact (Array.getElem?_eq_some_iff.1 e).1
theorem rec_apart {α : Type} {S : Shape α} {w w' : World} {A : Option Addr} {zs : List α} {g : Nat} {t : TypeId} {vs : Array Value} (h : RdS S w A zs) (hf : ∀ a : α, ∃ x, (S.cells a)[7]? = some x) (hg : Blk w g t vs) (hs : vs.size ≤ 7) (hk : ∀ k, k ≠ g → w'.heap[k]? = w.heap[k]?) : RdS S w' A zs := fun hn => by
 obtain ⟨ad, he, hc⟩ := h hn
 obtain ⟨a, ha⟩ : ∃ a, zs[0]? = some a := ⟨_, List.getElem?_eq_getElem hn⟩
 obtain ⟨x, hx⟩ := hf a
 have h7 : w.cell? (ad.add 7) = some x := by have := hc 0 a ha 7 x hx; rwa [Nat.zero_mul, Nat.zero_add] at this
 have hne : ad.block ≠ g := fun e => by have := cell_room hg e h7; omega
 have hb : ∀ i, w'.cell? (ad.add i) = w.cell? (ad.add i) := fun i => World.cell?_of_block (hk _ (by rw [add_block]; exact hne))
 exact ⟨ad, he, fun j b hj i u hu => by rw [hb]; exact hc j b hj i u hu⟩
theorem acc_apart {w w' : World} {A : Option Addr} {zs : List Ac} {g : Nat} {t : TypeId} {vs : Array Value} (h : RdA w A zs) (hn : 4 ≤ zs.length) (hg : Blk w g t vs) (hs : vs.size ≤ 7) (hk : ∀ k, k ≠ g → w'.heap[k]? = w.heap[k]?) : RdA w' A zs := fun h0 => by
 obtain ⟨ad, he, hc⟩ := h h0
 obtain ⟨a, ha⟩ : ∃ a, zs[3]? = some a := ⟨_, List.getElem?_eq_getElem (by omega)⟩
 have h9 : w.cell? (ad.add 9) = some (.int .i64 a.cur) := (hc 3 a ha).c0
 have hne : ad.block ≠ g := fun e => by have := cell_room hg e h9; omega
 have hb : ∀ i, w'.cell? (ad.add i) = w.cell? (ad.add i) := fun i => World.cell?_of_block (hk _ (by rw [add_block]; exact hne))
 exact ⟨ad, he, fun j b hj => ⟨by rw [hb]; exact (hc j b hj).c0, by rw [hb]; exact (hc j b hj).c1, by rw [hb]; exact (hc j b hj).c2⟩⟩
/-- What is stored into a small block leaves a state as it was. -/
theorem SkAt.apart {w w' : World} {V : Sv} {T : St} {sl : List Sg} {kl : List Kn} {g : Nat} {t : TypeId} {vs : Array Value} (h : SkAt w V T sl kl) (hn : 4 ≤ T.acs.length) (hg : Blk w g t vs) (hs : vs.size ≤ 7) (hk : ∀ k, k ≠ g → w'.heap[k]? = w.heap[k]?) : SkAt w' V T sl kl :=
 ⟨h.n, h.q, h.xn, h.yn, h.t, acc_apart h.accs hn hg hs hk, rec_apart h.pays (fun a => ⟨_, rfl⟩) hg hs hk, rec_apart h.sag (fun a => ⟨_, rfl⟩) hg hs hk, rec_apart h.kn (fun a => ⟨_, rfl⟩) hg hs hk, h.sa, h.sp, h.sx, h.sy⟩
section
variable {w W : World} {g B : Nat}
theorem rq7_heap (w : World) (g : Nat) (x0 x1 x2 x3 x4 x5 x6 : Value) (k : Nat) (hk : k ≠ g) : (((((((w.setCell ⟨g, 0, none⟩ x0).setCell ⟨g, 1, none⟩ x1).setCell ⟨g, 2, none⟩ x2).setCell ⟨g, 3, none⟩ x3).setCell ⟨g, 4, none⟩ x4).setCell ⟨g, 5, none⟩ x5).setCell ⟨g, 6, none⟩ x6).heap[k]? = w.heap[k]? := by
 rw [Below.heap_setCell _ _ _ _ hk, Below.heap_setCell _ _ _ _ hk, Below.heap_setCell _ _ _ _ hk, Below.heap_setCell _ _ _ _ hk, Below.heap_setCell _ _ _ _ hk, Below.heap_setCell _ _ _ _ hk, Below.heap_setCell _ _ _ _ hk]
theorem rq7_put {t : TypeId} {vs : Array Value} (h : Blk w g t vs) (hs : vs.size = 7) (x0 x1 x2 x3 x4 x5 x6 : Value) : Blk (((((((w.setCell ⟨g, 0, none⟩ x0).setCell ⟨g, 1, none⟩ x1).setCell ⟨g, 2, none⟩ x2).setCell ⟨g, 3, none⟩ x3).setCell ⟨g, 4, none⟩ x4).setCell ⟨g, 5, none⟩ x5).setCell ⟨g, 6, none⟩ x6) g t #[x0, x1, x2, x3, x4, x5, x6] := by
 obtain ⟨vs⟩ := vs
 match vs, hs with
 | [v0, v1, v2, v3, v4, v5, v6], _ =>
   unfold Blk at h ⊢
   simp [World.setCell, Array.getElem?_modify, h]
theorem rq7_other {k : Nat} {t : TypeId} {vs : Array Value} (h : Blk w k t vs) (hk : k ≠ g) (x0 x1 x2 x3 x4 x5 x6 : Value) : Blk (((((((w.setCell ⟨g, 0, none⟩ x0).setCell ⟨g, 1, none⟩ x1).setCell ⟨g, 2, none⟩ x2).setCell ⟨g, 3, none⟩ x3).setCell ⟨g, 4, none⟩ x4).setCell ⟨g, 5, none⟩ x5).setCell ⟨g, 6, none⟩ x6) k t vs := (rq7_heap w g x0 x1 x2 x3 x4 x5 x6 k hk).trans h
theorem rq7_below (h : Below B W w) (hg : B ≤ g) (x0 x1 x2 x3 x4 x5 x6 : Value) : Below B W (((((((w.setCell ⟨g, 0, none⟩ x0).setCell ⟨g, 1, none⟩ x1).setCell ⟨g, 2, none⟩ x2).setCell ⟨g, 3, none⟩ x3).setCell ⟨g, 4, none⟩ x4).setCell ⟨g, 5, none⟩ x5).setCell ⟨g, 6, none⟩ x6) :=
 (((((((h.setCell (p := ⟨g, 0, none⟩) hg x0).setCell (p := ⟨g, 1, none⟩) hg x1).setCell (p := ⟨g, 2, none⟩) hg x2).setCell (p := ⟨g, 3, none⟩) hg x3).setCell (p := ⟨g, 4, none⟩) hg x4).setCell (p := ⟨g, 5, none⟩) hg x5).setCell (p := ⟨g, 6, none⟩) hg x6)
theorem rq7_on {F : Nat → Prop} (h : On F W w) (hg : ¬ F g) (x0 x1 x2 x3 x4 x5 x6 : Value) : On F W (((((((w.setCell ⟨g, 0, none⟩ x0).setCell ⟨g, 1, none⟩ x1).setCell ⟨g, 2, none⟩ x2).setCell ⟨g, 3, none⟩ x3).setCell ⟨g, 4, none⟩ x4).setCell ⟨g, 5, none⟩ x5).setCell ⟨g, 6, none⟩ x6) :=
 (((((((h.setCell (p := ⟨g, 0, none⟩) hg x0).setCell (p := ⟨g, 1, none⟩) hg x1).setCell (p := ⟨g, 2, none⟩) hg x2).setCell (p := ⟨g, 3, none⟩) hg x3).setCell (p := ⟨g, 4, none⟩) hg x4).setCell (p := ⟨g, 5, none⟩) hg x5).setCell (p := ⟨g, 6, none⟩) hg x6)
theorem SkAt.rq7 {V : Sv} {T : St} {sl : List Sg} {kl : List Kn} {t : TypeId} {vs : Array Value} (h : SkAt w V T sl kl) (hn : 4 ≤ T.acs.length) (hg : Blk w g t vs) (hs : vs.size ≤ 7) (x0 x1 x2 x3 x4 x5 x6 : Value) : SkAt (((((((w.setCell ⟨g, 0, none⟩ x0).setCell ⟨g, 1, none⟩ x1).setCell ⟨g, 2, none⟩ x2).setCell ⟨g, 3, none⟩ x3).setCell ⟨g, 4, none⟩ x4).setCell ⟨g, 5, none⟩ x5).setCell ⟨g, 6, none⟩ x6) V T sl kl := h.apart hn hg hs (fun k hk => rq7_heap w g x0 x1 x2 x3 x4 x5 x6 k hk)
end
end Go.Proofs.YteifgmdaggiaaaaGreatDoor
