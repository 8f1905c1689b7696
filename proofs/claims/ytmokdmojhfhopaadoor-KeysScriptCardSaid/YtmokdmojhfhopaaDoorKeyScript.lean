/-
  What the walk of KeysScript carries: how many keys of eight are known, and what a world holds on the way through an act.
-/
import Derived.Test.YtmokdmojhfhopaaDoorKeyWords
import Derived.Test.YtmokdmojhfhopaaDoorKeyActArg
import Derived.Test.YtmokdmojhfhopaaDoorShapeStep
namespace Go.Proofs.YtmokdmojhfhopaaDoor
open Go Go.RowKit
set_option linter.unusedVariables false

/-- How many of the keys 0 to 7 are known. -/
def hasK (zs : List Kn) (i : Int) : Nat := if findN zs i = none then 0 else 1
def cnt (zs : List Kn) : Nat := hasK zs 0 + hasK zs 1 + hasK zs 2 + hasK zs 3 + hasK zs 4 + hasK zs 5 + hasK zs 6 + hasK zs 7
theorem hasK_le (zs : List Kn) (i : Int) : hasK zs i ≤ 1 := by unfold hasK; split <;> omega
theorem cnt_le (zs : List Kn) : cnt zs ≤ 8 := by
  have h0 := hasK_le zs 0
  have h1 := hasK_le zs 1
  have h2 := hasK_le zs 2
  have h3 := hasK_le zs 3
  have h4 := hasK_le zs 4
  have h5 := hasK_le zs 5
  have h6 := hasK_le zs 6
  have h7 := hasK_le zs 7
  unfold cnt
  omega
theorem hasK_snoc {zs : List Kn} {b : Kn} (i : Int) (hne : ¬ b.rq.key = i) : hasK (zs ++ [b]) i = hasK zs i := by
  unfold hasK
  rw [find_snoc]
  cases h : findN zs i with
  | some j => rfl
  | none => simp [hne]
theorem hasK_new {zs : List Kn} {b : Kn} {i : Int} (hb : b.rq.key = i) (h : findN zs i = none) : hasK (zs ++ [b]) i = hasK zs i + 1 := by
  unfold hasK
  rw [find_snoc, h]
  simp [hb]
theorem cnt_snoc {zs : List Kn} {b : Kn} {k : Nat} (hk : k < 8) (hb : b.rq.key = (k : Int)) (h : findN zs (k : Int) = none) : cnt (zs ++ [b]) = cnt zs + 1 := by
  have hn := hasK_new hb h
  have ho : ∀ i : Int, ¬ (k : Int) = i → hasK (zs ++ [b]) i = hasK zs i := fun i hi => hasK_snoc i (by rw [hb]; exact hi)
  unfold cnt
  rcases (show k = 0 ∨ k = 1 ∨ k = 2 ∨ k = 3 ∨ k = 4 ∨ k = 5 ∨ k = 6 ∨ k = 7 by omega) with rfl | rfl | rfl | rfl | rfl | rfl | rfl | rfl
  · have hn : hasK (zs ++ [b]) 0 = hasK zs 0 + 1 := hn
    rw [hn, ho 1 (by decide), ho 2 (by decide), ho 3 (by decide), ho 4 (by decide), ho 5 (by decide), ho 6 (by decide), ho 7 (by decide)]
    omega
  · have hn : hasK (zs ++ [b]) 1 = hasK zs 1 + 1 := hn
    rw [hn, ho 0 (by decide), ho 2 (by decide), ho 3 (by decide), ho 4 (by decide), ho 5 (by decide), ho 6 (by decide), ho 7 (by decide)]
    omega
  · have hn : hasK (zs ++ [b]) 2 = hasK zs 2 + 1 := hn
    rw [hn, ho 0 (by decide), ho 1 (by decide), ho 3 (by decide), ho 4 (by decide), ho 5 (by decide), ho 6 (by decide), ho 7 (by decide)]
    omega
  · have hn : hasK (zs ++ [b]) 3 = hasK zs 3 + 1 := hn
    rw [hn, ho 0 (by decide), ho 1 (by decide), ho 2 (by decide), ho 4 (by decide), ho 5 (by decide), ho 6 (by decide), ho 7 (by decide)]
    omega
  · have hn : hasK (zs ++ [b]) 4 = hasK zs 4 + 1 := hn
    rw [hn, ho 0 (by decide), ho 1 (by decide), ho 2 (by decide), ho 3 (by decide), ho 5 (by decide), ho 6 (by decide), ho 7 (by decide)]
    omega
  · have hn : hasK (zs ++ [b]) 5 = hasK zs 5 + 1 := hn
    rw [hn, ho 0 (by decide), ho 1 (by decide), ho 2 (by decide), ho 3 (by decide), ho 4 (by decide), ho 6 (by decide), ho 7 (by decide)]
    omega
  · have hn : hasK (zs ++ [b]) 6 = hasK zs 6 + 1 := hn
    rw [hn, ho 0 (by decide), ho 1 (by decide), ho 2 (by decide), ho 3 (by decide), ho 4 (by decide), ho 5 (by decide), ho 7 (by decide)]
    omega
  · have hn : hasK (zs ++ [b]) 7 = hasK zs 7 + 1 := hn
    rw [hn, ho 0 (by decide), ho 1 (by decide), ho 2 (by decide), ho 3 (by decide), ho 4 (by decide), ho 5 (by decide), ho 6 (by decide)]
    omega
theorem cnt_set {zs : List Kn} {i : Nat} {a b : Kn} (ha : zs[i]? = some a) (hb : b.rq.key = a.rq.key) : cnt (zs.set i b) = cnt zs := by
  unfold cnt hasK
  simp only [find_set ha hb]

/-- What a world holds on the way through an act. -/
structure KS (w1 wx : World) (v3 v4 : Value) (zs : List Kn) (ga : Nat) (t : Bool) (x : Int) (gr : Nat) (q : Rq) : Prop where
  o3 : OwnS known wx w1.heap.size v3 zs
  o4 : OwnS known wx w1.heap.size v4 zs
  ne : ∀ g, v3.ownBlock = some g → v4.ownBlock ≠ some g
  a2 : KA2 wx ga t x
  r7 : Rq7 wx gr 33 q.key q.op q.a q.b q.amt q.legs q.til
  lr : gr < wx.heap.size
  b : Below w1.heap.size w1 wx
section
variable {w1 wx w' : World} {v3 v4 : Value} {zs : List Kn} {ga gr : Nat} {t : Bool} {x : Int} {q : Rq}
theorem KS.below (h : KS w1 wx v3 v4 zs ga t x gr q) (hb : Below wx.heap.size wx w') : KS w1 w' v3 v4 zs ga t x gr q :=
  ⟨h.o3.below hb, h.o4.below hb, h.ne, h.a2.below hb, h.r7.below hb h.lr, Nat.lt_of_lt_of_le h.lr hb.size, h.b.trans (hb.mono h.b.size)⟩
theorem KS.alloc (h : KS w1 wx v3 v4 zs ga t x gr q) (o : Obj) : KS w1 (wx.alloc o) v3 v4 zs ga t x gr q := h.below ((Below.refl _ _).alloc (Nat.le_refl _) _)
theorem KS.drewN (h : KS w1 wx v3 v4 zs ga t x gr q) (n : Nat) : KS w1 (wx.drewN n) v3 v4 zs ga t x gr q := h.below (below_drewN (Below.refl _ _) n)
theorem KS.set2 (h : KS w1 wx v3 v4 zs ga t x gr q) {g : Nat} (hg : ∀ i, v3.ownBlock = some i → i ≠ g) (hg4 : ∀ i, v4.ownBlock = some i → i ≠ g) (ha : ga ≠ g) (hr : gr ≠ g) (hb : w1.heap.size ≤ g) (i : Nat) (u : Value) : KS w1 (wx.setCell ⟨g, i, none⟩ u) v3 v4 zs ga t x gr q :=
  ⟨h.o3.setOther hg, h.o4.setOther hg4, h.ne, ⟨by rw [World.cell?_of_block (Below.heap_setCell _ _ _ _ ha)]; exact h.a2.1, by rw [World.cell?_of_block (Below.heap_setCell _ _ _ _ ha)]; exact h.a2.2.1, by have := h.a2.2.2; simpa using this⟩,
    (Below.heap_setCell _ _ _ _ hr).trans h.r7, by have := h.lr; simpa using this, h.b.setCell hb _⟩
end
theorem Rq2.drewN {w : World} {g : Nat} {t : TypeId} {x0 x1 : Int} (h : Rq2 w g t x0 x1) (n : Nat) : Rq2 (w.drewN n) g t x0 x1 := h
theorem Rq2.put1 {w : World} {g : Nat} {t : TypeId} {x0 x1 : Int} (h : Rq2 w g t x0 x1) (y0 : Int) : Rq2 (w.setCell ⟨g, 0, none⟩ (.int .i64 y0)) g t y0 x1 := by
  unfold Rq2 at h ⊢
  simp [World.setCell, Array.getElem?_modify, h]
theorem RdS.new1 {α : Type} {S : Shape α} {w : World} {cs : Array Value} {t : TypeId} {b : α} (hc : cs.toList = S.cells b) : RdS S (w.alloc (.cells cs t)) (some ⟨w.heap.size, 0, none⟩) [b] := fun _ => ⟨_, rfl, fun j a h => by
  match j, h with
  | 0, h => simp at h; subst h; exact AtS.new hc
  | j + 1, h => simp at h⟩
end Go.Proofs.YtmokdmojhfhopaaDoor
