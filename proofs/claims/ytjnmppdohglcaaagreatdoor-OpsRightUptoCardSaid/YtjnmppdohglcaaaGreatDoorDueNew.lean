/-
  The heap of the open payments by its contract, while it grows and while it shrinks.
-/
import Derived.Test.YtjnmppdohglcaaaGreatDoorDueHeap
import Derived.LoopTactic
namespace Go.Proofs.YtjnmppdohglcaaaGreatDoor
open Go Go.RowKit
set_option linter.unusedVariables false

section
variable {w0 : World} {z : Nat} {A : Option Addr} {n cap : Nat} {ps : List Py}

/-- While it grows. -/
def Grows (w0 : World) (z : Nat) (A : Option Addr) (n cap : Nat) (ps : List Py) (W : World) (xs : List Int) : Prop := xs.length ≤ 2000000 ∧ ∃ v, WHeap w0 z A n cap ps W v xs
theorem grows_ops (hr : RdS pays w0 A ps) (hl : ps.length = n) (hn : n ≤ 2000000) : HeapGrow (.pointer (some ⟨z, 0, none⟩)) (dlt ps) 2000000 (fun k => ∃ q : Nat, q < n ∧ k = (q : Int)) (Grows w0 z A n cap ps) (fun W W' => W.heap.size ≤ W'.heap.size) where
  refl := fun _ => Nat.le_refl _
  trans := fun _ _ _ => Nat.le_trans
  small := fun w xs h => by have := h.1; omega
  len := fun w xs ⟨h1, v, h⟩ => (hlen_any w v xs h hn (by omega)).mono fun e w' ⟨he, hw⟩ => ⟨he, hw ▸ ⟨h1, v, h⟩, by rw [← hw]; exact Nat.le_refl _⟩
  less := fun w xs i j ⟨h1, v, h⟩ hi hj => (hless_any w v xs h hr hl hn i j hi hj).mono fun e w' ⟨he, m, hw⟩ => ⟨he, hw ▸ ⟨h1, v, h.drewN m⟩, by rw [hw]; exact Nat.le_refl _⟩
  swap := fun w xs i j ⟨h1, v, h⟩ hi hj => (hswap_any w v xs h (by omega) i j hi hj).mono fun e w' ⟨he, h2, g, _, _, hs⟩ => ⟨he, ⟨by rw [swapL_length]; exact h1, v, h2⟩, by rw [hs]; exact Nat.le_refl _⟩
  push := fun w xs k ⟨h1, v, h⟩ hx ⟨q, hq, hk⟩ => by
    subst hk
    exact (hpush_any w v xs h (by omega) q hq).mono fun e w' ⟨he, v', h2, hs⟩ => ⟨he, ⟨by rw [List.length_append, List.length_singleton]; omega, v', h2⟩, hs⟩

/-- While it shrinks: what lies from M on is not touched. -/
def Shrinks (w0 : World) (z : Nat) (A : Option Addr) (n cap : Nat) (ps : List Py) (M : Nat) (W : World) (xs : List Int) : Prop := xs.length ≤ 2000000 ∧ z < M ∧ ∃ v, (∀ g, v.ownBlock = some g → g < M) ∧ WHeap w0 z A n cap ps W v xs
/-- Only what lies from z up to M is turned. -/
def Leaves (z M : Nat) (W W' : World) : Prop := W.heap.size ≤ W'.heap.size ∧ ∀ g, (M ≤ g ∨ g < z) → g < W.heap.size → W'.heap[g]? = W.heap[g]?
theorem shrinks_ops (hr : RdS pays w0 A ps) (hl : ps.length = n) (hn : n ≤ 2000000) (M : Nat) : HeapShrink (.pointer (some ⟨z, 0, none⟩)) (dlt ps) (Shrinks w0 z A n cap ps M) (Leaves z M) where
  refl := fun _ => ⟨Nat.le_refl _, fun _ _ _ => rfl⟩
  trans := fun a b c h1 h2 => ⟨Nat.le_trans h1.1 h2.1, fun g hg hlt => (h2.2 g hg (Nat.lt_of_lt_of_le hlt h1.1)).trans (h1.2 g hg hlt)⟩
  small := fun w xs h => by have := h.1; omega
  len := fun w xs ⟨h1, hM, v, hv, h⟩ => (hlen_any w v xs h hn (by omega)).mono fun e w' ⟨he, hw⟩ => ⟨he, hw ▸ ⟨h1, hM, v, hv, h⟩, by rw [← hw]; exact ⟨Nat.le_refl _, fun _ _ _ => rfl⟩⟩
  less := fun w xs i j ⟨h1, hM, v, hv, h⟩ hi hj => (hless_any w v xs h hr hl hn i j hi hj).mono fun e w' ⟨he, m, hw⟩ => ⟨he, hw ▸ ⟨h1, hM, v, hv, h.drewN m⟩, by rw [hw]; exact ⟨Nat.le_refl _, fun _ _ _ => rfl⟩⟩
  swap := fun w xs i j ⟨h1, hM, v, hv, h⟩ hi hj => (hswap_any w v xs h (by omega) i j hi hj).mono fun e w' ⟨he, h2, g, hg, hk, hs⟩ => ⟨he, ⟨by rw [swapL_length]; exact h1, hM, v, hv, h2⟩, by rw [hs]; exact Nat.le_refl _, fun k hkM _ => hk k (by have := hv g hg; have := h.own.rowLt g hg; omega)⟩
  pop := fun w xs ⟨h1, hM, v, hv, h⟩ h0 => (hpop_any w v xs h (by omega) h0).mono fun e w' ⟨he, v', h2, ho, hk, hs⟩ => ⟨he, ⟨by rw [List.length_take]; omega, hM, v', by rw [ho]; exact hv, h2⟩, by rw [hs]; exact Nat.le_refl _, fun k hkM _ => hk k (by omega)⟩
theorem WHeap.alloc {W : World} {v : Value} {xs : List Int} (h : WHeap w0 z A n cap ps W v xs) (o : Obj) : WHeap w0 z A n cap ps (W.alloc o) v xs :=
  ⟨(Below.heap_alloc W o _ h.lt).trans h.obj, h.own.alloc o, h.below.alloc (Nat.le_trans h.base (Nat.le_of_lt h.lt)) o, h.base, h.ins⟩
theorem WHeap.made {w0 W : World} (hb : Below w0.heap.size w0 W) (A : Option Addr) (n cap : Nat) (ps : List Py) : WHeap w0 W.heap.size A n cap ps (W.alloc (.cells #[.slice A n cap, .slice none 0 0] 110)) (.slice none 0 0) [] :=
  ⟨heap_alloc_new W _, Own.nil, hb.alloc hb.size _, hb.size, fun x h => by cases h⟩

set_option maxRecDepth 100000 in
set_option maxHeartbeats 1000000 in
theorem dnew_any {W : World} (hb : Below w0.heap.size w0 W) (hr : RdS pays w0 A ps) (hl : ps.length = n) (hn : n ≤ 2000000) :
    Calls Tryz.prog 32 #[.slice A n cap] W fun e w' => e = .returned (.pointer (some ⟨W.heap.size, 0, none⟩)) ∧ ∃ xs, Grows w0 W.heap.size A n cap ps w' xs ∧ Heap (dlt ps) 0 xs ∧ xs.Perm (openTo ps n) := by
  have HG := Lib.hid (grows_ops (z := W.heap.size) (cap := cap) hr hl (by omega))
  have HR := Lib.hid hr
  have HL := Lib.hid hl
  have HM := Lib.hid (WHeap.made hb A n cap ps)
  clear hr hl hb
  go_enter Tryz.func32, Tryz.ntmps32
  go_wp2
  go_loopw [11] (fun i wr => ∃ (k : Nat) (xs : List Int), k ≤ n ∧ i = .int .i64 (k : Int) ∧ Grows w0 W.heap.size A n cap ps wr xs ∧ Heap (dlt ps) 0 xs ∧ xs.Perm (openTo ps k)) (fun i _ => n - (intOf i).toNat)
  case atStart => exact ⟨0, [], Nat.zero_le _, rfl, ⟨by simp, _, HM.out⟩, (fun c _ h => absurd h (by simp)), List.Perm.refl _⟩
  case round =>
    obtain ⟨k, xs, hk, rfl, ⟨hx, v, hw⟩, hheap, hperm⟩ := hrel
    have HW := Lib.hid hw
    have HH := Lib.hid hheap
    have HP := Lib.hid hperm
    clear hw hheap hperm
    by_cases hlt : k < n
    · obtain ⟨p, hp⟩ : ∃ p, ps[k]? = some p := ⟨_, List.getElem?_eq_getElem (by rw [HL.out]; exact hlt)⟩
      obtain ⟨ad, rfl, hat⟩ := (HR.out.below HW.out.below).at_ hp
      obtain ⟨c0, c1, c2, c3, c4, c5, c6, c7⟩ := pay_cells hat
      have HNX := Lib.hid (show openTo ps (k + 1) = openTo ps k ++ (if p.stg = 0 then [(k : Int)] else []) by rw [openTo_next, show ps.getD k Py.zero = p by simp [List.getD, hp]])
      have HLN := Lib.hid (show xs.length ≤ k from HP.out.length_eq ▸ openTo_le ps k)
      clear hat hp
      obtain ⟨pf, pd, pa, pc, pr, pg, pt, ps'⟩ := p
      dsimp only at c0 c1 c2 c3 c4 c5 c6 c7 HNX
      by_cases hs : ps' = 0
      · have q1 := eqT hs
        rw [if_pos hs] at HNX
        have HPU := Lib.hid (push_any HG.out xs (k : Int) (wr.alloc (.cells #[.int .i64 pf, .int .i64 pd, .int .i64 pa, .int .i64 pc, .int .i64 pr, .int .i64 pg, .int .i64 pt, .int .i64 ps'] 55)) ⟨hx, v, HW.out.alloc _⟩ (by have := HLN.out; omega) ⟨k, hlt, rfl⟩)
        clear hs
        go_wp2_with fail
        refine HPU.out.mono ?_
        rintro _ w2 ⟨rfl, hg2, _⟩
        have HG2 := Lib.hid hg2
        clear hg2
        go_wp2
        go_roundw
        case rel => exact ⟨k + 1, _, by omega, by go_num, HG2.out, pushL_heap (dlt_weak ps) HH.out _, by rw [HNX.out]; exact (pushL_perm _ _).trans (HP.out.append_right _)⟩
        case measure => simp [intOf]; omega
      · have q1 := eqF hs
        rw [if_neg hs, List.append_nil] at HNX
        clear hs
        go_wp2
        go_roundw
        case rel => exact ⟨k + 1, xs, by omega, by go_num, ⟨hx, v, HW.out.alloc _⟩, HH.out, by rw [HNX.out]; exact HP.out⟩
        case measure => simp [intOf]; omega
    · obtain rfl : k = n := by omega
      go_wp2
      go_ret
      exact ⟨rfl, xs, ⟨hx, v, HW.out⟩, HH.out, HP.out⟩
end
end Go.Proofs.YtjnmppdohglcaaaGreatDoor
