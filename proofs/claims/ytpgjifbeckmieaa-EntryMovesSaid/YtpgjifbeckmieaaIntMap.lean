/-
  A map of the call's own from ints to ints: what it has at each key; a look-up, and a store.
-/
import Derived.Test.YtpgjifbeckmieaaProg
import Derived.Test.YtpgjifbeckmieaaSlices
import Derived.Maps.OwnOps
import Derived.Maps.OwnSet
import Derived.Maps.Views
namespace Go.Proofs.Ytpgjifbeckmieaa
open Go Go.RowKit Go.Maps
set_option linter.unusedVariables false

theorem key_int : Keyed Try.prog 3 := int_keyed Try.underlying3
theorem key_at {k : Int} (h : (Lit.int .i64 k).wf = true) : keyOf Try.prog 3 (.int .i64 k) = some (.int .i64 k) := keyOf_int_mk Try.underlying3 h
theorem zero_int (w : World) : (zeroValue 3).run Try.prog w = .ok (.int .i64 0) w := by kernel_rfl

/-- The map in block b, of at most n entries, has f k at each key k (0 where there is none). -/
def IM (w : World) (b n : Nat) (f : Int → Int) : Prop :=
  ∃ D : DataW Value, w.ownsMap Try.prog 3 (plainElem Try.prog 3) b n D ∧ IsMap D ∧ ∀ k : Int, D.atKey (.int .i64 k) (.lit (.int .i64 0)) = .lit (.int .i64 (f k))

section
variable {w w' : World} {b n : Nat} {f : Int → Int}
theorem IM.made (w : World) : IM (w.alloc (.map #[] 0)) w.heap.size 0 (fun _ => 0) :=
  ⟨.map [], World.ownsMap_made _ _ _ _, isMap_empty, fun k => rfl⟩
theorem IM.same (h : IM w b n f) (hb : w'.heap[b]? = w.heap[b]?) : IM w' b n f := by
  obtain ⟨D, ⟨es, clock, h1, r⟩, h2, h3⟩ := h
  exact ⟨D, ⟨es, clock, by rw [hb]; exact h1, r⟩, h2, h3⟩
theorem IM.lt (h : IM w b n f) : b < w.heap.size := by
  obtain ⟨D, h1, _⟩ := h
  exact World.ownsMap.lt h1
theorem IM.below (h : IM w b n f) (hb : Below w.heap.size w w') : IM w' b n f := h.same (hb.block b h.lt)
theorem IM.alloc (h : IM w b n f) (o : Obj) : IM (w.alloc o) b n f := h.same (Below.heap_alloc _ _ _ h.lt)
theorem IM.look (h : IM w b n f) {k : Int} (hk : (Lit.int .i64 k).wf = true) :
    (Instr.lookup 44 (.map (some b)) (.int .i64 k) false).run Try.prog w = .ok (.int .i64 (f k)) w := by
  obtain ⟨D, h1, _, h3⟩ := h
  obtain ⟨c, hrun, hat, _⟩ := World.ownsMap.lookup_int h1 key_int Try.underlying44 Try.underlying3 (zero_int w) (key_at hk)
  rw [h3 k] at hat
  injection hat with hat
  injection hat with _ hat
  rw [hat]
  exact hrun
theorem IM.store (h : IM w b n f) (hn : n < 4611686018427387904) {k v : Int} (hk : (Lit.int .i64 k).wf = true) (hv : (Lit.int .i64 v).wf = true) :
    ∃ w', (Instr.mapUpdate 44 (.map (some b)) (.int .i64 k) (.int .i64 v)).run Try.prog w = .ok () w' ∧ IM w' b (n + 1) (fun j => if j = k then v else f j) ∧ w.mapTurned w' b := by
  obtain ⟨D, h1, h2, h3⟩ := h
  obtain ⟨w', hrun, h4, h5⟩ := World.ownsMap.store h1 key_int Try.underlying44 (by unfold maxLen; omega) (key_at hk) (plainElem_int Try.underlying3 hv)
  refine ⟨w', hrun, ⟨_, h4, h2.put _ _, fun j => ?_⟩, h5⟩
  by_cases hj : j = k
  · subst hj
    rw [atKey_put_same h2 (key_int.key (key_at hk))]
    simp
  · rw [atKey_put_other (by intro e; injection e with _ e; exact hj e), h3 j]
    simp [hj]
theorem IM.congr {g : Int → Int} (h : IM w b n f) (e : ∀ k, f k = g k) : IM w b n g := by
  obtain ⟨D, h1, h2, h3⟩ := h
  exact ⟨D, h1, h2, fun k => by rw [h3 k, e k]⟩
theorem IM.drew (h : IM w b n f) : IM w.drew b n f := h.same rfl
theorem IM.drewN (h : IM w b n f) (m : Nat) : IM (w.drewN m) b n f := h.same rfl
end

/-- A store, at the operation. -/
theorem wpList_im_store {ops : Array Oper} {rest : List Oper} {o : Oper} {a : Act} {Q : Exit → Act → World → Prop} (w : World) (hgd : o.guard = none) (m x v : Operand) (ho : o.op = Op.mapUpdate 44 m x v)
    (b n : Nat) (f : Int → Int) (hm : a.eval m = .map (some b)) (hown : IM w b n f) (hn : n < 4611686018427387904) (key val : Int) (hx : a.eval x = .int .i64 key) (hv : a.eval v = .int .i64 val) (hk : (Lit.int .i64 key).wf = true) (hw : (Lit.int .i64 val).wf = true)
    (h : ∀ w', IM w' b (n + 1) (fun j => if j = key then val else f j) → w.grownBy w' (some b) → wpList Try.prog ops Q rest (a.put o.dst undef) w') : wpList Try.prog ops Q (o :: rest) a w := by
  refine wpList_plain hgd fun K' hK' => ?_
  obtain ⟨w', hrun, r1, r2⟩ := hown.store hn hk hw
  unfold Oper.wp
  simp [execOp, ho, hm, hx, hv, hrun, Result.andThen]
  exact hK' _ _ (h w' r1 r2.grown)
end Go.Proofs.Ytpgjifbeckmieaa
