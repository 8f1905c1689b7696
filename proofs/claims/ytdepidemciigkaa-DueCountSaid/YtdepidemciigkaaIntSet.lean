/-
  A map of the call's own from ints to bools that holds true at each of a list of keys: a set; a look-up, a store, and how many there are.
-/
import Derived.Test.YtdepidemciigkaaProg
import Derived.Test.YtdepidemciigkaaSlices
import Derived.Maps.OwnOps
import Derived.Maps.OwnSet
import Derived.Maps.Views
namespace Go.Proofs.Ytdepidemciigkaa
open Go Go.RowKit Go.Maps
set_option linter.unusedVariables false

theorem key_int : Keyed Try.prog 3 := int_keyed Try.underlying3
theorem key_at {k : Int} (h : (Lit.int .i64 k).wf = true) : keyOf Try.prog 3 (.int .i64 k) = some (.int .i64 k) := keyOf_int_mk Try.underlying3 h
theorem zero_flag (w : World) : (zeroValue 4).run Try.prog w = .ok (.bool false) w := by kernel_rfl
theorem plainElem_flag {H : Type} {v : Value} {z : DataW H × List MemPlace} {x : Bool} (h : plainElem Try.prog 4 v = some z) (hz : z.1 = .lit (.bool x)) : v = .bool x := by
  unfold plainElem at h
  rw [Try.underlying4] at h
  cases v with
  | bool y =>
    simp at h
    subst h
    simp at hz
    rw [hz]
  | _ => simp at h

/-- The map in block b holds true at the keys of s, and at no other one. -/
def SM (w : World) (b : Nat) (s : List Int) : Prop :=
  ∃ D : DataW Value, w.ownsMap Try.prog 3 (plainElem Try.prog 4) b s.length D ∧ Maps.size D = s.length ∧ (∀ k : Int, D.atKey (.int .i64 k) (.lit (.bool false)) = .lit (.bool (decide (k ∈ s)))) ∧ ∀ k : Int, Maps.has D (.int .i64 k) = decide (k ∈ s)

section
variable {w w' : World} {b : Nat} {s : List Int}
theorem SM.made (w : World) : SM (w.alloc (.map #[] 0)) w.heap.size [] :=
  ⟨.map [], World.ownsMap_made _ _ _ _, rfl, fun k => rfl, fun k => rfl⟩
theorem SM.same (h : SM w b s) (hb : w'.heap[b]? = w.heap[b]?) : SM w' b s := by
  obtain ⟨D, ⟨es, clock, h1, r⟩, h2⟩ := h
  exact ⟨D, ⟨es, clock, by rw [hb]; exact h1, r⟩, h2⟩
theorem SM.lt (h : SM w b s) : b < w.heap.size := by
  obtain ⟨D, h1, _⟩ := h
  exact World.ownsMap.lt h1
theorem SM.below (h : SM w b s) (hb : Below w.heap.size w w') : SM w' b s := h.same (hb.block b h.lt)
theorem SM.look (h : SM w b s) {k : Int} (hk : (Lit.int .i64 k).wf = true) :
    (Instr.lookup 44 (.map (some b)) (.int .i64 k) false).run Try.prog w = .ok (.bool (decide (k ∈ s))) w := by
  obtain ⟨D, h1, _, h3, _⟩ := h
  obtain ⟨v, ps, hrun, hv⟩ := World.ownsMap.lookup h1 key_int Try.underlying44 (zero_flag w) (plainElem_bool Try.underlying4 false) (key_at hk)
  rw [plainElem_flag hv (h3 k)] at hrun
  exact hrun
theorem SM.len (h : SM w b s) (ty : TypeId) : (Builtin.len_ #[44] ty #[.map (some b)]).run Try.prog w = .ok (.int .i64 (s.length : Int)) w := by
  obtain ⟨D, h1, h2, _⟩ := h
  have := World.ownsMap.len h1 Try.underlying44 ty
  rw [h2] at this
  exact this
theorem SM.store (h : SM w b s) (hn : s.length < 4611686018427387904) {k : Int} (hk : (Lit.int .i64 k).wf = true) (hno : k ∉ s) :
    ∃ w', (Instr.mapUpdate 44 (.map (some b)) (.int .i64 k) (.bool true)).run Try.prog w = .ok () w' ∧ SM w' b (s ++ [k]) ∧ w.grownBy w' (some b) := by
  obtain ⟨D, h1, h2, h3, h4⟩ := h
  obtain ⟨w', hrun, h5, h6⟩ := World.ownsMap.store h1 key_int Try.underlying44 (by unfold maxLen; omega) (key_at hk) (plainElem_bool Try.underlying4 true)
  have ht := World.ownsMap.tidy h1 key_int
  have hm := World.ownsMap.isMap h1
  refine ⟨w', hrun, ⟨_, by rw [List.length_append]; exact h5, ?_, fun j => ?_, fun j => ?_⟩, h6.grown⟩
  · rw [size_put ht, h4 k, decide_eq_false hno, h2]
    simp
  · by_cases hj : j = k
    · subst hj
      rw [atKey_put_same hm (key_int.key (key_at hk))]
      simp
    · rw [atKey_put_other (by intro e; injection e with _ e; exact hj e), h3 j]
      simp [hj]
  · by_cases hj : j = k
    · subst hj
      rw [has_put_same hm (key_int.key (key_at hk))]
      simp
    · rw [has_put_other (by intro e; injection e with _ e; exact hj e), h4 j]
      simp [hj]
end

/-- A store, at the operation. -/
theorem wpList_sm_store {ops : Array Oper} {rest : List Oper} {o : Oper} {a : Act} {Q : Exit → Act → World → Prop} (w : World) (hgd : o.guard = none) (m x v : Operand) (ho : o.op = Op.mapUpdate 44 m x v)
    (b : Nat) (s : List Int) (hm : a.eval m = .map (some b)) (hown : SM w b s) (hn : s.length < 4611686018427387904) (key : Int) (hx : a.eval x = .int .i64 key) (hv : a.eval v = .bool true) (hk : (Lit.int .i64 key).wf = true) (hno : key ∉ s)
    (h : ∀ w', SM w' b (s ++ [key]) → w.grownBy w' (some b) → wpList Try.prog ops Q rest (a.put o.dst undef) w') : wpList Try.prog ops Q (o :: rest) a w := by
  refine wpList_plain hgd fun K' hK' => ?_
  obtain ⟨w', hrun, r1, r2⟩ := hown.store hn hk hno
  unfold Oper.wp
  simp [execOp, ho, hm, hx, hv, hrun, Result.andThen]
  exact hK' _ _ (h w' r1 r2)
end Go.Proofs.Ytdepidemciigkaa
