/-
  The law's leg by its contract; what the functions of saga answer, as one hypothesis.
-/
import Derived.Test.YtdcghnoioecglaaSaga
import Derived.Test.YtdcghnoioecglaaSg11
import Derived.Lib.Hide
import Derived.LoopTactic
import Derived.IntWalk
import Derived.WalkSpells
namespace Go.Proofs.Ytdcghnoioecglaa
open Go Go.RowKit
set_option linter.unusedVariables false

/-- A saga, and nothing below is turned. -/
def SgRes (w : World) (s : Sg) (e : Ending) (w' : World) : Prop := e = .returned s.val ∧ Below w.heap.size w w'
/-- What the functions of saga answer (to be proved of the program). -/
structure SagaFns : Prop where
  begin_ : ∀ (r : Rq) (w : World), Calls Try.prog 8 #[r.val] w (SgRes w (beginS r))
  ready : ∀ (s : Sg) (w : World), Calls Try.prog 9 #[s.val] w (BoolRes w (decide (readyS s)))
  leg : ∀ (s : Sg) (ok : Bool) (w : World), Calls Try.prog 10 #[s.val, .bool ok] w (SgRes w (legS s ok))
  turn : ∀ (s : Sg) (why : Int) (w : World), Calls Try.prog 12 #[s.val, .int .i64 why] w (SgRes w (turnS s why))
  end_ : ∀ (s : Sg) (w : World), Calls Try.prog 13 #[s.val] w (SgRes w (endS s))
  most : ∀ (s : Sg) (w : World), 0 ≤ s.rq.legs → s.rq.legs ≤ 4 → 0 ≤ s.leg → s.leg ≤ 4 → 0 ≤ s.tries → s.tries ≤ 4 → Calls Try.prog 15 #[s.val] w fun e w' => e = .returned (.int .i64 (mostS s)) ∧ Below w.heap.size w w'
  right : ∀ (s : Sg) (w : World), s.ph = 1 → 0 ≤ s.rq.legs → s.rq.legs ≤ 4 → 0 ≤ s.leg → s.leg ≤ s.rq.legs → 0 ≤ s.tries → s.tries ≤ 4 → s.why ≠ 0 → Calls Try.prog 16 #[s.val] w (BoolRes w true)

/-- The two blocks that leg begins with. -/
abbrev lgW (w : World) (k o a b m l u p e t y : Int) : World := (w.alloc (.cells #[.int .i64 k, .int .i64 o, .int .i64 a, .int .i64 b, .int .i64 m, .int .i64 l, .int .i64 u, .int .i64 p, .int .i64 e, .int .i64 t, .int .i64 y] 30)).alloc (.cells #[.int .i64 0, .int .i64 0, .int .i64 0, .int .i64 0, .int .i64 0, .int .i64 0, .int .i64 0, .int .i64 0, .int .i64 0, .int .i64 0, .int .i64 0] 30)

set_option maxRecDepth 100000 in
set_option maxHeartbeats 2000000 in
theorem lawleg_any (s : Sg) (ok : Bool) (w : World) : Calls Try.prog 11 #[s.val, .bool ok] w (SgRes w (legS s ok)) := by
  obtain ⟨⟨k, o, a, b, m, l, u⟩, p, e, t, y⟩ := s
  by_cases hp : p = 0
  · have q1 := neF hp
    by_cases hl : l ≤ e
    · have hE := legS_stay (s := ⟨⟨k, o, a, b, m, l, u⟩, p, e, t, y⟩) ok (by unfold waitS; dsimp only; omega)
      (try dsimp only at hE)
      rw [hE]
      unfold SgRes Sg.val
      dsimp only
      have q2 := decide_eq_true hl
      clear hE hp
      go_enter Try.func11, Try.ntmps11
      go_wp2
      refine bodyPost_ret (results_cell_row (p := 4) (ty := 30) rfl _ _ (w.heap.size + 1) _ _ (0, 0) _ rfl (heap_alloc2_new w _ _) Try.underlying30 rfl (by kernel_rfl)) rfl ?_
      exact ⟨rfl, ((Below.refl _ _).alloc (Nat.le_refl _) _).alloc (by simp) _⟩
    · have q2 := decide_eq_false hl
      have hw : waitS ⟨⟨k, o, a, b, m, l, u⟩, p, e, t, y⟩ := ⟨hp, by dsimp only; omega⟩
      cases ok
      · obtain ⟨x, hx⟩ : ∃ x, wrap64 (t + 1) = x := ⟨_, rfl⟩
        by_cases ht : 3 < x
        · have hE := legS_back hw (by dsimp only; rw [hx]; exact ht)
          (try dsimp only at hE)
          rw [hE]
          unfold SgRes Sg.val
          dsimp only
          rw [hx]
          have q3 := decide_eq_true ht
          clear hE hp hl hw
          go_enter Try.func11, Try.ntmps11
          go_wp2
          refine bodyPost_ret (results_cell_row (p := 4) (ty := 30) rfl _ _ (w.heap.size + 1) _ _ (0, 0) _ rfl (heap_alloc2_new w _ _) Try.underlying30 rfl (by kernel_rfl)) rfl ?_
          exact ⟨rfl, ((Below.refl _ _).alloc (Nat.le_refl _) _).alloc (by simp) _⟩
        · have hE := legS_no hw (by dsimp only; rw [hx]; exact ht)
          (try dsimp only at hE)
          rw [hE]
          unfold SgRes Sg.val
          dsimp only
          rw [hx]
          have q3 := decide_eq_false ht
          clear hE hp hl hw
          go_enter Try.func11, Try.ntmps11
          go_wp2
          refine bodyPost_ret (results_cell_row (p := 4) (ty := 30) rfl _ _ (w.heap.size + 1) _ _ (0, 0) _ rfl (heap_alloc2_new w _ _) Try.underlying30 rfl (by kernel_rfl)) rfl ?_
          exact ⟨rfl, ((Below.refl _ _).alloc (Nat.le_refl _) _).alloc (by simp) _⟩
      · have hE := legS_yes hw
        (try dsimp only at hE)
        rw [hE]
        unfold SgRes Sg.val
        dsimp only
        clear hE hp hl hw
        go_enter Try.func11, Try.ntmps11
        go_wp2
        refine bodyPost_ret (results_cell_row (p := 4) (ty := 30) rfl _ _ (w.heap.size + 1) _ _ (0, 0) _ rfl (heap_alloc2_new w _ _) Try.underlying30 rfl (by kernel_rfl)) rfl ?_
        exact ⟨rfl, ((Below.refl _ _).alloc (Nat.le_refl _) _).alloc (by simp) _⟩
  · have q1 := neT hp
    have hE := legS_stay (s := ⟨⟨k, o, a, b, m, l, u⟩, p, e, t, y⟩) ok (fun h => hp h.1)
    (try dsimp only at hE)
    rw [hE]
    unfold SgRes Sg.val
    dsimp only
    clear hE hp
    go_enter Try.func11, Try.ntmps11
    go_wp2
    refine bodyPost_ret (results_cell_row (p := 4) (ty := 30) rfl _ _ (w.heap.size + 1) _ _ (0, 0) _ rfl (heap_alloc2_new w _ _) Try.underlying30 rfl (by kernel_rfl)) rfl ?_
    exact ⟨rfl, ((Below.refl _ _).alloc (Nat.le_refl _) _).alloc (by simp) _⟩
end Go.Proofs.Ytdcghnoioecglaa
