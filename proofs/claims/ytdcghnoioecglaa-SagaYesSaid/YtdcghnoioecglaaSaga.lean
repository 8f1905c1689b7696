/-
  Sagas: the plain words: what a saga is, and how it goes on.
-/
import Derived.Test.YtdcghnoioecglaaRq
namespace Go.Proofs.Ytdcghnoioecglaa
open Go Go.RowKit

structure Sg where
  rq : Rq
  ph : Int
  leg : Int
  tries : Int
  why : Int
deriving DecidableEq

def Sg.val (s : Sg) : Value := .agg #[.int .i64 s.rq.key, .int .i64 s.rq.op, .int .i64 s.rq.a, .int .i64 s.rq.b, .int .i64 s.rq.amt, .int .i64 s.rq.legs, .int .i64 s.rq.til, .int .i64 s.ph, .int .i64 s.leg, .int .i64 s.tries, .int .i64 s.why]
def Sg.cells (s : Sg) : List Value := [.int .i64 s.rq.key, .int .i64 s.rq.op, .int .i64 s.rq.a, .int .i64 s.rq.b, .int .i64 s.rq.amt, .int .i64 s.rq.legs, .int .i64 s.rq.til, .int .i64 s.ph, .int .i64 s.leg, .int .i64 s.tries, .int .i64 s.why]
/-- What begins. -/
def beginS (r : Rq) : Sg := ⟨r, 0, 0, 0, 0⟩
/-- Whether a leg's answer is waited for. -/
def waitS (s : Sg) : Prop := s.ph = 0 ∧ s.leg < s.rq.legs
instance (s : Sg) : Decidable (waitS s) := by unfold waitS; exact inferInstance
def readyS (s : Sg) : Prop := s.ph = 0 ∧ s.rq.legs ≤ s.leg
instance (s : Sg) : Decidable (readyS s) := by unfold readyS; exact inferInstance
/-- Behind an answer. -/
def legS (s : Sg) (ok : Bool) : Sg :=
  if waitS s then
    (if ok = true then ⟨s.rq, s.ph, wrap64 (s.leg + 1), 0, s.why⟩
     else if 3 < wrap64 (s.tries + 1) then ⟨s.rq, 1, s.leg, wrap64 (s.tries + 1), 9⟩ else ⟨s.rq, s.ph, s.leg, wrap64 (s.tries + 1), s.why⟩)
  else s
theorem legS_stay {s : Sg} (ok : Bool) (h : ¬ waitS s) : legS s ok = s := by unfold legS; rw [if_neg h]
theorem legS_yes {s : Sg} (h : waitS s) : legS s true = ⟨s.rq, s.ph, wrap64 (s.leg + 1), 0, s.why⟩ := by unfold legS; rw [if_pos h, if_pos rfl]
theorem legS_back {s : Sg} (h : waitS s) (ht : 3 < wrap64 (s.tries + 1)) : legS s false = ⟨s.rq, 1, s.leg, wrap64 (s.tries + 1), 9⟩ := by unfold legS; rw [if_pos h, if_neg (by simp), if_pos ht]
theorem legS_no {s : Sg} (h : waitS s) (ht : ¬ 3 < wrap64 (s.tries + 1)) : legS s false = ⟨s.rq, s.ph, s.leg, wrap64 (s.tries + 1), s.why⟩ := by unfold legS; rw [if_pos h, if_neg (by simp), if_neg ht]
def turnS (s : Sg) (why : Int) : Sg := if s.ph = 0 then ⟨s.rq, 1, s.leg, s.tries, why⟩ else s
def endS (s : Sg) : Sg := ⟨s.rq, 2, s.leg, s.tries, s.why⟩
/-- How many steps there are at most, of a small one. -/
def mostS (s : Sg) : Int := if s.ph = 0 then 4 * (if s.leg < s.rq.legs then s.rq.legs - s.leg else 0) - s.tries + 2 else if s.ph = 1 then 1 else 0
/-- Few legs, and few tries. -/
structure Sg.small (s : Sg) : Prop where
  legs : 0 ≤ s.rq.legs ∧ s.rq.legs ≤ 4
  leg : 0 ≤ s.leg ∧ s.leg ≤ s.rq.legs
  tries : 0 ≤ s.tries ∧ s.tries ≤ 4
  fwd : s.ph = 0 → s.tries ≤ 3
  ph : s.ph = 0 ∨ s.ph = 1
theorem wr1 {x : Int} (h1 : -9223372036854775808 ≤ x) (h2 : x ≤ 9223372036854775807) : wrap64 x = x := by simp only [wrap64]; omega
theorem small_begin (r : Rq) (h : 0 ≤ r.legs ∧ r.legs ≤ 4) : (beginS r).small := ⟨h, ⟨Int.le_refl _, h.1⟩, ⟨Int.le_refl _, (show (0 : Int) ≤ 4 by decide)⟩, (fun _ => show (0 : Int) ≤ 3 by decide), .inl rfl⟩
/-- What an answer makes of a small one. -/
theorem legS_small {s : Sg} (h : s.small) (ok : Bool) : legS s ok = if waitS s then
    (if ok = true then ⟨s.rq, s.ph, s.leg + 1, 0, s.why⟩ else if 3 < s.tries + 1 then ⟨s.rq, 1, s.leg, s.tries + 1, 9⟩ else ⟨s.rq, s.ph, s.leg, s.tries + 1, s.why⟩) else s := by
  have h1 := h.legs
  have h2 := h.leg
  have h3 := h.tries
  unfold legS
  rw [wr1 (x := s.leg + 1) (by omega) (by omega), wr1 (x := s.tries + 1) (by omega) (by omega)]
theorem Sg.small.leg_ {s : Sg} (h : s.small) (ok : Bool) : (legS s ok).small := by
  rw [legS_small h]
  have h1 := h.legs
  have h2 := h.leg
  have h3 := h.tries
  have h4 := h.fwd
  have h5 := h.ph
  by_cases hw : waitS s
  · rw [if_pos hw]
    have hw' : s.ph = 0 ∧ s.leg < s.rq.legs := hw
    have h6 := h4 hw'.1
    by_cases ho : ok = true
    · rw [if_pos ho]
      exact ⟨h1, by dsimp only; omega, ⟨Int.le_refl _, (show (0 : Int) ≤ 4 by decide)⟩, (fun _ => show (0 : Int) ≤ 3 by decide), h5⟩
    · rw [if_neg ho]
      by_cases ht : 3 < s.tries + 1
      · rw [if_pos ht]
        exact ⟨h1, h2, by dsimp only; omega, (fun h => absurd h (show ¬ (1 : Int) = 0 by decide)), .inr rfl⟩
      · rw [if_neg ht]
        exact ⟨h1, h2, by dsimp only; omega, (fun _ => by dsimp only; omega), h5⟩
  · rw [if_neg hw]; exact h
theorem legS_rq (s : Sg) (ok : Bool) : (legS s ok).rq = s.rq := by
  unfold legS
  split
  · split
    · rfl
    · split <;> rfl
  · rfl
/-- Each answer that is waited for leaves fewer steps. -/
theorem most_less {s : Sg} (h : s.small) (hw : waitS s) (ok : Bool) : mostS (legS s ok) < mostS s ∧ 1 ≤ mostS (legS s ok) := by
  have h1 := h.legs
  have h2 := h.leg
  have h3 := h.tries
  have hw' : s.ph = 0 ∧ s.leg < s.rq.legs := hw
  have h6 := h.fwd hw'.1
  rw [legS_small h, if_pos hw]
  have e0 : mostS s = 4 * (s.rq.legs - s.leg) - s.tries + 2 := by unfold mostS; rw [if_pos hw'.1, if_pos hw'.2]
  rw [e0]
  by_cases ho : ok = true
  · rw [if_pos ho]
    unfold mostS
    dsimp only
    rw [if_pos hw'.1]
    split <;> omega
  · rw [if_neg ho]
    by_cases ht : 3 < s.tries + 1
    · rw [if_pos ht]
      unfold mostS
      dsimp only
      rw [if_neg (by decide), if_pos rfl]
      omega
    · rw [if_neg ht]
      unfold mostS
      dsimp only
      rw [if_pos hw'.1, if_pos hw'.2]
      omega
end Go.Proofs.Ytdcghnoioecglaa
