/-
  What a bank does leaves right states right: plain words, no program.
-/
import Derived.Test.YteiljppljlmcbaaGreatDoorBankPlain
namespace Go.Proofs.YteiljppljlmcbaaGreatDoor
open Go Go.RowKit
set_option linter.unusedVariables false

theorem hold_curs {zs : List Ac} {k x : Int} (h : holdE zs k x = 0) (j : Int) : curOf (holdL zs k x) j = curOf zs j := by
  obtain ⟨h1, h2, h3⟩ := holdE_ok h
  obtain ⟨q, rfl⟩ : ∃ q : Nat, k = (q : Int) := ⟨k.toNat, by omega⟩
  obtain ⟨a, ha⟩ : ∃ a, zs[q]? = some a := ⟨_, List.getElem?_eq_getElem (by omega)⟩
  unfold holdL heldAs
  rw [if_pos h, acOf_at ha, Int.toNat_natCast]
  unfold curOf
  split
  · by_cases hj : q = j.toNat
    · rw [← hj, List.getElem?_set_self (by omega), ha]
    · rw [List.getElem?_set_ne hj]
  · rfl
theorem move_curs {zs ys : List Ac} (hl : ys.length = zs.length) (hc : ∀ j, curOf ys j = curOf zs j) (f t n : Int) : moveE ys f t n = moveE zs f t n ∧ moveL ys f t n = moveL zs f t n := by
  have h : moveE ys f t n = moveE zs f t n := by unfold moveE; rw [hl, hc, hc]
  refine ⟨h, ?_⟩
  unfold moveL
  rw [h, hc, hc]
theorem rsv_ok {s : St} {r : Rq} (h : rsvE s r = 0) : (isC s.acs.length r.a ∧ isC s.acs.length r.b) ∧ moveE s.acs r.a r.b r.amt = 0 ∧ holdE s.acs r.a r.amt = 0 ∧ (rsvS s r).acs = holdL s.acs r.a r.amt ∧ (rsvS s r).pys = s.pys ∧ (rsvS s r).now = s.now := by
  have hs : rsvS s r = ⟨holdL s.acs r.a r.amt, s.pys, s.now⟩ := by unfold rsvS; rw [if_pos h]
  unfold rsvE at h
  split at h
  · rename_i hc
    split at h
    · rename_i hm
      exact ⟨hc, hm, h, by rw [hs], by rw [hs], by rw [hs]⟩
    · rename_i hm; exact absurd h hm
  · omega
/-- What is reserved, and settled, is what moves at once; what is undone is nothing. -/
theorem rsv_set {s : St} {r : Rq} (hr : rightB s.acs = true) (h : rsvE s r = 0) :
    setE (rsvS s r) r = postE s.acs (moveL s.acs r.a r.b r.amt) ∧ (postE s.acs (moveL s.acs r.a r.b r.amt) = 0 → setS (rsvS s r) r = ⟨postL s.acs (moveL s.acs r.a r.b r.amt), s.pys, s.now⟩) ∧ undS (rsvS s r) r = s := by
  obtain ⟨hc, hm, hh, e1, e2, e3⟩ := rsv_ok h
  obtain ⟨b1, b2⟩ := hold_back hr hh
  obtain ⟨m1, m2⟩ := move_curs (hold_len hh) (hold_curs hh) r.a r.b r.amt
  have m0 : moveE (holdL s.acs r.a r.amt) r.a r.b r.amt = 0 := by rw [m1]; exact hm
  obtain ⟨s1, s2⟩ := spend_of (y := r.amt) m0
  rw [m2, if_pos b1, b2] at s1 s2
  have hE : setE (rsvS s r) r = postE s.acs (moveL s.acs r.a r.b r.amt) := by
    unfold setE
    rw [e1, m0, if_pos rfl, m2, s1]
  refine ⟨hE, fun h0 => ?_, ?_⟩
  · unfold setS
    rw [hE, if_pos h0, e1, e2, e3, m2, s2]
  · unfold undS undE
    rw [e1, b1, if_pos rfl, b2, e2, e3]
theorem trf_is {s : St} {r : Rq} (hr : rightB s.acs = true) (ls : List Bool) : trf s r ls =
    if rsvE s r = 0 then
      (if (fin ls r).1 = 0 then
        (if postE s.acs (moveL s.acs r.a r.b r.amt) = 0 then ⟨⟨postL s.acs (moveL s.acs r.a r.b r.amt), s.pys, s.now⟩, 0, (fin ls r).2⟩ else ⟨s, postE s.acs (moveL s.acs r.a r.b r.amt), (fin ls r).2⟩)
       else ⟨s, (fin ls r).1, (fin ls r).2⟩)
    else ⟨s, rsvE s r, 0⟩ := by
  unfold trf
  by_cases h : rsvE s r = 0
  · obtain ⟨h1, h2, h3⟩ := rsv_set hr h
    rw [if_pos h, if_pos h, h1, h3]
    by_cases hp : postE s.acs (moveL s.acs r.a r.b r.amt) = 0
    · rw [if_pos hp, if_pos hp, h2 hp]
    · rw [if_neg hp, if_neg hp]
  · rw [if_neg h, if_neg h]
/-- With an error the state is as it was. -/
theorem exe_err {s : St} {r : Rq} {ls : List Bool} (hr : rightB s.acs = true) (h : exeE s r ls ≠ 0) : exeT s r ls = s := by
  unfold exeE at h
  unfold exeT
  by_cases hl : isLong r
  · rw [if_pos hl] at h ⊢
    rw [trf_is hr] at h ⊢
    split
    · rename_i h1
      rw [if_pos h1] at h
      split
      · rename_i h2
        rw [if_pos h2] at h
        split
        · rename_i h3
          rw [if_pos h3] at h
          exact absurd rfl h
        · rfl
      · rfl
    · rfl
  · rw [if_neg hl] at h ⊢
    exact opS_no h
/-- A right state stays so. -/
theorem exe_ok {s : St} {r : Rq} {ls : List Bool} (h : Ok s) (hm : r.may) : Ok (exeT s r ls) := by
  unfold exeT
  by_cases hl : isLong r
  · rw [if_pos hl, trf_is h.right]
    split
    · split
      · split
        · rename_i h3
          exact h.posted h3
        · exact h
      · exact h
    · exact h
  · rw [if_neg hl]
    obtain ⟨m1, m2, m3, m4⟩ := hm
    refine h.do_ r (fun h0 => ?_) (fun _ => m3.2)
    unfold opOk at m4
    rw [if_pos h0] at m4
    omega
theorem bk_ok {s : St} {kl : List Kn} {r : Rq} {ls : List Bool} (h : Ok s) : Ok (bkO s kl r ls).T := by
  unfold bkO
  split
  · rename_i hm
    split
    · exact h
    · split
      · exact exe_ok h hm
      · exact h
  · exact h
theorem bk_len {s : St} {kl : List Kn} {r : Rq} {ls : List Bool} (h : kl.length ≤ 256) : (bkO s kl r ls).kl.length ≤ 256 := by
  unfold bkO
  split
  · split
    · exact h
    · split
      · rename_i hp
        rw [List.length_append, List.length_singleton]
        unfold kputE at hp
        split at hp
        · split at hp <;> omega
        · omega
      · exact h
  · exact h
end Go.Proofs.YteiljppljlmcbaaGreatDoor
