/-
  What was told once is told again, whatever happened since: plain words.
-/
import Derived.Test.YteifgmdaggiaaaaGreatDoorQGrL
namespace Go.Proofs.YteifgmdaggiaaaaGreatDoor
open Go Go.RowKit
set_option linter.unusedVariables false
theorem GoodX.keep {X : Eg} (h : GoodX X) (e : Ev) {k : Kn} (hk : k ∈ X.kl) (ht : k.told = true) : k ∈ (egO X e).X.kl := by
 have happ : ∀ b : Kn, k ∈ X.kl ++ [b] := fun b => List.mem_append_left _ hk
 have hend : ∀ (T : St) (i : Nat) (g : Sg) (why : Int), X.sl[i]? = some g → k ∈ (endO ⟨T, X.sl, X.kl⟩ i g why).X.kl := fun T i g why hg => by
  obtain ⟨x, y, l1, l2, a, e1, e2, e3, e4, e5, e6, e7⟩ := h.at_ hg
  have hon := h.once
  unfold endO
  dsimp only
  rw [e3] at hon hk
  rw [e3, ← e4, tell_at hon e5]
  rcases List.mem_append.1 hk with hk | hk
  · exact List.mem_append_left _ hk
  · rcases List.mem_cons.1 hk with hk | hk
    · rw [hk, e5] at ht; cases ht
    · exact List.mem_append_right _ (List.mem_cons_of_mem _ hk)
 unfold egO egOT
 split
 · unfold subO
   split
   · split
     · exact hk
     · split
       · exact hk
       · split
         · rename_i hp
           have htold : ∀ e' i : Int, toldL (putL X.kl e.rq) e.rq.key e' i = X.kl ++ [⟨e.rq, e', i, true⟩] := fun e' i => by
            obtain ⟨_, p2, p3⟩ := put_told hp e' i
            unfold toldL
            rw [if_pos p2, p3]
           split
           · unfold begO
             dsimp only
             split
             · obtain ⟨p1, _, _⟩ := put_told hp 0 0
               rw [p1]
               exact happ _
             · rw [htold]
               exact happ _
           · rw [htold]
             exact happ _
         · exact hk
   · exact hk
 · split
   · unfold stpO
     cases hf : findS X.sl e.key with
     | none => exact hk
     | some i =>
       dsimp only
       obtain ⟨⟨g, hg, _⟩, _⟩ := findS_some.1 hf
       rw [List.getD_eq_getElem?_getD, hg, Option.getD_some]
       unfold stepAt
       split
       · exact hend _ i g _ hg
       · split
         · split
           · exact hend _ i g _ hg
           · exact hk
         · exact hk
   · split
     · exact hk
     · exact hk
/-- What is known is told. -/
theorem GoodX.ask {X : Eg} (h : GoodX X) {r : Rq} {e i : Int} (hk : (⟨r, e, i, true⟩ : Kn) ∈ X.kl) : askR X.kl r = (e, i, true) := by
 obtain ⟨l1, l2, hl⟩ := List.append_of_mem hk
 have hon := h.once
 rw [hl] at hon ⊢
 obtain ⟨_, hf⟩ := once_at hon
 unfold askR
 rw [hf]
 dsimp only
 rw [knAt_of (a := ⟨r, e, i, true⟩) (by simp), if_pos rfl, if_pos rfl]
theorem sub_known {X : Eg} {r : Rq} {e i : Int} (hm : r.may) (h : askR X.kl r = (e, i, true)) : subO X r = ⟨X, e, i⟩ := by
 unfold subO
 rw [if_pos hm, h, if_pos rfl]
/-- What is told of a request is known then. -/
theorem sub_told {X : Eg} {r : Rq} (hm : r.may) (h10 : (subO X r).E ≠ 10) (h5 : (subO X r).E ≠ 5) (h7 : (subO X r).E ≠ 7) : (⟨r, (subO X r).E, (subO X r).I, true⟩ : Kn) ∈ (subO X r).X.kl := by
 unfold subO at h10 h5 h7 ⊢
 rw [if_pos hm] at h10 h5 h7 ⊢
 by_cases ha : (askR X.kl r).2.2 = true
 · rw [if_pos ha] at h10 h5 h7 ⊢
   dsimp only at h10 h5 h7 ⊢
   unfold askR at ha h10 h5 ⊢
   cases hf : findN X.kl r.key with
   | none => rw [hf] at ha; cases ha
   | some i =>
     rw [hf] at h10 h5
     dsimp only at h10 h5 ⊢
     obtain ⟨a, hai, _⟩ := find_get hf
     rw [knAt_of hai] at h10 h5 ⊢
     by_cases hr : a.rq = r
     · rw [if_pos hr] at h10 h5 ⊢
       by_cases ht : a.told = true
       · rw [if_pos ht]
         have hm := List.mem_of_getElem? hai
         rw [← hr, ← ht]
         exact hm
       · rw [if_neg ht] at h10
         exact absurd rfl h10
     · rw [if_neg hr] at h5
       exact absurd rfl h5
 · rw [if_neg ha] at h10 h5 h7 ⊢
   by_cases h16 : isLong r ∧ 16 ≤ X.sl.length
   · rw [if_pos h16] at h7
     exact absurd rfl h7
   · rw [if_neg h16] at h10 h5 h7 ⊢
     by_cases hp : kputE X.kl r = 0
     · rw [if_pos hp] at h10 h5 h7 ⊢
       have htold : ∀ e' i : Int, toldL (putL X.kl r) r.key e' i = X.kl ++ [⟨r, e', i, true⟩] := fun e' i => by
        obtain ⟨_, p2, p3⟩ := put_told hp e' i
        unfold toldL
        rw [if_pos p2, p3]
       by_cases hl : isLong r
       · rw [if_pos hl] at h10 h5 h7 ⊢
         unfold begO at h10 h5 h7 ⊢
         dsimp only at h10 h5 h7 ⊢
         by_cases hr : rsvE X.T r = 0
         · rw [if_pos hr] at h10
           exact absurd rfl h10
         · rw [if_neg hr]
           dsimp only
           rw [htold]
           exact List.mem_append_right _ (List.mem_singleton.2 rfl)
       · rw [if_neg hl]
         dsimp only
         rw [htold]
         exact List.mem_append_right _ (List.mem_singleton.2 rfl)
     · rw [if_neg hp] at h5 h7
       dsimp only at h5 h7
       unfold kputE at h5 h7
       split at h5
       · rename_i hf
         rw [if_pos hf] at h7
         split at h7
         · exact absurd rfl h7
         · rename_i hn
           exact absurd (by unfold kputE; rw [if_pos hf, if_neg hn]) hp
       · exact absurd rfl h5
end Go.Proofs.YteifgmdaggiaaaaGreatDoor
