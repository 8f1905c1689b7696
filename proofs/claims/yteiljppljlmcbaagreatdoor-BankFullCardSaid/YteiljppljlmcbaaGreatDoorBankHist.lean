/-
  What is known of requests that asks make: all told, each key once; what is asked for again: plain words, no program.
-/
import Derived.Test.YteiljppljlmcbaaGreatDoorBankOk
import Derived.Test.YteiljppljlmcbaaGreatDoorReqAsk
namespace Go.Proofs.YteiljppljlmcbaaGreatDoor
open Go Go.RowKit
set_option linter.unusedVariables false

theorem nodup_le : ∀ (n : Nat) (l : List Int), l.Nodup → (∀ x ∈ l, 0 ≤ x ∧ x < (n : Int)) → l.length ≤ n
  | 0, l, hn, h => by
    cases l with
    | nil => exact Nat.le_refl _
    | cons a r => have := h a (List.mem_cons_self ..); omega
  | n + 1, l, hn, h => by
    by_cases hm : (n : Int) ∈ l
    · have h1 := nodup_le n (l.erase (n : Int)) (hn.sublist List.erase_sublist) (fun x hx => by
        have h2 := (hn.mem_erase_iff).1 hx
        have h3 := h x h2.2
        have h4 := h2.1
        omega)
      have h2 := List.length_erase_of_mem hm
      omega
    · have h1 := nodup_le n l hn (fun x hx => by
        have h3 := h x hx
        have h4 : x ≠ (n : Int) := fun e => hm (e ▸ hx)
        omega)
      omega
/-- All told, of small keys, each once. -/
structure Hist (kl : List Kn) : Prop where
  told : ∀ k ∈ kl, k.told = true ∧ k.rq.b ≤ 14 ∧ 0 ≤ k.rq.key ∧ k.rq.key < 256
  once : (kl.map fun k => k.rq.key).Nodup
theorem Hist.nil : Hist [] := ⟨fun k hk => (List.not_mem_nil hk).elim, List.nodup_nil⟩
theorem Hist.len {kl : List Kn} (h : Hist kl) : kl.length ≤ 256 := by
  have := nodup_le 256 (kl.map fun k => k.rq.key) h.once (fun x hx => by
    obtain ⟨k, hk, rfl⟩ := List.mem_map.1 hx
    exact (h.told k hk).2.2)
  rwa [List.length_map] at this
theorem Hist.room {kl : List Kn} (h : Hist kl) {key : Int} (hk : 0 ≤ key ∧ key < 256) (hf : findN kl key = none) : kl.length < 256 := by
  have h0 := find_none.1 hf
  have := nodup_le 256 (key :: kl.map fun k => k.rq.key) (List.nodup_cons.2 ⟨fun hm => by
    obtain ⟨k, hk, e⟩ := List.mem_map.1 hm
    obtain ⟨j, hj⟩ := List.getElem?_of_mem hk
    exact h0 j k hj e, h.once⟩) (fun x hx => by
    rcases List.mem_cons.1 hx with rfl | hx
    · exact hk
    · obtain ⟨k, hk, rfl⟩ := List.mem_map.1 hx
      exact (h.told k hk).2.2)
  rw [List.length_cons, List.length_map] at this
  omega
theorem Hist.put {kl : List Kn} (h : Hist kl) {r : Rq} (hr : r.b ≤ 14 ∧ 0 ≤ r.key ∧ r.key < 256) (hf : findN kl r.key = none) (e i : Int) : Hist (kl ++ [⟨r, e, i, true⟩]) := by
  have h0 := find_none.1 hf
  refine ⟨fun k hk => ?_, ?_⟩
  · rcases List.mem_append.1 hk with hk | hk
    · exact h.told k hk
    · rw [List.mem_singleton] at hk
      subst hk
      exact ⟨rfl, hr.1, hr.2⟩
  · rw [List.map_append, List.nodup_append]
    refine ⟨h.once, List.nodup_cons.2 ⟨List.not_mem_nil, List.nodup_nil⟩, ?_⟩
    intro a ha b hb e
    simp only [List.map_cons, List.map_nil, List.mem_singleton] at hb
    obtain ⟨k, hk, hka⟩ := List.mem_map.1 ha
    obtain ⟨j, hj⟩ := List.getElem?_of_mem hk
    exact h0 j k hj (by rw [hka, e, hb])
/-- A request that asks make: small. -/
def Rq.few (r : Rq) : Prop := r.may ∧ (0 ≤ r.b ∧ r.b ≤ 14) ∧ 0 ≤ r.key ∧ r.key < 256
theorem Ak.few (z : Ak) (h : z.fits) : z.req.few := by
  have hk := h.key
  refine ⟨z.req_may h, ⟨?_, ?_⟩, ?_, ?_⟩ <;> unfold Ak.req <;> dsimp only <;> omega
/-- The other request of the same key. -/
def Rq.far (r : Rq) : Rq := ⟨r.key, r.op, r.a, r.b + 1000, r.amt, r.legs, r.til⟩
theorem Rq.far_may {r : Rq} (h : r.may) : r.far.may := by
  obtain ⟨h1, h2, h3, h4⟩ := h
  exact ⟨h1, h2, h3, h4⟩
theorem ask_found {kl : List Kn} {r : Rq} {i : Nat} {k : Kn} (hf : findN kl r.key = some i) (hk : kl[i]? = some k) (ht : k.told = true) : askR kl r = if k.rq = r then (k.err, k.id, true) else (5, 0, true) := by
  unfold askR
  rw [hf]
  dsimp only
  rw [knAt_of hk, ht]
  simp
/-- What is asked for again is told as at first, and nothing else happens. -/
theorem bk_again {s : St} {kl : List Kn} {r : Rq} {ls : List Bool} (h : Hist kl) (hr : r.few) :
    Hist (bkO s kl r ls).kl ∧ askR (bkO s kl r ls).kl r = ((bkO s kl r ls).E, (bkO s kl r ls).I, true) ∧ askR (bkO s kl r ls).kl r.far = (5, 0, true) := by
  obtain ⟨hm, hb, hk⟩ := hr
  have hne : ∀ k : Kn, k.rq.b ≤ 14 → ¬ k.rq = r.far := fun k h1 e => by
    have h2 : k.rq.b = r.b + 1000 := by rw [e]; rfl
    omega
  cases hf : findN kl r.key with
  | some i =>
    obtain ⟨k, hki, hkk⟩ := find_get hf
    obtain ⟨t1, t2, t3⟩ := h.told k (List.mem_of_getElem? hki)
    have h1 := ask_found hf hki t1
    have h3 : (askR kl r).2.2 = true := by rw [h1]; split <;> rfl
    have hX : bkO s kl r ls = ⟨s, kl, (askR kl r).1, (askR kl r).2.1, 0⟩ := by unfold bkO; rw [if_pos hm, if_pos h3]
    rw [hX]
    refine ⟨h, ?_, ?_⟩
    · dsimp only
      rw [← h3]
    · have h2 := ask_found (r := r.far) (show findN kl r.far.key = some i from hf) hki t1
      dsimp only
      rw [h2, if_neg]
      exact hne k t2
  | none =>
    have hl := h.room hk hf
    have hp : kputE kl r = 0 := by unfold kputE; rw [if_pos hf, if_neg (by omega)]
    have h3 : ¬ (askR kl r).2.2 = true := fun e => (find_askR.1 e) hf
    have hX : bkO s kl r ls = ⟨exeT s r ls, kl ++ [⟨r, exeE s r ls, exeI s r ls, true⟩], exeE s r ls, exeI s r ls, exeN s r ls⟩ := by unfold bkO; rw [if_pos hm, if_neg h3, if_pos hp]
    rw [hX]
    dsimp only
    have hs : findN (kl ++ [⟨r, exeE s r ls, exeI s r ls, true⟩]) r.key = some kl.length := by rw [find_snoc, hf]; simp
    have ha : (kl ++ [(⟨r, exeE s r ls, exeI s r ls, true⟩ : Kn)])[kl.length]? = some ⟨r, exeE s r ls, exeI s r ls, true⟩ := by simp
    refine ⟨h.put ⟨hb.2, hk⟩ hf _ _, ?_, ?_⟩
    · rw [ask_found hs ha rfl, if_pos rfl]
    · rw [ask_found (r := r.far) hs ha rfl, if_neg]
      intro e
      have : r.b = r.b + 1000 := congrArg Rq.b e
      omega
theorem bk_known {s : St} {kl : List Kn} {r : Rq} {ls : List Bool} {e i : Int} (hm : r.may) (h : askR kl r = (e, i, true)) : bkO s kl r ls = ⟨s, kl, e, i, 0⟩ := by
  unfold bkO
  rw [if_pos hm, h, if_pos rfl]
end Go.Proofs.YteiljppljlmcbaaGreatDoor
