/-
  Payments whose time is over are voided one by one: it comes to a tick: plain words.
-/
import Derived.Test.YtjnmppdohglcaaaGreatDoorGrE
import Derived.Test.YtjnmppdohglcaaaGreatDoorDueBy
namespace Go.Proofs.YtjnmppdohglcaaaGreatDoor
open Go Go.RowKit
set_option linter.unusedVariables false

/-- A payment, closed. -/
def shut (p : Py) : Py := ⟨p.frm, p.dst, p.aut, p.cap, p.ref, p.chg, p.til, 1⟩
theorem hpart_nn (k : Nat) {p : Py} (h : p.cap ≤ p.aut) : 0 ≤ hpart k p := by unfold hpart; split <;> omega
theorem hsum_nn (k : Nat) : ∀ ps : List Py, (∀ p ∈ ps, p.cap ≤ p.aut) → 0 ≤ hsum k ps
  | [], _ => Int.le_refl _
  | p :: r, h => by
    rw [hsum_cons]
    have h1 := hpart_nn k (h p (List.mem_cons_self ..))
    have h2 := hsum_nn k r fun q hq => h q (List.mem_cons_of_mem _ hq)
    omega
theorem hsum_ge (k : Nat) : ∀ {ps : List Py} {p : Py}, (∀ p ∈ ps, p.cap ≤ p.aut) → p ∈ ps → hpart k p ≤ hsum k ps
  | q :: r, p, h, hp => by
    rw [hsum_cons]
    rcases List.mem_cons.1 hp with rfl | hp
    · have := hsum_nn k r fun q hq => h q (List.mem_cons_of_mem _ hq)
      omega
    · have h1 := hpart_nn k (h q (List.mem_cons_self ..))
      have h2 := hsum_ge k (fun q hq => h q (List.mem_cons_of_mem _ hq)) hp
      omega
/-- Void of an open payment goes. -/
theorem Ok.void {s : St} (h : Ok s) {q : Nat} {p : Py} (hp : s.pys[q]? = some p) (ho : p.stg = 0) :
    opE s ⟨0, 5, q, 0, 0, 0, 0⟩ = 0 ∧ relE s.acs p.frm (leftP p) = 0 ∧ opS s ⟨0, 5, q, 0, 0, 0, 0⟩ = ⟨relL s.acs p.frm (leftP p), s.pys.set q (shut p), s.now⟩ := by
  have hm := List.mem_of_getElem? hp
  obtain ⟨h1, h2, h3, h4, h5⟩ := h.pays p hm
  have hq : q < s.pys.length := (List.getElem?_eq_some_iff.1 hp).1
  have hleft := h1.left
  rw [if_pos ho] at hleft
  have hcap := h5 ho
  have hpr := h1
  obtain ⟨f, hf⟩ : ∃ f : Nat, p.frm = (f : Int) := ⟨p.frm.toNat, by unfold isC at h2; omega⟩
  obtain ⟨a, ha⟩ : ∃ a, s.acs[f]? = some a := ⟨_, List.getElem?_eq_getElem (by unfold isC at h2; omega)⟩
  have hR : relE s.acs p.frm (leftP p) = 0 := by
    have hge := hsum_ge f (ps := s.pys) (fun x hx => (h.pays x hx).1.2.1.2) hm
    have hhp : hpart f p = p.aut - p.cap := by unfold hpart; rw [if_pos ⟨ho, hf⟩]
    have hh := h.held f a ha
    unfold isC at h2
    unfold Py.right at hpr
    have hM : mayE s.acs.length (f : Int) (p.aut - p.cap) = 0 := by unfold mayE; rw [if_pos (by omega), if_pos (by omega)]
    unfold relE
    rw [hleft, hf, hM, if_pos rfl, acOf_at ha, if_neg (by omega)]
  have hP : payE p 5 0 = 0 := by
    unfold payE
    rw [if_neg (by decide), if_pos rfl, if_pos ho]
  have hE : opE s ⟨0, 5, q, 0, 0, 0, 0⟩ = 0 := by
    unfold opE payOpE
    dsimp only
    rw [if_neg (by decide), if_neg (by decide), if_neg (by decide), if_neg (by decide), if_pos (by decide), if_pos (by omega), pyAt_at hp, if_pos hP]
    unfold accE
    rw [if_pos rfl, hR]
  refine ⟨hE, hR, ?_⟩
  rw [opS_yes hE]
  unfold opT
  dsimp only
  rw [if_neg (by decide), if_neg (by decide), if_neg (by decide), if_neg (by decide), pyAt_at hp, payP_5, Int.toNat_natCast]
  unfold accL
  rw [if_pos rfl]
  rfl
/-- These payments were voided, and nothing else. -/
structure VoidTo (s0 : St) (L : List Int) (s : St) : Prop where
  ok : Ok s
  now : s.now = s0.now
  len : s.acs.length = s0.acs.length
  bal : ∀ (j : Nat) (a b : Ac), s0.acs[j]? = some a → s.acs[j]? = some b → a.cur = b.cur ∧ a.bal = b.bal
  plen : s.pys.length = s0.pys.length
  pys : ∀ (j : Nat) (p : Py), s0.pys[j]? = some p → s.pys[j]? = some (if (j : Int) ∈ L then shut p else p)
theorem VoidTo.none {s : St} (h : Ok s) : VoidTo s [] s := ⟨h, rfl, rfl, fun j a b ha hb => by rw [ha] at hb; injection hb with hb; subst hb; exact ⟨rfl, rfl⟩, rfl, fun j p hp => by simpa using hp⟩
theorem VoidTo.next {s0 s : St} {L : List Int} (h : VoidTo s0 L s) {q : Nat} {p : Py} (hp : s0.pys[q]? = some p) (ho : p.stg = 0) (hn : (q : Int) ∉ L) : VoidTo s0 (L ++ [(q : Int)]) (opS s ⟨0, 5, q, 0, 0, 0, 0⟩) := by
  have hps : s.pys[q]? = some p := by have := h.pys q p hp; rwa [if_neg hn] at this
  obtain ⟨hE, hR, hS⟩ := h.ok.void hps ho
  have hok := h.ok.do_ ⟨0, 5, q, 0, 0, 0, 0⟩ (fun e => by cases e) (fun e => by cases e)
  have hfr := (h.ok.pays p (List.mem_of_getElem? hps)).2.1
  rw [hS] at hok ⊢
  obtain ⟨f, hf⟩ : ∃ f : Nat, p.frm = (f : Int) := ⟨p.frm.toNat, by unfold isC at hfr; omega⟩
  refine ⟨hok, h.now, (rel_len hR).trans h.len, fun j a b ha hb => ?_, by show (s.pys.set q (shut p)).length = _; rw [List.length_set]; exact h.plen, fun j x hx => ?_⟩
  · dsimp only at hb
    rw [hf] at hR hb
    obtain ⟨c, hc, rfl⟩ := rel_at h.ok.right hR hb
    exact h.bal j a c ha hc
  · show (s.pys.set q (shut p))[j]? = _
    by_cases hj : q = j
    · subst hj
      rw [hx] at hp
      injection hp with hp
      subst hp
      rw [List.getElem?_set_self (by have := (List.getElem?_eq_some_iff.1 hps).1; exact this), if_pos (by simp)]
    · rw [List.getElem?_set_ne hj, h.pys j x hx]
      have e : ((j : Int) ∈ L ++ [(q : Int)]) ↔ (j : Int) ∈ L := by
        rw [List.mem_append, List.mem_singleton]
        exact ⟨fun k => k.elim id (fun k => absurd (by omega : q = j) hj), .inl⟩
      by_cases hm : (j : Int) ∈ L
      · rw [if_pos hm, if_pos (e.2 hm)]
      · rw [if_neg hm, if_neg (fun k => hm (e.1 k))]
/-- All whose time is over were voided: a tick. -/
theorem VoidTo.tick {s0 s : St} {out : List Int} (h0 : Ok s0) (hd : DueIs s0.pys out) (h : VoidTo s0 (byL s0.pys s0.now out) s) : s = ⟨heldL (s0.pys.map (closeP s0.now)) s0.acs, s0.pys.map (closeP s0.now), s0.now⟩ := by
  have hmem : ∀ (j : Nat) (p : Py), s0.pys[j]? = some p → (((j : Int) ∈ byL s0.pys s0.now out) ↔ (p.stg = 0 ∧ p.til ≤ s0.now)) := fun j p hp => by
    have hlt := (List.getElem?_eq_some_iff.1 hp).1
    have hg : s0.pys.getD j Py.zero = p := by rw [List.getD_eq_getElem?_getD, hp]; rfl
    rw [← byL_filter out hd.order, List.mem_filter, hd.mem, decide_eq_true_iff, tilP_nat, hg]
    unfold isOpen
    constructor
    · rintro ⟨⟨k, hk, e, hs⟩, ht⟩
      obtain rfl : j = k := by omega
      rw [hg] at hs
      exact ⟨hs, ht⟩
    · rintro ⟨hs, ht⟩
      exact ⟨⟨j, hlt, rfl, by rw [hg]; exact hs⟩, ht⟩
  have hpys : s.pys = s0.pys.map (closeP s0.now) := by
    refine List.ext_getElem? fun j => ?_
    rw [List.getElem?_map]
    by_cases hj : j < s0.pys.length
    · obtain ⟨p, hp⟩ : ∃ p, s0.pys[j]? = some p := ⟨_, List.getElem?_eq_getElem hj⟩
      rw [h.pys j p hp, hp, Option.map_some]
      unfold closeP
      by_cases hc : p.stg = 0 ∧ p.til ≤ s0.now
      · rw [if_pos ((hmem j p hp).2 hc), if_pos hc]; rfl
      · rw [if_neg (fun k => hc ((hmem j p hp).1 k)), if_neg hc]
    · rw [List.getElem?_eq_none (by rw [h.plen]; omega), List.getElem?_eq_none (by omega)]
      rfl
  have hacs := h.ok.as_of (zs := s0.acs) h.len.symm (fun j a b ha hb => by obtain ⟨e1, e2⟩ := h.bal j b a hb ha; exact ⟨e1.symm, e2.symm⟩)
  obtain ⟨za, zp, zn⟩ := s
  have hnow := h.now
  dsimp only at hpys hacs hnow
  subst hnow
  rw [← hpys, ← hacs]
end Go.Proofs.YtjnmppdohglcaaaGreatDoor
