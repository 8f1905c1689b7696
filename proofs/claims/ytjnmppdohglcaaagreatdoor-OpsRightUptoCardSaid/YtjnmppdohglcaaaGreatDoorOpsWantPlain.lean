/-
  A tick, payment by payment, as the law counts it: plain words.
-/
import Derived.Test.YtjnmppdohglcaaaGreatDoorOpsTickPlain
namespace Go.Proofs.YtjnmppdohglcaaaGreatDoor
open Go Go.RowKit
set_option linter.unusedVariables false

/-- The first ones are closed, if their time is over. -/
def closedTo (t : Int) (k : Nat) (ps : List Py) : List Py := (ps.take k).map (closeP t) ++ ps.drop k
theorem closedTo_len (t : Int) (k : Nat) (ps : List Py) : (closedTo t k ps).length = ps.length := by unfold closedTo; simp; omega
theorem closedTo_zero (t : Int) (ps : List Py) : closedTo t 0 ps = ps := by simp [closedTo]
theorem closedTo_all (t : Int) (ps : List Py) : closedTo t ps.length ps = ps.map (closeP t) := by simp [closedTo]
theorem closedTo_at {t : Int} {k : Nat} {ps : List Py} {p : Py} (h : ps[k]? = some p) : (closedTo t k ps)[k]? = some p := by
  have hk : k < ps.length := (List.getElem?_eq_some_iff.1 h).1
  unfold closedTo
  rw [List.getElem?_append_right (by simp; omega), List.length_map, List.length_take, Nat.min_eq_left (by omega), Nat.sub_self, List.getElem?_drop, Nat.add_zero]
  exact h
theorem closedTo_next {t : Int} {k : Nat} {ps : List Py} {p : Py} (h : ps[k]? = some p) : closedTo t (k + 1) ps = (closedTo t k ps).set k (closeP t p) := by
  have hk : k < ps.length := (List.getElem?_eq_some_iff.1 h).1
  have hd : ps.drop k = p :: ps.drop (k + 1) := by
    rw [List.drop_eq_getElem_cons hk]
    congr 1
    rw [List.getElem?_eq_getElem hk] at h
    exact Option.some.inj h
  unfold closedTo
  rw [hd, List.take_add_one, h]
  have hl : ((ps.take k).map (closeP t)).length = k := by simp; omega
  rw [List.set_append_right _ _ (by omega), hl, Nat.sub_self, List.set_cons_zero, List.map_append, Option.toList_some, List.map_cons, List.map_nil, List.append_assoc]
  rfl
theorem heldL_set {ps : List Py} {zs : List Ac} {q f : Nat} {p x : Py} {a : Ac} (hp : ps[q]? = some p) (hf : p.frm = (f : Int)) (hx : x.frm = p.frm) (ha : zs[f]? = some a) :
    heldL (ps.set q x) zs = (heldL ps zs).set f ⟨a.cur, a.bal, hsum f ps - hpart f p + hpart f x⟩ := by
  have hfl : f < zs.length := (List.getElem?_eq_some_iff.1 ha).1
  refine List.ext_getElem? fun j => ?_
  by_cases hj : f = j
  · subst hj
    rw [List.getElem?_set_self (by rw [heldL_len]; exact hfl), heldL_at, ha, Option.map_some, hsum_set f x hp]
  · rw [List.getElem?_set_ne hj, heldL_at, heldL_at]
    cases hz : zs[j]? with
    | none => rfl
    | some b =>
      rw [Option.map_some, Option.map_some, hsum_set j x hp]
      have e1 : hpart j p = 0 := by unfold hpart; rw [if_neg (by omega)]
      have e2 : hpart j x = 0 := by unfold hpart; rw [if_neg (by omega)]
      rw [e1, e2]
      congr 2
      omega
/-- What is wanted so far. -/
def wantS (s : St) (k : Nat) : St := ⟨heldL (closedTo (s.now + 1) k s.pys) s.acs, closedTo (s.now + 1) k s.pys, s.now + 1⟩
theorem want_zero {s : St} (h : Ok s) : wantS s 0 = ⟨s.acs, s.pys, s.now + 1⟩ := by unfold wantS; rw [closedTo_zero, h.heldL]
theorem want_all {s : St} (hn : ¬ s.now = 1073741824) : wantS s s.pys.length = tickS s := by unfold wantS tickS; rw [closedTo_all, if_neg hn]
theorem want_stay {s : St} {k : Nat} {p : Py} (hp : s.pys[k]? = some p) (hc : ¬ (p.stg = 0 ∧ p.til ≤ s.now + 1)) : wantS s (k + 1) = wantS s k := by
  have e : closedTo (s.now + 1) (k + 1) s.pys = closedTo (s.now + 1) k s.pys := by
    rw [closedTo_next hp, show closeP (s.now + 1) p = p by unfold closeP; rw [if_neg hc]]
    refine List.ext_getElem? fun j => ?_
    by_cases hj : k = j
    · subst hj
      rw [List.getElem?_set_self (by rw [closedTo_len]; exact (List.getElem?_eq_some_iff.1 hp).1), closedTo_at hp]
    · rw [List.getElem?_set_ne hj]
  unfold wantS
  rw [e]
theorem want_next {s : St} (h : Ok s) {k : Nat} {p : Py} (hp : s.pys[k]? = some p) (hc : p.stg = 0 ∧ p.til ≤ s.now + 1) : ∃ (f : Nat) (a : Ac), p.frm = (f : Int) ∧ f < s.acs.length ∧ (wantS s k).acs[f]? = some a ∧ (p.aut - p.cap ≤ a.held) ∧ a.held ≤ 1125899906842624 ∧ (1 ≤ p.aut - p.cap) ∧
    wantS s (k + 1) = ⟨(wantS s k).acs.set f ⟨a.cur, a.bal, a.held - (p.aut - p.cap)⟩, (wantS s k).pys.set k ⟨p.frm, p.dst, p.aut, p.cap, p.ref, p.chg, p.til, 1⟩, s.now + 1⟩ := by
  have hm := List.mem_of_getElem? hp
  obtain ⟨h1, h2, h3, h4, h5⟩ := h.pays p hm
  obtain ⟨f, hf⟩ : ∃ f : Nat, p.frm = (f : Int) := ⟨p.frm.toNat, by unfold isC at h2; omega⟩
  have hfl : f < s.acs.length := by unfold isC at h2; omega
  obtain ⟨b, hb⟩ : ∃ b, s.acs[f]? = some b := ⟨_, List.getElem?_eq_getElem hfl⟩
  have hcl : closeP (s.now + 1) p = ⟨p.frm, p.dst, p.aut, p.cap, p.ref, p.chg, p.til, 1⟩ := by unfold closeP; rw [if_pos hc]
  have hat := closedTo_at (t := s.now + 1) hp
  have hhp : hpart f p = p.aut - p.cap := by unfold hpart; rw [if_pos ⟨hc.1, hf⟩]
  have hcaps : ∀ x ∈ closedTo (s.now + 1) k s.pys, x.cap ≤ x.aut := fun x hx => by
    unfold closedTo at hx
    rcases List.mem_append.1 hx with hx | hx
    · obtain ⟨y, hy, rfl⟩ := List.mem_map.1 hx
      have := (h.pays y (List.mem_of_mem_take hy)).1.2.1
      unfold closeP
      split
      · exact this.2
      · exact this.2
    · exact (h.pays x (List.mem_of_mem_drop hx)).1.2.1.2
  have hge : hpart f p ≤ hsum f (closedTo (s.now + 1) k s.pys) := hsum_ge f hcaps (List.mem_of_getElem? hat)
  have hle : hsum f (closedTo (s.now + 1) k s.pys) ≤ hsum f s.pys := by
    have hx := hsum_close f (s.now + 1) (s.pys.take k) (fun x hx => (h.pays x (List.mem_of_mem_take hx)).1.2.1.2)
    unfold closedTo
    rw [hsum_append]
    have e : hsum f s.pys = hsum f (s.pys.take k) + hsum f (s.pys.drop k) := by rw [← hsum_append, List.take_append_drop]
    omega
  have hheld := h.held f b hb
  obtain ⟨r1, r2, r3, r4⟩ := right_at h.right hb
  have r5 := r4 (by unfold isC at h2; omega)
  unfold isMay at r2
  have hcap := h5 hc.1
  refine ⟨f, ⟨b.cur, b.bal, hsum f (closedTo (s.now + 1) k s.pys)⟩, hf, hfl, ?_, by dsimp only; omega, by dsimp only; omega, by omega, ?_⟩
  · show (heldL (closedTo (s.now + 1) k s.pys) s.acs)[f]? = _
    rw [heldL_at, hb, Option.map_some]
  · unfold wantS
    dsimp only
    rw [closedTo_next hp, heldL_set (x := closeP (s.now + 1) p) hat hf (closeP_frm _ _).1 hb, hcl]
    have e0 : hpart f ⟨p.frm, p.dst, p.aut, p.cap, p.ref, p.chg, p.til, 1⟩ = 0 := by unfold hpart; rw [if_neg (by simp)]
    rw [e0, hhp]
    congr 3
    omega
/-- Behind a tick nobody's time is over. -/
theorem tick_none {s : St} (hn : ¬ s.now = 1073741824) {out : List Int} (hd : DueIs (tickS s).pys out) : byL (tickS s).pys (tickS s).now out = [] := by
  unfold tickS at hd ⊢
  rw [if_neg hn] at hd ⊢
  dsimp only at hd ⊢
  refine byL_none fun a r e => ?_
  subst e
  obtain ⟨k, hk, rfl, hs⟩ := (hd.mem a).1 (List.mem_cons_self ..)
  rw [List.length_map] at hk
  obtain ⟨p, hp⟩ : ∃ p, s.pys[k]? = some p := ⟨_, List.getElem?_eq_getElem hk⟩
  have hg : (s.pys.map (closeP (s.now + 1))).getD k Py.zero = closeP (s.now + 1) p := by rw [List.getD_eq_getElem?_getD, List.getElem?_map, hp]; rfl
  rw [tilP_nat, hg]
  rw [hg] at hs
  unfold closeP at hs ⊢
  by_cases hc : p.stg = 0 ∧ p.til ≤ s.now + 1
  · rw [if_pos hc] at hs
    exact absurd hs (by simp)
  · rw [if_neg hc] at hs ⊢
    by_cases h : s.now + 1 < p.til
    · exact h
    · exact absurd ⟨hs, by omega⟩ hc
end Go.Proofs.YtjnmppdohglcaaaGreatDoor
