/-
  What a charge makes of balances: plain words, no program.
-/
import Derived.Test.YteiljppljlmcbaaGreatDoorGrE
import Derived.Test.YteiljppljlmcbaaGreatDoorGrH
namespace Go.Proofs.YteiljppljlmcbaaGreatDoor
open Go Go.RowKit
set_option linter.unusedVariables false

/-- What entries add to an account. -/
def asum (k : Int) : List En → Int
  | [] => 0
  | e :: r => (if e.acct = k then e.amt else 0) + asum k r
theorem asum_same (k x : Int) (r : List En) : asum k (⟨k, x⟩ :: r) = x + asum k r := by
  rw [asum, if_pos rfl]
theorem asum_other {k q : Int} (h : q ≠ k) (x : Int) (r : List En) : asum k (⟨q, x⟩ :: r) = asum k r := by
  rw [asum, if_neg h, Int.zero_add]
theorem asum_none (k : Int) : asum k [] = 0 := rfl
theorem postGo_at : ∀ {es : List En} {zs ys : List Ac}, postGo zs es = some ys → ∀ (k : Nat) (a : Ac), zs[k]? = some a → ys[k]? = some ⟨a.cur, a.bal + asum (k : Int) es, a.held⟩
  | [], zs, ys, h, k, a, ha => by
    injection h with h
    subst h
    rw [ha, asum, Int.add_zero]
  | e :: r, zs, ys, h, k, a, ha => by
    obtain ⟨z1, h1, h2⟩ := postGo_cons h
    obtain ⟨b, hb, ho, rfl, h0⟩ := putE_ok h1
    have hl := (List.getElem?_eq_some_iff.1 hb).1
    rw [asum]
    by_cases hk : e.acct.toNat = k
    · rw [hk] at hb hl h2
      rw [ha] at hb
      injection hb with hb
      subst hb
      rw [postGo_at h2 k _ (List.getElem?_set_self hl), if_pos (by omega)]
      dsimp only
      congr 2
      omega
    · rw [postGo_at h2 k a (by rw [List.getElem?_set_ne hk]; exact ha), if_neg (by omega), Int.zero_add]
theorem back_two {f t n : Int} (hn : 1 ≤ n ∧ n ≤ 65535) : backE [⟨f, -n⟩, ⟨t, n⟩] = [⟨t, -n⟩, ⟨f, n⟩] := by
  unfold backE negE
  simp only [List.map_cons, List.map_nil, List.reverse_cons, List.reverse_nil, List.nil_append, List.cons_append]
  rw [w64 (x := -n) (by omega) (by omega), w64 (x := - -n) (by omega) (by omega), Int.neg_neg]
theorem back_four {f t n a b c : Int} (hn : 1 ≤ n ∧ n ≤ 65535) (hc : 0 ≤ c ∧ c ≤ 1099511627776) : backE [⟨f, -n⟩, ⟨a, n⟩, ⟨b, -c⟩, ⟨t, c⟩] = [⟨t, -c⟩, ⟨b, c⟩, ⟨a, -n⟩, ⟨f, n⟩] := by
  unfold backE negE
  simp only [List.map_cons, List.map_nil, List.reverse_cons, List.reverse_nil, List.nil_append, List.cons_append]
  rw [w64 (x := -n) (by omega) (by omega), w64 (x := - -n) (by omega) (by omega), w64 (x := - -c) (by omega) (by omega), w64 (x := -c) (by omega) (by omega), Int.neg_neg, Int.neg_neg]
/-- What a charge's entries add to whom it goes back. -/
theorem chg_from {zs : List Ac} {f t n : Int} (hr : rightB zs = true) (hm : moveE zs f t n = 0) (hn : n ≤ 65535) (hf : 9 ≤ f) (ht : 9 ≤ t) : asum f (chgL zs t (backE (moveL zs f t n))) = n := by
  obtain ⟨h1, h2, h3, h4, h5, h6⟩ := moveE_ok hm
  have hcu : Curs zs := fun j a ha => (right_at hr ha).1
  have ha := curOf_in hcu h1
  have hb := curOf_in hcu h2
  obtain ⟨tb, htb⟩ : ∃ a, zs[t.toNat]? = some a := ⟨_, List.getElem?_eq_getElem (by omega)⟩
  have hat : acOf zs t = tb := by
    have := acOf_at htb
    rwa [show ((t.toNat : Nat) : Int) = t by omega] at this
  have hcb := hcu _ _ htb
  unfold moveL
  rw [if_pos hm]
  unfold moveOk
  by_cases hab : curOf zs f = curOf zs t
  · rw [if_pos hab, back_two ⟨h4, hn⟩]
    unfold chgL
    dsimp only
    rw [hat]
    split
    · simp only [List.cons_append, List.nil_append]
      rw [asum_other (by omega), asum_same, asum_other (by omega), asum_none]
      omega
    · rw [asum_other (by omega), asum_same, asum_none]
      omega
  · have hcv := h6 hab
    have hcs := conv_small ha hb (show (0 : Int) ≤ n by omega) hn
    rw [if_neg hab, back_four ⟨h4, hn⟩ ⟨by omega, by omega⟩]
    unfold chgL
    dsimp only
    rw [hat]
    split
    · simp only [List.cons_append, List.nil_append]
      rw [asum_other (by omega), asum_other (by unfold exch; omega), asum_other (by unfold exch; omega), asum_same, asum_other (by omega), asum_none]
      omega
    · rw [asum_other (by omega), asum_other (by unfold exch; omega), asum_other (by unfold exch; omega), asum_same, asum_none]
      omega
theorem charge_gives {s : St} (h : Ok s) {i : Nat} {p : Py} (hp : s.pys[i]? = some p) {n : Int} (hn : 1 ≤ n ∧ n ≤ 256) (he : opE s ⟨0, 7, i, 0, n, 0, 0⟩ = 0) :
    ∃ (f t : Nat) (a b : Ac), p.frm = (f : Int) ∧ p.dst = (t : Int) ∧ s.acs[f]? = some a ∧ (opS s ⟨0, 7, i, 0, n, 0, 0⟩).acs[f]? = some ⟨a.cur, a.bal + n, a.held⟩ ∧ (opS s ⟨0, 7, i, 0, n, 0, 0⟩).acs[t]? = some b ∧ (0 ≤ b.held ∧ b.held ≤ b.bal) ∧ isMay b.bal ∧ isMay a.bal ∧
      (opS s ⟨0, 7, i, 0, n, 0, 0⟩).pys[i]? = some ⟨p.frm, p.dst, p.aut, p.cap, p.ref, p.chg + n, p.til, p.stg⟩ ∧ 0 ≤ p.chg ∧ p.chg + n ≤ 1099511627776 := by
  have hok := h.do_ ⟨0, 7, i, 0, n, 0, 0⟩ (fun e => by cases e) (fun e => by cases e)
  obtain ⟨h1, h2, h3, h4, h5⟩ := h.pays p (List.mem_of_getElem? hp)
  have hil := (List.getElem?_eq_some_iff.1 hp).1
  obtain ⟨f, hf⟩ : ∃ f : Nat, p.frm = (f : Int) := ⟨p.frm.toNat, by unfold isC at h2; omega⟩
  obtain ⟨t, ht⟩ : ∃ t : Nat, p.dst = (t : Int) := ⟨p.dst.toNat, by unfold isC at h3; omega⟩
  obtain ⟨a, ha⟩ : ∃ a, s.acs[f]? = some a := ⟨_, List.getElem?_eq_getElem (by unfold isC at h2; omega)⟩
  rw [opS_yes he] at hok ⊢
  have hgv := h1.gave
  have hT : opT s ⟨0, 7, i, 0, n, 0, 0⟩ = ⟨accL s.acs p 7 n, s.pys.set i (payP p 7 n), s.now⟩ := by
    unfold opT
    dsimp only
    rw [if_neg (by decide), if_neg (by decide), if_neg (by decide), if_neg (by decide), pyAt_at hp, Int.toNat_natCast]
  have hE : payE p 7 n = 0 ∧ accE s.acs p 7 n = 0 := by
    unfold opE payOpE at he
    dsimp only at he
    rw [if_neg (by decide), if_neg (by decide), if_neg (by decide), if_neg (by decide), if_pos (by decide), if_pos (by omega), pyAt_at hp] at he
    by_cases h0 : payE p 7 n = 0
    · rw [if_pos h0] at he
      exact ⟨h0, he⟩
    · rw [if_neg h0] at he
      exact absurd he h0
  obtain ⟨hP, hA⟩ := hE
  have hex : 1 ≤ n ∧ n ≤ gaveP p := by
    unfold payE at hP
    rw [if_neg (by decide), if_neg (by decide), if_neg (by decide), if_pos rfl] at hP
    exact excE_zero hP
  unfold accE at hA
  rw [if_neg (by decide)] at hA
  have hm : moveE s.acs p.frm p.dst n = 0 := by
    by_cases h0 : moveE s.acs p.frm p.dst n = 0
    · exact h0
    · rw [if_neg h0] at hA
      exact absurd hA h0
  rw [if_pos hm, if_neg (by decide), if_neg (by decide)] at hA
  obtain ⟨ys, hb, hg, hs, hl⟩ := postE_ok hA
  have hL : accL s.acs p 7 n = ys := by
    unfold accL
    rw [if_neg (by decide), if_neg (by decide), if_neg (by decide)]
    exact hl
  rw [hT, hL] at hok ⊢
  have hyl : ys.length = s.acs.length := (postGo_stay hg).len
  obtain ⟨b, hbt⟩ : ∃ b, ys[t]? = some b := ⟨_, List.getElem?_eq_getElem (by unfold isC at h3; omega)⟩
  obtain ⟨q1, q2, q3, q4⟩ := right_at hok.right hbt
  obtain ⟨_, r2, _, _⟩ := right_at h.right ha
  have hfa := postGo_at hg f a ha
  rw [show (f : Int) = p.frm from hf.symm, chg_from h.right hm (by omega) (by unfold isC at h2; omega) (by unfold isC at h3; omega)] at hfa
  unfold Py.right backOk at h1
  refine ⟨f, t, a, b, hf, ht, ha, hfa, hbt, q4 (by unfold isC at h3; omega), q2, r2, ?_, by omega, by omega⟩
  dsimp only
  rw [List.getElem?_set_self hil]
  unfold payP
  rw [if_neg (by decide), if_neg (by decide), if_neg (by decide), if_pos rfl, w64 (by omega) (by omega)]
theorem postGo_step {zs z1 : List Ac} {e : En} {r : List En} (h : putE zs e = some z1) : postGo zs (e :: r) = postGo z1 r := by
  rw [postGo, h]
theorem short_no {zs ys : List Ac} {es : List En} (hr : rightB zs = true) (hbal : ∀ a ∈ zs, -1000000 ≤ a.bal ∧ a.bal ≤ 1000000) (hg : postGo zs es = some ys)
    (hk : ∀ (k : Nat) (a : Ac), 9 ≤ k → zs[k]? = some a → 0 ≤ a.bal - a.held + asum (k : Int) es ∧ asum (k : Int) es ≤ 10000000) : shortB ys = false := by
  unfold shortB shortGo
  rw [List.any_eq_false]
  intro x hx
  obtain ⟨j, hj⟩ := List.getElem?_of_mem hx
  rw [List.getElem?_drop] at hj
  have hl : ys.length = zs.length := (postGo_stay hg).len
  have hlt := (List.getElem?_eq_some_iff.1 hj).1
  obtain ⟨a, ha⟩ : ∃ a, zs[9 + j]? = some a := ⟨_, List.getElem?_eq_getElem (by omega)⟩
  have h1 := postGo_at hg (9 + j) a ha
  rw [hj] at h1
  injection h1 with h1
  subst h1
  obtain ⟨h2, h3⟩ := hk (9 + j) a (by omega) ha
  obtain ⟨h4, h5⟩ := hbal a (List.mem_of_getElem? ha)
  obtain ⟨_, _, _, q4⟩ := right_at hr ha
  have h6 := q4 (by omega)
  rw [Bool.not_eq_true, shortA_no]
  dsimp only
  rw [w64 (by omega) (by omega)]
  omega
theorem charge_goes {l : Nat} {t0 : Int} {s : St} (h : Made l t0 s) {i : Nat} {p : Py} (hp : s.pys[i]? = some p) {n : Int} (hn : 1 ≤ n ∧ n ≤ 256) (hgv : n ≤ gaveP p) (hc : curOf s.acs p.frm = curOf s.acs p.dst) : opE s ⟨0, 7, i, 0, n, 0, 0⟩ = 0 := by
  obtain ⟨h1, h2, h3, h4, h5⟩ := h.ok.pays p (List.mem_of_getElem? hp)
  have hil := (List.getElem?_eq_some_iff.1 hp).1
  obtain ⟨f, hf⟩ : ∃ f : Nat, p.frm = (f : Int) := ⟨p.frm.toNat, by unfold isC at h2; omega⟩
  obtain ⟨t, ht⟩ : ∃ t : Nat, p.dst = (t : Int) := ⟨p.dst.toNat, by unfold isC at h3; omega⟩
  unfold isC at h2 h3
  have hfn : f < s.acs.length := by omega
  have htn : t < s.acs.length := by omega
  obtain ⟨a, ha⟩ : ∃ a, s.acs[f]? = some a := ⟨_, List.getElem?_eq_getElem hfn⟩
  obtain ⟨b, hb⟩ : ∃ b, s.acs[t]? = some b := ⟨_, List.getElem?_eq_getElem htn⟩
  have hab := h.bal a (List.mem_of_getElem? ha)
  have hbb := h.bal b (List.mem_of_getElem? hb)
  obtain ⟨u1, u2, u3, u4⟩ := right_at h.ok.right ha
  obtain ⟨v1, v2, v3, v4⟩ := right_at h.ok.right hb
  have u5 := u4 (by omega)
  have v5 := v4 (by omega)
  rw [hf, ht] at hc h4
  have hcf := curOf_at ha
  have hct := curOf_at hb
  have hm : moveE s.acs p.frm p.dst n = 0 := by
    unfold moveE
    rw [hf, ht, if_neg (by omega), if_neg (by omega), if_pos hc]
  have hP : payE p 7 n = 0 := by
    unfold payE excE
    rw [if_neg (by decide), if_neg (by decide), if_neg (by decide), if_pos rfl, if_neg (by omega), if_neg (by omega)]
  unfold opE payOpE
  dsimp only
  rw [if_neg (by decide), if_neg (by decide), if_neg (by decide), if_neg (by decide), if_pos (by decide), if_pos (by omega), pyAt_at hp, if_pos hP]
  unfold accE
  rw [if_neg (by decide), if_pos hm, if_neg (by decide), if_neg (by decide)]
  unfold moveL
  rw [if_pos hm]
  unfold moveOk
  rw [hf, ht, if_pos hc, back_two ⟨hn.1, by omega⟩]
  unfold chgL
  dsimp only
  have hfo : freeOf s.acs (t : Int) = b.bal - b.held := by unfold freeOf; rw [acOf_at hb]
  rw [hfo, acOf_at hb]
  obtain ⟨L, hL⟩ : ∃ L : Nat, 3 * b.cur + 2 = (L : Int) := ⟨(3 * b.cur + 2).toNat, by omega⟩
  have hL9 : L < 9 := by omega
  obtain ⟨c, hcL⟩ : ∃ c, s.acs[L]? = some c := ⟨_, List.getElem?_eq_getElem (by omega)⟩
  have hcb := h.bal c (List.mem_of_getElem? hcL)
  obtain ⟨w1, w2, w3, _⟩ := right_at h.ok.right hcL
  have w5 := w3 hL9
  have hcL' := curOf_at hcL
  rw [hL]
  have hft : f ≠ t := by omega
  split
  · rename_i hlt
    have hg : postGo s.acs (⟨(t : Int), -(b.bal - b.held)⟩ :: ([⟨(f : Int), n⟩] ++ [⟨(L : Int), -n + (b.bal - b.held)⟩])) = some (((s.acs.set t ⟨b.cur, b.bal + -(b.bal - b.held), b.held⟩).set f ⟨a.cur, a.bal + n, a.held⟩).set L ⟨c.cur, c.bal + (-n + (b.bal - b.held)), c.held⟩) := by
      rw [postGo_step (putE_yes hb (by unfold addOk; omega))]
      simp only [List.cons_append, List.nil_append]
      rw [postGo_step (putE_yes (a := a) (by rw [List.getElem?_set_ne (by omega)]; exact ha) (by unfold addOk; omega))]
      rw [postGo_step (putE_yes (a := c) (by rw [List.getElem?_set_ne (by omega), List.getElem?_set_ne (by omega)]; exact hcL) (by unfold addOk; omega))]
      rw [postGo]
    refine (postE_of ?_ hg (short_no h.ok.right h.bal hg fun k x hk hx => ?_)).1
    · rw [balB_tame s.acs 20000000 (by omega) (by omega) _ (fun e he => ?_) (by simp)]
      · simp only [List.cons_append, List.nil_append, esum, hcf, hct, hcL']
        rw [decide_eq_true_iff]
        rw [hcf, hct] at hc
        refine ⟨?_, ?_, ?_⟩ <;> (repeat' split) <;> omega
      · simp only [List.cons_append, List.nil_append, List.mem_cons, List.not_mem_nil, or_false] at he
        rcases he with rfl | rfl | rfl
        · exact ⟨by rw [hct]; exact v1, by dsimp only; omega, by dsimp only; omega⟩
        · exact ⟨by rw [hcf]; exact u1, by dsimp only; omega, by dsimp only; omega⟩
        · exact ⟨by rw [hcL']; exact w1, by dsimp only; omega, by dsimp only; omega⟩
    · obtain ⟨_, _, _, x4⟩ := right_at h.ok.right hx
      have x5 := x4 hk
      simp only [List.cons_append, List.nil_append]
      by_cases hkt : k = t
      · subst hkt
        rw [hb] at hx
        injection hx with hx
        subst hx
        rw [asum_same, asum_other (by omega), asum_other (by omega), asum_none]
        omega
      · rw [asum_other (by omega)]
        by_cases hkf : k = f
        · subst hkf
          rw [asum_same, asum_other (by omega), asum_none]
          omega
        · rw [asum_other (by omega), asum_other (by omega), asum_none]
          omega
  · rename_i hlt
    have hg : postGo s.acs [⟨(t : Int), -n⟩, ⟨(f : Int), n⟩] = some ((s.acs.set t ⟨b.cur, b.bal + -n, b.held⟩).set f ⟨a.cur, a.bal + n, a.held⟩) := by
      rw [postGo_step (putE_yes hb (by unfold addOk; omega))]
      rw [postGo_step (putE_yes (a := a) (by rw [List.getElem?_set_ne (by omega)]; exact ha) (by unfold addOk; omega))]
      rw [postGo]
    refine (postE_of ?_ hg (short_no h.ok.right h.bal hg fun k x hk hx => ?_)).1
    · rw [balB_tame s.acs 20000000 (by omega) (by omega) _ (fun e he => ?_) (by simp)]
      · simp only [esum, hcf, hct]
        rw [decide_eq_true_iff]
        rw [hcf, hct] at hc
        refine ⟨?_, ?_, ?_⟩ <;> (repeat' split) <;> omega
      · simp only [List.mem_cons, List.not_mem_nil, or_false] at he
        rcases he with rfl | rfl
        · exact ⟨by rw [hct]; exact v1, by dsimp only; omega, by dsimp only; omega⟩
        · exact ⟨by rw [hcf]; exact u1, by dsimp only; omega, by dsimp only; omega⟩
    · obtain ⟨_, _, _, x4⟩ := right_at h.ok.right hx
      have x5 := x4 hk
      by_cases hkt : k = t
      · subst hkt
        rw [hb] at hx
        injection hx with hx
        subst hx
        rw [asum_same, asum_other (by omega), asum_none]
        omega
      · rw [asum_other (by omega)]
        by_cases hkf : k = f
        · subst hkf
          rw [asum_same, asum_none]
          omega
        · rw [asum_other (by omega), asum_none]
          omega
end Go.Proofs.YteiljppljlmcbaaGreatDoor
