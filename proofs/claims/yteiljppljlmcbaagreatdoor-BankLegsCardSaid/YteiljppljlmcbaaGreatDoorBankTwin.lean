/-
  Where all legs agree a transfer of several is one of none: plain words, no program.
-/
import Derived.Test.YteiljppljlmcbaaGreatDoorBankHist
import Derived.Test.YteiljppljlmcbaaGreatDoorOpsChargePlain
namespace Go.Proofs.YteiljppljlmcbaaGreatDoor
open Go Go.RowKit
set_option linter.unusedVariables false

/-- No balance is beyond M. -/
def bdA (M : Int) (zs : List Ac) : Prop := ∀ a ∈ zs, -M ≤ a.bal ∧ a.bal ≤ M
def bdE (es : List En) : Prop := ∀ e ∈ es, -320000 ≤ e.amt ∧ e.amt ≤ 320000
theorem bdA.more {M K : Int} {zs : List Ac} (h : bdA M zs) (hk : M ≤ K) : bdA K zs := fun a ha => by have := h a ha; omega
theorem putE_bd {zs ys : List Ac} {e : En} {M : Int} (h : putE zs e = some ys) (hz : bdA M zs) (he : -320000 ≤ e.amt ∧ e.amt ≤ 320000) : bdA (M + 320000) ys ∧ ys.length = zs.length := by
  obtain ⟨a, ha, ho, rfl, _⟩ := putE_ok h
  refine ⟨fun x hx => ?_, by simp⟩
  have h0 := hz a (List.mem_of_getElem? ha)
  rcases List.mem_or_eq_of_mem_set hx with hx | rfl
  · have := hz x hx; omega
  · dsimp only; omega
theorem postGo_bd : ∀ {es : List En} {zs ys : List Ac} {M : Int}, postGo zs es = some ys → bdA M zs → bdE es → bdA (M + 320000 * (es.length : Int)) ys
  | [], zs, ys, M, h, hz, he => by
    injection h with h
    subst h
    simpa using hz
  | e :: r, zs, ys, M, h, hz, he => by
    obtain ⟨z1, h1, h2⟩ := postGo_cons h
    obtain ⟨b1, _⟩ := putE_bd h1 hz (he e (List.mem_cons_self ..))
    have b2 := postGo_bd h2 b1 (fun x hx => he x (List.mem_cons_of_mem _ hx))
    refine b2.more ?_
    rw [List.length_cons]
    omega
theorem post_bd {es : List En} {zs : List Ac} {M : Int} (h : postE zs es = 0) (hz : bdA M zs) (he : bdE es) : bdA (M + 320000 * (es.length : Int)) (postL zs es) := by
  obtain ⟨ys, _, hg, _, hl⟩ := postE_ok h
  rw [hl]
  exact postGo_bd hg hz he
theorem postGo_some : ∀ {es : List En} {zs : List Ac} {M : Int}, bdA M zs → 0 ≤ M → M + 320000 * (es.length : Int) ≤ 1125899906842624 → (∀ e ∈ es, (-320000 ≤ e.amt ∧ e.amt ≤ 320000) ∧ 0 ≤ e.acct ∧ e.acct < (zs.length : Int)) → ∃ ys, postGo zs es = some ys
  | [], zs, M, _, _, _, _ => ⟨zs, rfl⟩
  | e :: r, zs, M, hz, hM, hb, he => by
    obtain ⟨⟨e1, e2⟩, e3, e4⟩ := he e (List.mem_cons_self ..)
    rw [List.length_cons] at hb
    obtain ⟨q, hq⟩ : ∃ q : Nat, e.acct = (q : Int) := ⟨e.acct.toNat, by omega⟩
    obtain ⟨a, ha⟩ : ∃ a, zs[q]? = some a := ⟨_, List.getElem?_eq_getElem (by omega)⟩
    have h0 := hz a (List.mem_of_getElem? ha)
    have hp : putE zs e = some (zs.set q ⟨a.cur, a.bal + e.amt, a.held⟩) := by
      have := putE_yes (x := e.amt) ha (by unfold addOk; omega)
      rw [← hq] at this
      exact this
    obtain ⟨b1, b2⟩ := putE_bd hp hz ⟨e1, e2⟩
    obtain ⟨ys, hy⟩ := postGo_some (es := r) b1 (by omega) (by omega) (fun x hx => by rw [b2]; exact he x (List.mem_cons_of_mem _ hx))
    exact ⟨ys, by rw [postGo, hp]; exact hy⟩
theorem rate_bd (a b n : Int) (h0 : 0 ≤ n) (hn : n ≤ 2000) : 0 ≤ n * rateN a b ∧ n * rateN a b ≤ 320000 ∧ 0 ≤ rateD a b := by
  unfold rateN rateD
  split
  · split
    · omega
    · split <;> omega
  · split
    · split
      · omega
      · split <;> omega
    · split
      · omega
      · split <;> omega
theorem conv_bd (a b n : Int) (h0 : 0 ≤ n) (hn : n ≤ 2000) : 0 ≤ conv a b n ∧ conv a b n ≤ 320000 := by
  obtain ⟨h1, h2, h3⟩ := rate_bd a b n h0 hn
  unfold conv
  refine ⟨Int.ediv_nonneg h1 h3, ?_⟩
  have := Int.ediv_le_self (rateD a b) h1
  omega
theorem move_bd {zs : List Ac} {f t n : Int} (hn : n ≤ 2000) : bdE (moveL zs f t n) := by
  unfold moveL
  split
  · rename_i h
    obtain ⟨_, _, _, h1, _, _⟩ := moveE_ok h
    have h2 := conv_bd (curOf zs f) (curOf zs t) n (by omega) hn
    intro e he
    unfold moveOk at he
    split at he
    · simp only [List.mem_cons, List.not_mem_nil, or_false] at he
      rcases he with rfl | rfl <;> dsimp only <;> omega
    · simp only [List.mem_cons, List.not_mem_nil, or_false] at he
      rcases he with rfl | rfl | rfl | rfl <;> dsimp only <;> omega
  · intro e he
    cases he
theorem back_bd {es : List En} (h : bdE es) : bdE (backE es) ∧ (backE es).length = es.length := by
  refine ⟨fun e he => ?_, by simp [backE]⟩
  unfold backE at he
  obtain ⟨x, hx, rfl⟩ := by simpa using he
  have := h x hx
  unfold negE
  dsimp only
  rw [w64 (by omega) (by omega)]
  omega
theorem chg_bd {zs : List Ac} {d : Int} {es : List En} (hr : rightB zs = true) (hd : isC zs.length d) (h : bdE es) : bdE (chgL zs d es) ∧ (chgL zs d es).length ≤ es.length + 1 := by
  cases es with
  | nil => exact ⟨h, Nat.zero_le _⟩
  | cons e r =>
    have h0 := h e (List.mem_cons_self ..)
    unfold chgL
    dsimp only
    unfold isC at hd
    obtain ⟨q, rfl⟩ : ∃ q : Nat, d = (q : Int) := ⟨d.toNat, by omega⟩
    obtain ⟨a, ha⟩ : ∃ a, zs[q]? = some a := ⟨_, List.getElem?_eq_getElem (by omega)⟩
    obtain ⟨_, _, _, h4⟩ := right_at hr ha
    have h5 := h4 (by omega)
    have hfr : freeOf zs (q : Int) = a.bal - a.held := by unfold freeOf; rw [acOf_at ha]
    rw [hfr]
    split
    · refine ⟨fun x hx => ?_, by simp⟩
      rcases List.mem_cons.1 hx with rfl | hx
      · dsimp only; omega
      · rcases List.mem_append.1 hx with hx | hx
        · exact h x (List.mem_cons_of_mem _ hx)
        · rw [List.mem_singleton] at hx
          subst hx
          dsimp only; omega
    · exact ⟨h, by simp⟩
theorem held_bd {zs : List Ac} {k x M : Int} (hz : bdA M zs) (hM : 0 ≤ M) : bdA M (heldAs zs k x) := fun a ha => by
  unfold heldAs at ha
  rcases List.mem_or_eq_of_mem_set ha with ha | rfl
  · exact hz a ha
  · dsimp only
    unfold acOf
    by_cases hk : k.toNat < zs.length
    · have : zs.getD k.toNat ⟨0, 0, 0⟩ ∈ zs := by simp [List.getD, List.getElem?_eq_getElem hk]
      exact hz _ this
    · simp [List.getD, List.getElem?_eq_none (show zs.length ≤ k.toNat by omega)]
      omega
theorem hold_bd {zs : List Ac} {k x M : Int} (hz : bdA M zs) (hM : 0 ≤ M) : bdA M (holdL zs k x) := by
  unfold holdL
  split
  · exact held_bd hz hM
  · intro a ha; cases ha
theorem rel_bd {zs : List Ac} {k x M : Int} (hz : bdA M zs) (hM : 0 ≤ M) : bdA M (relL zs k x) := by
  unfold relL
  split
  · exact held_bd hz hM
  · intro a ha; cases ha
theorem go_bd {zs : List Ac} {f t n M : Int} (hz : bdA M zs) (hn : n ≤ 2000) (h : goE zs f t n = 0) : bdA (M + 1600000) (goL zs f t n) := by
  unfold goE at h
  split at h
  · have h1 := post_bd h hz (move_bd hn)
    have h2 := moveL_len zs f t n
    exact h1.more (by omega)
  · rename_i hm; exact absurd h hm
theorem spend_bd {zs : List Ac} {x M : Int} {es : List En} (hz : bdA M zs) (hM : 0 ≤ M) (he : bdE es) (hl : es.length ≤ 4) (h : spendE zs x es = 0) : bdA (M + 1600000) (spendL zs x es) := by
  unfold spendE at h
  unfold spendL
  cases es with
  | nil => intro a ha; cases ha
  | cons e r =>
    dsimp only at h ⊢
    split at h
    · rename_i h1
      rw [if_pos h1]
      exact (post_bd h (rel_bd hz hM) he).more (by omega)
    · rename_i h1; exact absurd h h1
/-- A request of a small amount leaves balances small. -/
theorem op_bd {s : St} {r : Rq} {M : Int} (h : Ok s) (hz : bdA M s.acs) (hM : 0 ≤ M) (hr : r.amt ≤ 2000) : bdA (M + 1600000) (opS s r).acs := by
  by_cases he : opE s r = 0
  · rw [opS_yes he]
    unfold opE at he
    unfold opT
    by_cases o0 : r.op = 0
    · rw [if_pos o0]
      intro a ha
      rcases List.mem_append.1 ha with ha | ha
      · have := hz a ha; omega
      · rw [List.mem_singleton] at ha
        subst ha
        dsimp only; omega
    · rw [if_neg o0] at he ⊢
      by_cases o1 : r.op = 1
      · rw [if_pos o1] at he ⊢
        split at he
        · exact go_bd hz hr he
        · omega
      · rw [if_neg o1] at he ⊢
        by_cases o2 : r.op = 2
        · rw [if_pos o2] at he ⊢
          split at he
          · exact go_bd hz hr he
          · omega
        · rw [if_neg o2] at he ⊢
          by_cases o3 : r.op = 3
          · rw [if_pos o3]
            exact (hold_bd hz hM).more (by omega)
          · rw [if_neg o3] at he ⊢
            split at he
            · rename_i ho
              unfold payOpE at he
              split at he
              · rename_i hi
                obtain ⟨q, hq⟩ : ∃ q : Nat, r.a = (q : Int) := ⟨r.a.toNat, by omega⟩
                obtain ⟨p, hp⟩ : ∃ p, s.pys[q]? = some p := ⟨_, List.getElem?_eq_getElem (by omega)⟩
                rw [hq, pyAt_at hp] at he
                rw [hq, pyAt_at hp]
                split at he
                · obtain ⟨_, _, hd, _, _⟩ := h.pays p (List.mem_of_getElem? hp)
                  dsimp only
                  unfold accE at he
                  unfold accL
                  have hml := moveL_len s.acs p.frm p.dst r.amt
                  have hmb := move_bd (zs := s.acs) (f := p.frm) (t := p.dst) hr
                  obtain ⟨b1, b2⟩ := back_bd hmb
                  split at he
                  · rename_i o5
                    rw [if_pos o5]
                    exact (rel_bd hz hM).more (by omega)
                  · rename_i o5
                    rw [if_neg o5]
                    split at he
                    · split at he
                      · rename_i o4
                        rw [if_pos o4]
                        exact spend_bd hz hM hmb hml he
                      · rename_i o4
                        rw [if_neg o4]
                        split at he
                        · rename_i o6
                          rw [if_pos o6]
                          exact (post_bd he hz b1).more (by omega)
                        · rename_i o6
                          rw [if_neg o6]
                          obtain ⟨c1, c2⟩ := chg_bd h.right hd b1
                          exact (post_bd he hz c1).more (by omega)
                    · rename_i hm; exact absurd he hm
                · rename_i hpe; exact absurd he hpe
              · omega
            · omega
  · rw [opS_no he]
    exact hz.more (by omega)
theorem asum_move {zs : List Ac} {f t n : Int} (h : moveE zs f t n = 0) (hf : 9 ≤ f) (hcu : Curs zs) : asum f (moveL zs f t n) = -n := by
  obtain ⟨h1, h2, h3, h4, h5, h6⟩ := moveE_ok h
  have c1 := curOf_in hcu h1
  have c2 := curOf_in hcu h2
  unfold moveL
  rw [if_pos h]
  unfold moveOk exch
  split
  · rw [asum_same, asum_other (fun e => h3 e.symm), asum_none]
    omega
  · rw [asum_same, asum_other (by omega), asum_other (by omega), asum_other (fun e => h3 e.symm), asum_none]
    omega
/-- Who has less than is asked for is told so. -/
theorem short_yes {zs : List Ac} {f t n M : Int} (hr : rightB zs = true) (hz : bdA M zs) (hM : 0 ≤ M ∧ M ≤ 562949953421312) (h : moveE zs f t n = 0) (hn : n ≤ 2000) (hf : isC zs.length f) (hs : wrap64 ((acOf zs f).bal - (acOf zs f).held) < n) : postE zs (moveL zs f t n) = 3 := by
  have hcu : Curs zs := fun j a ha => (right_at hr ha).1
  have hlen := right_len hr
  have hhz : ∀ j, j < 9 → ∃ b : Int, zs[j]? = some ⟨(j : Int) / 3, b, 0⟩ := fun j hj => by
    obtain ⟨a, ha⟩ : ∃ a, zs[j]? = some a := ⟨_, List.getElem?_eq_getElem (by omega)⟩
    obtain ⟨_, _, h3, _⟩ := right_at hr ha
    obtain ⟨h4, h5⟩ := h3 hj
    refine ⟨a.bal, ?_⟩
    rw [ha]
    obtain ⟨x, y, z⟩ := a
    dsimp only at h4 h5
    rw [h4, h5]
  have hb := move_bal hhz hcu h (by omega)
  have hin := bal_in hb
  have hmb := move_bd (zs := zs) (f := f) (t := t) hn
  have hml := moveL_len zs f t n
  obtain ⟨ys, hy⟩ := postGo_some (es := moveL zs f t n) hz hM.1 (by omega) (fun e he => ⟨hmb e he, (hin e he).1⟩)
  obtain ⟨h1, h2, h3, h4, h5, h6⟩ := moveE_ok h
  unfold isC at hf
  obtain ⟨q, rfl⟩ : ∃ q : Nat, f = (q : Int) := ⟨f.toNat, by omega⟩
  obtain ⟨a, ha⟩ : ∃ a, zs[q]? = some a := ⟨_, List.getElem?_eq_getElem (by omega)⟩
  rw [acOf_at ha] at hs
  obtain ⟨_, r2, _, r4⟩ := right_at hr ha
  have r5 := r4 (by omega)
  have hba := hz a (List.mem_of_getElem? ha)
  have hya := postGo_at hy q a ha
  rw [asum_move h (by omega) hcu] at hya
  have hsh : shortB ys = true := by
    unfold shortB shortGo
    rw [List.any_eq_true]
    refine ⟨_, List.mem_of_getElem? (i := q - 9) (l := ys.drop 9) (by rw [List.getElem?_drop, show 9 + (q - 9) = q by omega]; exact hya), ?_⟩
    rw [shortA_yes]
    dsimp only
    rw [w64 (by omega) (by omega)] at hs
    rw [w64 (by omega) (by omega)]
    omega
  unfold postE postE1
  rw [if_pos hb, hy]
  dsimp only
  rw [if_pos hsh]
/-- The same request of no legs. -/
def Rq.nl (r : Rq) : Rq := ⟨r.key, r.op, r.a, r.b, r.amt, 0, r.til⟩
theorem Rq.nl_op (s : St) (r : Rq) : opE s r.nl = opE s r ∧ opS s r.nl = opS s r ∧ opI s r.nl = opI s r := ⟨rfl, rfl, rfl⟩
theorem Rq.nl_may {r : Rq} (h : r.may) : r.nl.may := by
  obtain ⟨h1, h2, h3, h4⟩ := h
  refine ⟨h1, ?_, h3, h4⟩
  unfold legsOk Rq.nl
  dsimp only
  split <;> simp
theorem fin_yes : ∀ (f : Nat) (s : Sg), s.small → s.ph = 0 → finGo [] f s 0 = (0, 0)
  | 0, s, _, _ => rfl
  | f + 1, s, hs, hp => by
    rw [finGo]
    split
    · rfl
    · rename_i hr
      have hw : waitS s := ⟨hp, by unfold readyS at hr; omega⟩
      have hb : ansB [] 0 = true := rfl
      have hn : ansN [] 0 = 0 := rfl
      rw [hb, hn]
      have hl := legS_small hs true
      rw [if_pos hw, if_pos rfl] at hl
      have hph : (legS s true).ph = 0 := by rw [hl]; exact hp
      rw [if_neg (by rw [hph]; decide)]
      exact fin_yes f _ (hs.leg_ true) hph
theorem legs_same {s : St} {r : Rq} {M : Int} (h : Ok s) (hm : r.may) (hz : bdA M s.acs) (hM : 0 ≤ M ∧ M ≤ 562949953421312) (hn : r.amt ≤ 2000) :
    exeT s r [] = opS s r ∧ exeE s r [] = opE s r ∧ exeI s r [] = opI s r := by
  unfold exeT exeE exeI
  by_cases hl : isLong r
  · simp only [if_pos hl]
    have h2 : r.op = 2 := hl.1
    have hlo := hm.2.1
    unfold legsOk at hlo
    rw [if_pos h2] at hlo
    have hfin : fin [] r = (0, 0) := fin_yes 20 (beginS r) (small_begin r hlo) rfl
    have hop : opE s r = if isC s.acs.length r.a ∧ isC s.acs.length r.b then goE s.acs r.a r.b r.amt else 2 := by unfold opE; rw [if_neg (by omega), if_neg (by omega), if_pos h2]
    have hoI : (0 : Int) = opI s r := by
      unfold opI
      split
      · rw [if_neg (by omega), if_neg (by omega)]
      · rfl
    rw [trf_is h.right, hfin]
    simp only [↓reduceIte]
    have key : opE s r = (if rsvE s r = 0 then postE s.acs (moveL s.acs r.a r.b r.amt) else rsvE s r) := by
      rw [hop]
      unfold rsvE goE
      by_cases hc : isC s.acs.length r.a ∧ isC s.acs.length r.b
      · simp only [if_pos hc]
        by_cases hmv : moveE s.acs r.a r.b r.amt = 0
        · simp only [if_pos hmv]
          by_cases hh : holdE s.acs r.a r.amt = 0
          · rw [if_pos hh]
          · rw [if_neg hh]
            obtain ⟨_, _, _, h4, h5, _⟩ := moveE_ok hmv
            have hme : mayE s.acs.length r.a r.amt = 0 := by unfold mayE; rw [if_pos (by have := hc.1; unfold isC at this; omega), if_pos (by omega)]
            unfold holdE at hh ⊢
            rw [if_pos hme] at hh ⊢
            split at hh
            · rename_i hs
              rw [if_pos hs]
              exact short_yes h.right hz hM hmv hn hc.1 hs
            · exact absurd rfl hh
        · simp only [if_neg hmv]
      · simp only [if_neg hc]
        simp
    have hT : opE s r = 0 → opS s r = ⟨postL s.acs (moveL s.acs r.a r.b r.amt), s.pys, s.now⟩ := fun e => by
      rw [opS_yes e]
      unfold opT
      rw [if_neg (by omega), if_neg (by omega), if_pos h2]
      rfl
    by_cases hv : rsvE s r = 0
    · rw [if_pos hv] at key
      simp only [if_pos hv]
      by_cases hp : postE s.acs (moveL s.acs r.a r.b r.amt) = 0
      · simp only [if_pos hp]
        exact ⟨(hT (by rw [key]; exact hp)).symm, by rw [key, hp], hoI⟩
      · simp only [if_neg hp]
        exact ⟨(opS_no (by rw [key]; exact hp)).symm, key.symm, hoI⟩
    · rw [if_neg hv] at key
      simp only [if_neg hv]
      exact ⟨(opS_no (by rw [key]; exact hv)).symm, key.symm, hoI⟩
  · rw [if_neg hl, if_neg hl, if_neg hl]
    exact ⟨rfl, rfl, rfl⟩
def Kn.nl (k : Kn) : Kn := ⟨k.rq.nl, k.err, k.id, k.told⟩
/-- What the one knows the other one knows of requests of no legs. -/
structure Twin (ks kt : List Kn) : Prop where
  told : ∀ k ∈ ks, k.told = true
  map : kt = ks.map Kn.nl
theorem Twin.nil : Twin [] [] := ⟨fun k hk => (List.not_mem_nil hk).elim, rfl⟩
theorem find_nl (ks : List Kn) (key : Int) : findN (ks.map Kn.nl) key = findN ks key := by
  unfold findN
  rw [List.findIdx?_map]
  rfl
theorem bk_twin {s : St} {ks kt : List Kn} {r : Rq} (h : Ok s) (ht : Twin ks kt) (hl : ks.length ≤ 256) (hz : bdA (1000000 + 1600000 * (ks.length : Int)) s.acs) (hm : r.may) (hn : r.amt ≤ 2000) :
    (bkO s ks r []).E = 5 ∨ (bkO s kt r.nl []).E = 5 ∨ ((bkO s ks r []).E = (bkO s kt r.nl []).E ∧ (bkO s ks r []).I = (bkO s kt r.nl []).I ∧ (bkO s ks r []).T = (bkO s kt r.nl []).T ∧
      Twin (bkO s ks r []).kl (bkO s kt r.nl []).kl ∧ bdA (1000000 + 1600000 * ((bkO s ks r []).kl.length : Int)) (bkO s ks r []).T.acs) := by
  obtain ⟨h1, rfl⟩ := ht
  have hm' := Rq.nl_may hm
  have hfn : findN (ks.map Kn.nl) r.nl.key = findN ks r.key := find_nl ks r.key
  cases hf : findN ks r.key with
  | some i =>
    obtain ⟨k, hki, hkk⟩ := find_get hf
    have tk := h1 k (List.mem_of_getElem? hki)
    have a1 := ask_found hf hki tk
    have hki2 : (ks.map Kn.nl)[i]? = some k.nl := by rw [List.getElem?_map, hki]; rfl
    have a2 := ask_found (r := r.nl) (k := k.nl) (by rw [hfn]; exact hf) hki2 tk
    have b1 : (askR ks r).2.2 = true := by rw [a1]; split <;> rfl
    have b2 : (askR (ks.map Kn.nl) r.nl).2.2 = true := by rw [a2]; split <;> rfl
    have hX : bkO s ks r [] = ⟨s, ks, (askR ks r).1, (askR ks r).2.1, 0⟩ := by unfold bkO; rw [if_pos hm, if_pos b1]
    have hY : bkO s (ks.map Kn.nl) r.nl [] = ⟨s, ks.map Kn.nl, (askR (ks.map Kn.nl) r.nl).1, (askR (ks.map Kn.nl) r.nl).2.1, 0⟩ := by unfold bkO; rw [if_pos hm', if_pos b2]
    rw [hX, hY]
    dsimp only
    by_cases e1 : k.rq = r
    · rw [if_pos e1] at a1
      by_cases e2 : k.nl.rq = r.nl
      · rw [if_pos e2] at a2
        rw [a1, a2]
        exact .inr (.inr ⟨rfl, rfl, rfl, ⟨h1, rfl⟩, hz⟩)
      · rw [if_neg e2] at a2
        rw [a2]
        exact .inr (.inl rfl)
    · rw [if_neg e1] at a1
      rw [a1]
      exact .inl rfl
  | none =>
    have b1 : ¬ (askR ks r).2.2 = true := fun e => (find_askR.1 e) hf
    have b2 : ¬ (askR (ks.map Kn.nl) r.nl).2.2 = true := fun e => (find_askR.1 e) (by rw [hfn]; exact hf)
    by_cases hfull : 256 ≤ ks.length
    · have p1 : kputE ks r = 7 := by unfold kputE; rw [if_pos hf, if_pos hfull]
      have p2 : kputE (ks.map Kn.nl) r.nl = 7 := by unfold kputE; rw [if_pos (by rw [hfn]; exact hf), if_pos (by rw [List.length_map]; exact hfull)]
      have hX : bkO s ks r [] = ⟨s, ks, 7, 0, 0⟩ := by unfold bkO; rw [if_pos hm, if_neg b1, p1, if_neg (by decide)]
      have hY : bkO s (ks.map Kn.nl) r.nl [] = ⟨s, ks.map Kn.nl, 7, 0, 0⟩ := by unfold bkO; rw [if_pos hm', if_neg b2, p2, if_neg (by decide)]
      rw [hX, hY]
      exact .inr (.inr ⟨rfl, rfl, rfl, ⟨h1, rfl⟩, hz⟩)
    · have p1 : kputE ks r = 0 := by unfold kputE; rw [if_pos hf, if_neg hfull]
      have p2 : kputE (ks.map Kn.nl) r.nl = 0 := by unfold kputE; rw [if_pos (by rw [hfn]; exact hf), if_neg (by rw [List.length_map]; exact hfull)]
      obtain ⟨l1, l2, l3⟩ := legs_same h hm hz (by omega) hn
      obtain ⟨m1, m2, m3⟩ := legs_same h hm' hz (by omega) (show r.nl.amt ≤ 2000 from hn)
      obtain ⟨n1, n2, n3⟩ := Rq.nl_op s r
      have hX : bkO s ks r [] = ⟨exeT s r [], ks ++ [⟨r, exeE s r [], exeI s r [], true⟩], exeE s r [], exeI s r [], exeN s r []⟩ := by unfold bkO; rw [if_pos hm, if_neg b1, if_pos p1]
      have hY : bkO s (ks.map Kn.nl) r.nl [] = ⟨exeT s r.nl [], ks.map Kn.nl ++ [⟨r.nl, exeE s r.nl [], exeI s r.nl [], true⟩], exeE s r.nl [], exeI s r.nl [], exeN s r.nl []⟩ := by unfold bkO; rw [if_pos hm', if_neg b2, if_pos p2]
      rw [hX, hY]
      dsimp only
      rw [l1, l2, l3, m1, m2, m3, n1, n2, n3]
      refine .inr (.inr ⟨rfl, rfl, rfl, ⟨fun k hk => ?_, by rw [List.map_append]; rfl⟩, ?_⟩)
      · rcases List.mem_append.1 hk with hk | hk
        · exact h1 k hk
        · rw [List.mem_singleton] at hk
          subst hk
          rfl
      · refine (op_bd h hz (by omega) hn).more ?_
        rw [List.length_append, List.length_singleton]
        omega
end Go.Proofs.YteiljppljlmcbaaGreatDoor
