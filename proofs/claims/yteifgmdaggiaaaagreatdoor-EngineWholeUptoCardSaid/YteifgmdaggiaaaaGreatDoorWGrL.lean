/-
  Payments whose time is over are voided, where something else holds too (P: as payments that stay open): plain words.
  The program's Tick by its contract, of a state whose sagas hold too.
  What stays right where sagas hold too (P: what they hold, as payments that stay open): any deed; a saga that begins.
  A saga that is at its end: what stays right when it lets go, and when its money goes.
  What is right of an engine's state, and stays so, whatever happens: plain words.
-/
import Derived.Test.YteifgmdaggiaaaaGreatDoorWGrM
import Derived.Test.YteifgmdaggiaaaaGreatDoorWGrK
import Derived.Test.YteifgmdaggiaaaaGreatDoorWBankOk
import Derived.Test.YteifgmdaggiaaaaGreatDoorWSagaRt
namespace Go.Proofs.YteifgmdaggiaaaaGreatDoor
open Go Go.RowKit
set_option linter.unusedVariables false
/-- A right state, where the payments P hold too. -/
def OkP (P : List Py) (s : St) : Prop := Ok ⟨s.acs, s.pys ++ P, s.now⟩
theorem OkP.few {P : List Py} {s : St} (h : OkP P s) : s.pys.length ≤ 2000000 := by
 have h1 : (s.pys ++ P).length ≤ 2000000 := Ok.few h
 rw [List.length_append] at h1
 omega
theorem OkP.void {P : List Py} {s : St} (h : OkP P s) {q : Nat} {p : Py} (hp : s.pys[q]? = some p) (ho : p.stg = 0) :
  opE s ⟨0, 5, q, 0, 0, 0, 0⟩ = 0 ∧ relE s.acs p.frm (leftP p) = 0 ∧ opS s ⟨0, 5, q, 0, 0, 0, 0⟩ = ⟨relL s.acs p.frm (leftP p), s.pys.set q (shut p), s.now⟩ ∧ OkP P (opS s ⟨0, 5, q, 0, 0, 0, 0⟩) := by
 have hq : q < s.pys.length := (List.getElem?_eq_some_iff.1 hp).1
 have hp' : (s.pys ++ P)[q]? = some p := by rw [List.getElem?_append_left hq]; exact hp
 obtain ⟨_, hR, hS⟩ := Ok.void (s := ⟨s.acs, s.pys ++ P, s.now⟩) h hp' ho
 have hok := Ok.do_ (s := ⟨s.acs, s.pys ++ P, s.now⟩) h ⟨0, 5, q, 0, 0, 0, 0⟩ (fun e => by cases e) (fun e => by cases e)
 have hP : payE p 5 0 = 0 := by
  unfold payE
  rw [if_neg (by decide), if_pos rfl, if_pos ho]
 have hE : opE s ⟨0, 5, q, 0, 0, 0, 0⟩ = 0 := by
  unfold opE payOpE
  dsimp only
  rw [if_neg (by decide), if_neg (by decide), if_neg (by decide), if_neg (by decide), if_pos (by decide), if_pos (by omega), pyAt_at hp, if_pos hP]
  unfold accE
  rw [if_pos rfl, hR]
 have hT : opS s ⟨0, 5, q, 0, 0, 0, 0⟩ = ⟨relL s.acs p.frm (leftP p), s.pys.set q (shut p), s.now⟩ := by
  rw [opS_yes hE]
  unfold opT
  dsimp only
  rw [if_neg (by decide), if_neg (by decide), if_neg (by decide), if_neg (by decide), pyAt_at hp, payP_5, Int.toNat_natCast]
  unfold accL
  rw [if_pos rfl]
  rfl
 refine ⟨hE, hR, hT, ?_⟩
 rw [hS] at hok
 rw [hT]
 unfold OkP
 dsimp only at hok ⊢
 rwa [List.set_append_left _ _ hq] at hok
theorem okP_right {P : List Py} {s : St} (h : OkP P s) : rightB s.acs = true := by
 unfold OkP at h
 have h1 := h.right
 exact h1
/-- A tick, where P holds too. -/
def tickQ (P : List Py) (T : St) : St := if T.now = 1073741824 then T else ⟨heldL (T.pys.map (closeP (T.now + 1)) ++ P) T.acs, T.pys.map (closeP (T.now + 1)), T.now + 1⟩
/-- Where the sagas hold besides. -/
def OkS (T : St) (sl : List Sg) : Prop := OkP (sl.map asPay) T
theorem hsum_perm (k : Nat) {x y : List Py} (h : x.Perm y) : hsum k x = hsum k y := by
 induction h with
 | nil => rfl
 | cons p _ ih => rw [hsum_cons, hsum_cons, ih]
 | swap p q l => rw [hsum_cons, hsum_cons, hsum_cons, hsum_cons]; omega
 | trans _ _ h1 h2 => rw [h1, h2]
/-- The order of payments is of no matter. -/
theorem Ok.perm {a : List Ac} {x y : List Py} {t : Int} (h : Ok ⟨a, x, t⟩) (hp : x.Perm y) : Ok ⟨a, y, t⟩ where
 right := h.right
 sums := h.sums
 few := by have h1 := h.few; have h2 := hp.length_eq; dsimp only at h1 ⊢; omega
 pays := fun p hm => h.pays p (hp.mem_iff.2 hm)
 held := fun k b hb => by rw [h.held k b hb]; exact hsum_perm k hp
 now := h.now
/-- What holds besides may lie in any order. -/
theorem OkP.perm {P R : List Py} {s : St} (h : OkP P s) (hp : P.Perm R) : OkP R s := Ok.perm h (List.Perm.append_left _ hp)
theorem OkP.more {P : List Py} {s : St} (h : OkP P s) (hl : P.length ≤ 1000000) {x : Py} {a amt : Int} (hx : x.right) (hc : isC s.acs.length x.frm ∧ isC s.acs.length x.dst) (hne : x.frm ≠ x.dst) (ho : x.stg = 0) (hcp : x.cap = 0) (haut : x.aut = amt) (hf : x.frm = a) (he : holdE s.acs a amt = 0) (hfew : s.pys.length + P.length + 1 ≤ 2000000) :
  Ok ⟨holdL s.acs a amt, (s.pys ++ P) ++ [x], s.now⟩ := by
 obtain ⟨h1, h2, h3⟩ := holdE_ok he
 have h' : Ok ⟨s.acs, s.pys ++ P, s.now⟩ := h
 subst hf
 obtain ⟨q, hq⟩ : ∃ q : Nat, x.frm = (q : Int) := ⟨x.frm.toNat, by have := hc.1; unfold isC at this; omega⟩
 have hlen := hold_len he
 refine ⟨hold_right h'.right he, fun c hc => by rw [hold_sums he c]; exact h'.sums c hc, by simp only [List.length_append, List.length_singleton]; omega, fun p hp => ?_, fun k b hb => ?_, h'.now⟩
 · show p.right ∧ isC (holdL s.acs x.frm amt).length p.frm ∧ isC (holdL s.acs x.frm amt).length p.dst ∧ _
   rw [hlen]
   rcases List.mem_append.1 hp with hp | hp
   · exact h'.pays p hp
   · rw [List.mem_singleton] at hp
     subst hp
     refine ⟨hx, hc.1, hc.2, hne, fun _ => ?_⟩
     unfold Py.right at hx
     omega
 · dsimp only at hb
   rw [hq] at he hb
   obtain ⟨a', ha, rfl⟩ := hold_at h'.right he hb
   dsimp only
   have hh := h'.held k a' ha
   dsimp only at hh
   rw [hsum_append, hsum_cons, ← hh]
   unfold hpart
   rw [show hsum k [] = 0 from rfl, hcp, haut]
   by_cases hk : q = k
   · subst hk
     rw [if_pos rfl, if_pos ⟨ho, hq⟩]
     omega
   · rw [if_neg hk, if_neg (by rw [hq]; omega)]
     omega
theorem OkP.authed {P : List Py} {s : St} (h : OkP P s) (hl : P.length ≤ 1000000) {r : Rq} (he : authE s r = 0) (ht : r.til ≤ 1073741824) : OkP P ⟨holdL s.acs r.a r.amt, s.pys ++ [⟨r.a, r.b, r.amt, 0, 0, 0, r.til, 0⟩], s.now⟩ := by
 unfold authE at he
 split at he
 · rename_i hc
   split at he
   · omega
   · rename_i hn
     split at he
     · omega
     · rename_i hp
       obtain ⟨h1, h2, h3⟩ := holdE_ok he
       have hnow := Ok.now h
       dsimp only at hnow
       have hm := h.more hl (x := ⟨r.a, r.b, r.amt, 0, 0, 0, r.til, 0⟩) (a := r.a) (amt := r.amt) (by unfold Py.right backOk; dsimp only; omega) hc (fun e => hn (.inl e)) rfl rfl rfl rfl he (by omega)
       unfold OkP
       dsimp only
       refine hm.perm ?_
       rw [List.append_assoc, List.append_assoc]
       exact List.Perm.append_left _ List.perm_append_comm
 · omega
/-- Any deed. -/
theorem OkP.do_ {P : List Py} {s : St} (h : OkP P s) (hl : P.length ≤ 1000000) (r : Rq) (h0 : r.op = 0 → 0 ≤ r.a ∧ r.a < 3) (h3 : r.op = 3 → r.til ≤ 1073741824) : OkP P (opS s r) := by
 by_cases he : opE s r = 0
 · rw [opS_yes he]
   unfold opE at he
   unfold opT
   by_cases o0 : r.op = 0
   · rw [if_pos o0] at he ⊢
     split at he
     · omega
     · exact Ok.opened (s := ⟨s.acs, s.pys ++ P, s.now⟩) h (by dsimp only; omega) (h0 o0)
   · rw [if_neg o0] at he ⊢
     by_cases o1 : r.op = 1
     · rw [if_pos o1] at he ⊢
       split at he
       · unfold goE at he
         split at he
         · exact Ok.posted (s := ⟨s.acs, s.pys ++ P, s.now⟩) h he
         · rename_i hm; exact absurd he hm
       · omega
     · rw [if_neg o1] at he ⊢
       by_cases o2 : r.op = 2
       · rw [if_pos o2] at he ⊢
         split at he
         · unfold goE at he
           split at he
           · exact Ok.posted (s := ⟨s.acs, s.pys ++ P, s.now⟩) h he
           · rename_i hm; exact absurd he hm
         · omega
       · rw [if_neg o2] at he ⊢
         by_cases o3 : r.op = 3
         · rw [if_pos o3] at he ⊢
           exact h.authed hl he (h3 o3)
         · rw [if_neg o3] at he ⊢
           split at he
           · rename_i ho
             unfold payOpE at he
             split at he
             · rename_i hi
               obtain ⟨q, hq⟩ : ∃ q : Nat, r.a = (q : Int) := ⟨r.a.toNat, by omega⟩
               have hql : q < s.pys.length := by omega
               obtain ⟨p, hp⟩ : ∃ p, s.pys[q]? = some p := ⟨_, List.getElem?_eq_getElem hql⟩
               have hp' : (s.pys ++ P)[q]? = some p := by rw [List.getElem?_append_left hql]; exact hp
               rw [hq, pyAt_at hp] at he ⊢
               rw [Int.toNat_natCast]
               split at he
               · rename_i hpe
                 have hk := Ok.payed (s := ⟨s.acs, s.pys ++ P, s.now⟩) h hp' ho hpe he
                 unfold OkP
                 dsimp only at hk ⊢
                 rwa [List.set_append_left _ _ hql] at hk
               · rename_i hpe
                 exact absurd he hpe
             · omega
           · omega
 · rw [opS_no he]
   exact h
/-- A saga begins. -/
theorem OkP.begun {P : List Py} {s : St} (h : OkP P s) (hl : P.length ≤ 1000000) {r : Rq} (hm : r.may) (hlg : isLong r) (he : rsvE s r = 0) (hab : r.a ≠ r.b) (hfew : s.pys.length + P.length + 1 ≤ 2000000) : OkP (P ++ [asPay (beginS r)]) (rsvS s r) := by
 obtain ⟨hc, _, hh, e1, e2, e3⟩ := rsv_ok he
 have hmay := hm.2.2.2
 unfold opOk at hmay
 rw [if_neg (by have := hlg.1; omega)] at hmay
 have hop := hlg.1
 have hm2 := h.more hl (x := asPay (beginS r)) (a := r.a) (amt := r.amt) (by unfold Py.right backOk asPay beginS; dsimp only; omega) hc hab rfl rfl rfl rfl hh hfew
 have hs : rsvS s r = ⟨holdL s.acs r.a r.amt, s.pys, s.now⟩ := by
  generalize rsvS s r = Z at e1 e2 e3
  obtain ⟨za, zp, zn⟩ := Z
  dsimp only at e1 e2 e3
  subst e1 e2 e3
  rfl
 rw [hs]
 unfold OkP
 dsimp only
 rwa [List.append_assoc] at hm2
/-- A payment that is closed holds nothing. -/
theorem Ok.drop {a : List Ac} {x y : List Py} {p : Py} {t : Int} (h : Ok ⟨a, x ++ p :: y, t⟩) (hp : p.stg = 1) : Ok ⟨a, x ++ y, t⟩ where
 right := h.right
 sums := h.sums
 few := by have h1 := h.few; dsimp only at h1 ⊢; rw [List.length_append, List.length_cons] at h1; rw [List.length_append]; omega
 pays := fun r hm => h.pays r (by
   rcases List.mem_append.1 hm with hm | hm
   · exact List.mem_append_left _ hm
   · exact List.mem_append_right _ (List.mem_cons_of_mem _ hm))
 held := fun k b hb => by
  have h1 := h.held k b hb
  dsimp only at h1 ⊢
  rw [hsum_append, hsum_cons] at h1
  rw [h1, hsum_append]
  unfold hpart
  rw [if_neg (by omega)]
  omega
 now := h.now
theorem move_ne {zs : List Ac} {f t n : Int} (h : moveE zs f t n = 0) : f ≠ t := by
 unfold moveE at h
 split at h
 · omega
 · split at h
   · omega
   · rename_i hn
     exact fun e => hn (.inl e)
/-- What a saga holds is let go. -/
theorem OkP.undone {P R : List Py} {s : St} {g : Sg} (h : OkP (P ++ asPay g :: R) s) : undE s g.rq = 0 ∧ OkP (P ++ R) (undS s g.rq) := by
 have h' : Ok ⟨s.acs, s.pys ++ (P ++ asPay g :: R), s.now⟩ := h
 have hq : (s.pys ++ (P ++ asPay g :: R))[s.pys.length + P.length]? = some (asPay g) := by
  rw [List.getElem?_append_right (by omega), List.getElem?_append_right (by omega)]
  simp
 obtain ⟨_, hR, hS⟩ := h'.void hq rfl
 have hok := h'.do_ ⟨0, 5, ((s.pys.length + P.length : Nat) : Int), 0, 0, 0, 0⟩ (fun e => by cases e) (fun e => by cases e)
 rw [hS] at hok
 dsimp only at hR hok
 have hr := (h'.pays (asPay g) (List.mem_of_getElem? hq)).1
 have hlf : leftP (asPay g) = g.rq.amt := by
  rw [hr.left]
  unfold asPay
  simp
 rw [hlf] at hR hok
 have hE : undE s g.rq = 0 := hR
 refine ⟨hE, ?_⟩
 have hU : undS s g.rq = ⟨relL s.acs g.rq.a g.rq.amt, s.pys, s.now⟩ := by unfold undS; rw [if_pos hE]
 have hset : (s.pys ++ (P ++ asPay g :: R)).set (s.pys.length + P.length) (shut (asPay g)) = (s.pys ++ P) ++ shut (asPay g) :: R := by
  rw [← List.append_assoc, List.set_append_right _ _ (by rw [List.length_append]; omega)]
  simp
 rw [hset] at hok
 rw [hU]
 have hd := hok.drop rfl
 unfold OkP
 dsimp only
 rw [← List.append_assoc]
 exact hd
/-- What a saga holds goes. -/
theorem OkP.settled {P R : List Py} {s : St} {g : Sg} (h : OkP (P ++ asPay g :: R) s) (hE : setE s g.rq = 0) : OkP (P ++ R) (setS s g.rq) := by
 obtain ⟨hu, hok⟩ := h.undone
 have hrel : relE s.acs g.rq.a g.rq.amt = 0 := hu
 have hU : undS s g.rq = ⟨relL s.acs g.rq.a g.rq.amt, s.pys, s.now⟩ := by unfold undS; rw [if_pos hu]
 rw [hU] at hok
 unfold setS
 rw [if_pos hE]
 unfold setE at hE
 split at hE
 · rename_i hm
   obtain ⟨s1, s2⟩ := spend_of (y := g.rq.amt) hm
   rw [if_pos hrel] at s1 s2
   rw [s1] at hE
   rw [s2]
   exact Ok.posted (s := ⟨relL s.acs g.rq.a g.rq.amt, s.pys ++ (P ++ R), s.now⟩) hok hE
 · rename_i hm
   exact absurd hE hm
/-- Other payments, which hold no more. -/
theorem Ok.with_ {s : St} (h : Ok s) {ps : List Py} {n : Int} (hf : ps.length ≤ 2000000) (hn : 0 ≤ n ∧ n ≤ 1073741824)
  (hp : ∀ p ∈ ps, p.right ∧ isC s.acs.length p.frm ∧ isC s.acs.length p.dst ∧ p.frm ≠ p.dst ∧ (p.stg = 0 → p.cap < p.aut))
  (hh : ∀ k : Nat, 0 ≤ hsum k ps ∧ hsum k ps ≤ hsum k s.pys) : Ok ⟨Go.Proofs.YteifgmdaggiaaaaGreatDoor.heldL ps s.acs, ps, n⟩ := by
 have hlen := right_len h.right
 refine ⟨?_, fun c hc => ?_, hf, fun p hm => ?_, fun k b hb => ?_, hn⟩
 · refine right_of (by rw [heldL_len]; exact hlen) fun j b hb => ?_
   rw [heldL_at] at hb
   obtain ⟨a, ha, rfl⟩ := Option.map_eq_some_iff.1 hb
   obtain ⟨h1, h2, h3, h4⟩ := right_at h.right ha
   refine ⟨h1, h2, fun hj => ⟨?_, (h3 hj).2⟩, fun hj => ?_⟩
   · exact hsum_none _ _ fun p hm => by
      have := (hp p hm).2.1
      unfold isC at this
      omega
   · have hc := hh j
     have := h4 hj
     have := h.held j a ha
     dsimp only
     omega
 · show psum c (Go.Proofs.YteifgmdaggiaaaaGreatDoor.heldL _ _) = 0
   rw [heldL_sum]
   exact h.sums c hc
 · show p.right ∧ isC (Go.Proofs.YteifgmdaggiaaaaGreatDoor.heldL _ _).length p.frm ∧ isC (Go.Proofs.YteifgmdaggiaaaaGreatDoor.heldL _ _).length p.dst ∧ _
   rw [heldL_len]
   exact hp p hm
 · dsimp only at hb
   rw [heldL_at] at hb
   obtain ⟨a, ha, rfl⟩ := Option.map_eq_some_iff.1 hb
   rfl
theorem OkP.tick {P : List Py} {s : St} (h : OkP P s) : OkP P (tickQ P s) := by
 unfold tickQ
 split
 · exact h
 · rename_i hn
   have h' : Ok ⟨s.acs, s.pys ++ P, s.now⟩ := h
   have hnow := h'.now
   have hfew := h'.few
   dsimp only at hnow hfew
   rw [List.length_append] at hfew
   refine Ok.with_ h' (by rw [List.length_append, List.length_map]; omega) (by dsimp only; omega) (fun p hp => ?_) fun k => ?_
   · rcases List.mem_append.1 hp with hp | hp
     · obtain ⟨p0, hp0, rfl⟩ := List.mem_map.1 hp
       obtain ⟨h1, h2, h3, h4, h5⟩ := h'.pays p0 (List.mem_append_left _ hp0)
       rw [(closeP_frm _ _).1, (closeP_frm _ _).2]
       exact ⟨closeP_right _ h1, h2, h3, h4, closeP_open _ h5⟩
     · exact h'.pays p (List.mem_append_right _ hp)
   · have h1 := hsum_close k (s.now + 1) s.pys fun p hp => by have := (h'.pays p (List.mem_append_left _ hp)).1.2.1; omega
     have h2 := hsum_nn k P fun p hp => by have := (h'.pays p (List.mem_append_right _ hp)).1.2.1; omega
     dsimp only
     rw [hsum_append, hsum_append]
     omega
/-- One element that says the same. -/
theorem map_set_same {α β : Type} (f : α → β) {l : List α} {i : Nat} {a b : α} (h : l[i]? = some a) (e : f b = f a) : (l.set i b).map f = l.map f := by
 refine List.ext_getElem? fun j => ?_
 rw [List.getElem?_map, List.getElem?_map]
 by_cases hj : i = j
 · subst hj
   rw [List.getElem?_set_self (List.getElem?_eq_some_iff.1 h).1, h, Option.map_some, Option.map_some, e]
 · rw [List.getElem?_set_ne hj]
theorem opS_pys (s : St) (r : Rq) {n : Nat} (hn : 64 ≤ n) (h : s.pys.length ≤ n) : (opS s r).pys.length ≤ n := by
 by_cases hE : opE s r = 0
 · rw [opS_yes hE]
   unfold opE at hE
   unfold opT
   by_cases o0 : r.op = 0
   · rw [if_pos o0]; exact h
   · rw [if_neg o0] at hE ⊢
     by_cases o1 : r.op = 1
     · rw [if_pos o1]; exact h
     · rw [if_neg o1] at hE ⊢
       by_cases o2 : r.op = 2
       · rw [if_pos o2]; exact h
       · rw [if_neg o2] at hE ⊢
         by_cases o3 : r.op = 3
         · rw [if_pos o3] at hE ⊢
           unfold authE at hE
           split at hE
           · split at hE
             · omega
             · split at hE
               · omega
               · dsimp only
                 rw [List.length_append, List.length_singleton]
                 omega
           · omega
         · rw [if_neg o3]
           dsimp only
           rw [List.length_set]
           exact h
 · rw [opS_no hE]; exact h
/-- Those that were not told yet. -/
def untold (kl : List Kn) : List Kn := kl.filter fun k => !k.told
theorem untold_app (a b : List Kn) : untold (a ++ b) = untold a ++ untold b := List.filter_append ..
theorem untold_told {k : Kn} (h : k.told = true) : untold [k] = [] := by simp [untold, h]
theorem untold_not {k : Kn} (h : k.told = false) : untold [k] = [k] := by simp [untold, h]
/-- What is right of a state with sagas and keys. -/
structure GoodX (X : Eg) : Prop where
 ok : OkS X.T X.sl
 few : X.sl.length ≤ 16
 keys : X.kl.length ≤ 256
 pys : X.T.pys.length ≤ 1999900
 sag : ∀ g ∈ X.sl, g.rq.may ∧ isLong g.rq ∧ rightSg g
 link : (untold X.kl).map Kn.rq = X.sl.map Sg.rq
 once : (X.kl.map fun k => k.rq.key).Nodup
theorem GoodX.fits {X : Eg} (h : GoodX X) : Fits X.T X.sl X.kl := ⟨okP_right h.ok, by have := h.pys; omega, by have := h.few; omega, by have := h.keys; omega⟩
theorem good_new {s : St} (h : Ok s) (hp : s.pys.length ≤ 1999900) : GoodX ⟨s, [], []⟩ :=
 ⟨by show Ok ⟨s.acs, s.pys ++ [], s.now⟩; rw [List.append_nil]; exact h, Nat.zero_le _, Nat.zero_le _, hp, fun g hg => (List.not_mem_nil hg).elim, rfl, List.nodup_nil⟩
theorem once_at {l1 l2 : List Kn} {k : Kn} (h : ((l1 ++ k :: l2).map fun k => k.rq.key).Nodup) : (∀ a ∈ l1, a.rq.key ≠ k.rq.key) ∧ findN (l1 ++ k :: l2) k.rq.key = some l1.length := by
 rw [List.map_append, List.map_cons, List.nodup_append] at h
 have h1 : ∀ a ∈ l1, a.rq.key ≠ k.rq.key := fun a ha e => h.2.2 _ (List.mem_map.2 ⟨a, ha, rfl⟩) _ (List.mem_cons_self ..) e
 refine ⟨h1, find_some.2 ⟨⟨k, by simp, rfl⟩, fun j a hj ha => ?_⟩⟩
 rw [List.getElem?_append_left hj] at ha
 exact h1 a (List.mem_of_getElem? ha)
theorem tell_at {l1 l2 : List Kn} {k : Kn} (h : ((l1 ++ k :: l2).map fun k => k.rq.key).Nodup) (hk : k.told = false) (e i : Int) : toldL (l1 ++ k :: l2) k.rq.key e i = l1 ++ ⟨k.rq, e, i, true⟩ :: l2 := by
 obtain ⟨_, hf⟩ := once_at h
 have ha : (l1 ++ k :: l2)[l1.length]? = some k := by simp
 have hn : ¬ k.told = true := by rw [hk]; exact Bool.false_ne_true
 have e1 : tellE (l1 ++ k :: l2) k.rq.key = 0 := by unfold tellE; rw [hf]; dsimp only; rw [knAt_of ha, if_neg hn]
 have e2 : tellL (l1 ++ k :: l2) k.rq.key e i = l1 ++ ⟨k.rq, e, i, true⟩ :: l2 := by unfold tellL; rw [hf]; dsimp only; rw [knAt_of ha, if_neg hn, List.set_append_right _ _ (Nat.le_refl _), Nat.sub_self, List.set_cons_zero]
 unfold toldL
 rw [if_pos e1, e2]
theorem rightSg_begin {r : Rq} (hm : r.may) (hl : isLong r) : rightSg (beginS r) := by
 obtain ⟨_, h2, _, _⟩ := hm
 unfold legsOk at h2
 rw [if_pos hl.1] at h2
 unfold rightSg rightPhS beginS mtS missS
 dsimp only
 rw [if_pos rfl]
 have := hl.2
 refine ⟨h2, ⟨by omega, by omega⟩, ⟨by omega, by omega⟩, rfl, ?_⟩
 split <;> omega
theorem rightSg_leg {g : Sg} (h : rightSg g) (h0 : ¬ g.ph = 1) (hr : ¬ readyS g) (ok : Bool) : rightSg (legS g ok) := by
 obtain ⟨h1, h2, h3, h4⟩ := h
 unfold rightPhS at h4
 unfold readyS at hr
 have hph : g.ph = 0 := by
  by_cases hp : g.ph = 0
  · exact hp
  · rw [if_neg hp, if_neg h0] at h4
    exact h4.elim
 rw [if_pos hph] at h4
 have hlt : g.leg < g.rq.legs := by omega
 have hw : waitS g := ⟨hph, hlt⟩
 unfold mtS missS at h4
 rw [if_pos hlt, if_neg (by omega)] at h4
 unfold legS
 rw [if_pos hw, wr1 (x := g.leg + 1) (by omega) (by omega), wr1 (x := g.tries + 1) (by omega) (by omega)]
 split
 · unfold rightSg rightPhS mtS missS
   dsimp only
   rw [if_pos hph]
   refine ⟨h1, ⟨by omega, by omega⟩, ⟨by omega, by omega⟩, h4.1, ?_⟩
   split <;> omega
 · split
   · unfold rightSg rightPhS
     dsimp only
     rw [if_neg (by decide), if_pos rfl]
     exact ⟨h1, h2, ⟨by omega, by omega⟩, by decide⟩
   · unfold rightSg rightPhS mtS missS
     dsimp only
     rw [if_pos hph, if_pos hlt, if_neg (by omega)]
     exact ⟨h1, h2, ⟨by omega, by omega⟩, h4.1, by omega⟩
theorem rightSg_turn {g : Sg} (h : rightSg g) (hr : readyS g) {e : Int} (he : e ≠ 0) : rightSg (turnS g e) := by
 obtain ⟨h1, h2, h3, h4⟩ := h
 unfold turnS
 rw [if_pos hr.1]
 unfold rightSg rightPhS
 dsimp only
 rw [if_neg (by decide), if_pos rfl]
 exact ⟨h1, h2, h3, he⟩
theorem turnS_rq (g : Sg) (e : Int) : (turnS g e).rq = g.rq := by unfold turnS; split <;> rfl
theorem asPay_rq {g h : Sg} (e : g.rq = h.rq) : asPay g = asPay h := by unfold asPay; rw [e]
/-- A saga goes on. -/
theorem GoodX.goOn {X : Eg} (h : GoodX X) {i : Nat} {g g' : Sg} (hg : X.sl[i]? = some g) (e : g'.rq = g.rq) (hr : rightSg g') : GoodX (goO X i g').X := by
 unfold goO
 refine ⟨?_, by dsimp only; rw [List.length_set]; exact h.few, h.keys, h.pys, fun x hx => ?_, ?_, h.once⟩
 · show OkP ((X.sl.set i g').map asPay) X.T
   rw [map_set_same asPay hg (asPay_rq e)]
   exact h.ok
 · rcases List.mem_or_eq_of_mem_set hx with hx | rfl
   · exact h.sag x hx
   · rw [e]
     obtain ⟨h1, h2, _⟩ := h.sag g (List.mem_of_getElem? hg)
     exact ⟨h1, h2, hr⟩
 · dsimp only
   rw [map_set_same Sg.rq hg e]
   exact h.link
/-- Where a saga lies, and its key. -/
theorem GoodX.at_ {X : Eg} (h : GoodX X) {i : Nat} {g : Sg} (hg : X.sl[i]? = some g) : ∃ (x y : List Sg) (l1 l2 : List Kn) (k : Kn), X.sl = x ++ g :: y ∧ x.length = i ∧ X.kl = l1 ++ k :: l2 ∧ k.rq = g.rq ∧ k.told = false ∧ (untold l1).map Kn.rq = x.map Sg.rq ∧ (untold l2).map Kn.rq = y.map Sg.rq := by
 obtain ⟨hi, rfl⟩ := List.getElem?_eq_some_iff.1 hg
 have hs : X.sl = X.sl.take i ++ X.sl[i] :: X.sl.drop (i + 1) := by rw [List.getElem_cons_drop, List.take_append_drop]
 have hl := h.link
 rw [hs, List.map_append, List.map_cons] at hl
 obtain ⟨a, b, e1, e2, e3⟩ := List.map_eq_append_iff.1 hl
 obtain ⟨k, c, e4, e5, e6⟩ := List.map_eq_cons_iff.1 e3
 unfold untold at e1
 obtain ⟨l1, m, f1, f2, f3⟩ := List.filter_eq_append_iff.1 e1
 rw [e4] at f3
 obtain ⟨m1, m2, g1, g2, g3, g4⟩ := List.filter_eq_cons_iff.1 f3
 refine ⟨X.sl.take i, X.sl.drop (i + 1), l1 ++ m1, m2, k, hs, ?_, by rw [f1, g1, List.append_assoc], e5, by simpa using g3, ?_, ?_⟩
 · rw [List.length_take]; omega
 · rw [untold_app]
   have : untold m1 = [] := List.filter_eq_nil_iff.2 g2
   rw [this, List.append_nil]
   show (l1.filter _).map _ = _
   rw [f2]
   exact e2
 · show (m2.filter _).map _ = _
   rw [g4]
   exact e6
/-- A saga is at its end. -/
theorem GoodX.ended {X : Eg} (h : GoodX X) {i : Nat} {g : Sg} (hg : X.sl[i]? = some g) {T : St} (hT : ∀ P R : List Py, OkP (P ++ asPay g :: R) X.T → OkP (P ++ R) T) (hp : T.pys.length ≤ 1999900) (why : Int) : GoodX (endO ⟨T, X.sl, X.kl⟩ i g why).X := by
 obtain ⟨x, y, l1, l2, k, e1, e2, e3, e4, e5, e6, e7⟩ := h.at_ hg
 have hon := h.once
 have hk := h.keys
 have hfew := h.few
 have hok : OkP (X.sl.map asPay) X.T := h.ok
 have hsag := h.sag
 unfold endO
 dsimp only
 rw [e3] at hon hk
 rw [e1] at hok hsag hfew
 rw [List.map_append, List.map_cons] at hok
 have hE : X.sl.eraseIdx i = x ++ y := by rw [e1, ← e2, List.eraseIdx_append_of_length_le (Nat.le_refl _), Nat.sub_self]; rfl
 rw [hE, e3, ← e4, tell_at hon e5]
 refine ⟨?_, ?_, ?_, hp, fun a ha => hsag a ?_, ?_, ?_⟩
 · show OkP ((x ++ y).map asPay) T
   rw [List.map_append]
   exact hT _ _ hok
 · dsimp only; rw [List.length_append, List.length_cons] at hfew; rw [List.length_append]; omega
 · dsimp only; rw [List.length_append, List.length_cons] at hk ⊢; exact hk
 · rcases List.mem_append.1 ha with ha | ha
   · exact List.mem_append_left _ ha
   · exact List.mem_append_right _ (List.mem_cons_of_mem _ ha)
 · dsimp only
   rw [show l1 ++ (⟨k.rq, why, 0, true⟩ : Kn) :: l2 = l1 ++ ([⟨k.rq, why, 0, true⟩] ++ l2) from rfl, untold_app, untold_app, untold_told rfl, List.nil_append, List.map_append, List.map_append, e6, e7]
 · dsimp only
   rw [List.map_append, List.map_cons] at hon ⊢
   exact hon
theorem GoodX.step {X : Eg} (h : GoodX X) (key : Int) (ok : Bool) : GoodX (stpO X key ok).X := by
 unfold stpO
 cases hf : findS X.sl key with
 | none => exact h
 | some i =>
   dsimp only
   obtain ⟨⟨g, hg, _⟩, _⟩ := findS_some.1 hf
   rw [List.getD_eq_getElem?_getD, hg, Option.getD_some]
   obtain ⟨h1, h2, h3⟩ := h.sag g (List.mem_of_getElem? hg)
   unfold stepAt
   split
   · exact h.ended hg (fun P R hP => hP.undone.2) (by unfold undS; split <;> exact h.pys) _
   · rename_i hn1
     split
     · rename_i hrd
       split
       · rename_i hs
         exact h.ended hg (fun P R hP => hP.settled hs) (by unfold setS; split <;> exact h.pys) _
       · rename_i hs
         exact h.goOn hg (turnS_rq _ _) (rightSg_turn h3 hrd hs)
     · rename_i hrd
       exact h.goOn hg (legS_rq _ _) (rightSg_leg h3 hn1 hrd ok)
theorem once_put {kl : List Kn} {k : Kn} (h : (kl.map fun k => k.rq.key).Nodup) (hf : findN kl k.rq.key = none) : ((kl ++ [k]).map fun k => k.rq.key).Nodup := by
 have h0 := find_none.1 hf
 rw [List.map_append, List.nodup_append]
 refine ⟨h, List.nodup_cons.2 ⟨List.not_mem_nil, List.nodup_nil⟩, ?_⟩
 intro a ha b hb e
 simp only [List.map_cons, List.map_nil, List.mem_singleton] at hb
 obtain ⟨x, hx, hxa⟩ := List.mem_map.1 ha
 obtain ⟨j, hj⟩ := List.getElem?_of_mem hx
 exact h0 j x hj (by rw [hxa, e, hb])
theorem kput_ok {kl : List Kn} {r : Rq} (h : kputE kl r = 0) : findN kl r.key = none ∧ kl.length < 256 := by
 unfold kputE at h
 split at h
 · rename_i hf
   split at h
   · omega
   · exact ⟨hf, by omega⟩
 · omega
theorem GoodX.sub {X : Eg} (h : GoodX X) (r : Rq) : GoodX (subO X r).X := by
 unfold subO
 split
 · rename_i hm
   split
   · exact h
   · split
     · exact h
     · rename_i hrm
       split
       · rename_i hp
         obtain ⟨hf, hl⟩ := kput_ok hp
         have htold : ∀ e i : Int, toldL (putL X.kl r) r.key e i = X.kl ++ [⟨r, e, i, true⟩] := fun e i => by
          obtain ⟨_, p2, p3⟩ := put_told hp e i
          unfold toldL
          rw [if_pos p2, p3]
         have hlen : ∀ k : Kn, (X.kl ++ [k]).length ≤ 256 := fun k => by rw [List.length_append, List.length_singleton]; omega
         have hunt : ∀ e i : Int, (untold (X.kl ++ [⟨r, e, i, true⟩])).map Kn.rq = X.sl.map Sg.rq := fun e i => by
          rw [untold_app, untold_told rfl, List.append_nil]
          exact h.link
         split
         · rename_i hlg
           have h16 : X.sl.length < 16 := by
            by_cases hx : X.sl.length < 16
            · exact hx
            · exact absurd ⟨hlg, by omega⟩ hrm
           unfold begO
           dsimp only
           split
           · rename_i hr
             obtain ⟨_, hmv, _, _, e2, _⟩ := rsv_ok hr
             have hpy := h.pys
             have hb := OkP.begun (P := X.sl.map asPay) h.ok (by rw [List.length_map]; omega) hm hlg hr (move_ne hmv) (by rw [List.length_map]; omega)
             obtain ⟨p1, _, _⟩ := put_told hp 0 0
             rw [p1]
             refine ⟨?_, by dsimp only; rw [List.length_append, List.length_singleton]; omega, hlen _, by dsimp only; rw [e2]; exact hpy, fun g hg => ?_, ?_, once_put (k := ⟨r, 0, 0, false⟩) h.once hf⟩
             · show OkP ((X.sl ++ [beginS r]).map asPay) (rsvS X.T r)
               rw [List.map_append]
               exact hb
             · rcases List.mem_append.1 hg with hg | hg
               · exact h.sag g hg
               · rw [List.mem_singleton] at hg
                 subst hg
                 exact ⟨hm, hlg, rightSg_begin hm hlg⟩
             · dsimp only
               rw [untold_app, untold_not rfl, List.map_append, List.map_append, h.link]
               rfl
           · rw [htold]
             exact ⟨h.ok, h.few, hlen _, h.pys, h.sag, hunt _ _, once_put (k := ⟨r, _, _, true⟩) h.once hf⟩
         · rename_i hlg
           rw [htold]
           obtain ⟨m1, m2, m3, m4⟩ := hm
           have h9 := h.few
           refine ⟨OkP.do_ (P := X.sl.map asPay) h.ok (by rw [List.length_map]; omega) r (fun h0 => ?_) (fun _ => m3.2), h.few, hlen _, opS_pys _ _ (by decide) h.pys, h.sag, hunt _ _, once_put (k := ⟨r, _, _, true⟩) h.once hf⟩
           unfold opOk at m4
           rw [if_pos h0] at m4
           omega
       · exact h
 · exact h
/-- Whatever happens. -/
theorem GoodX.ev {X : Eg} (h : GoodX X) (e : Ev) : GoodX (egO X e).X := by
 unfold egO egOT
 split
 · exact h.sub e.rq
 · split
   · exact h.step e.key e.ok
   · split
     · refine ⟨OkP.tick (P := X.sl.map asPay) h.ok, h.few, h.keys, ?_, h.sag, h.link, h.once⟩
       show (tickP X.T X.sl).pys.length ≤ _
       unfold tickP
       split
       · exact h.pys
       · dsimp only; rw [List.length_map]; exact h.pys
     · exact h
theorem GoodX.run {es : List Ev} : ∀ {R : Rv}, GoodX R.X → GoodX (runV R es).X := by
 induction es with
 | nil => intro R h; exact h
 | cons e es ih =>
   intro R h
   rw [runV_cons]
   exact ih (R := goV R e) (h.ev e)
end Go.Proofs.YteifgmdaggiaaaaGreatDoor
