/-
  What requests make of a state: plain words, no program.
  A right state stays right, whatever is asked for: plain words, no program.
  What a tick makes of a state: plain words, no program.
  A state that lies in memory.
  A state that is being changed, in memory: its own accounts and payments; what stays as it was.
  The five blocks that the law's do begins with: the state, the request, what is told, and the state that is turned.
  A payment stored as a whole: into a block of its own, and into a slice of the call's own.
-/
import Derived.Test.YteifgmdaggiaaaaGreatDoorWGrB
import Derived.Test.YteifgmdaggiaaaaGreatDoorWGrC
import Derived.Test.YteifgmdaggiaaaaGreatDoorWGrA
namespace Go.Proofs.YteifgmdaggiaaaaGreatDoor
open Go Go.RowKit
set_option linter.unusedVariables false
/-- A state: its accounts, its payments, its time. -/
structure St where
 acs : List Ac
 pys : List Py
 now : Int
/-- Is it a client's account, of so many? -/
def isC (n : Nat) (k : Int) : Prop := 9 ≤ k ∧ k < (n : Int)
instance (n : Nat) (k : Int) : Decidable (isC n k) := inferInstanceAs (Decidable (_ ∧ _))
def pyAt (ps : List Py) (k : Int) : Py := ps.getD k.toNat Py.zero
theorem pyAt_at {ps : List Py} {q : Nat} {p : Py} (h : ps[q]? = some p) : pyAt ps (q : Int) = p := by simp [pyAt, List.getD, h]
/-- What moves: the error's number, and the accounts. -/
def goE (zs : List Ac) (f t n : Int) : Int := if moveE zs f t n = 0 then postE zs (moveL zs f t n) else moveE zs f t n
def goL (zs : List Ac) (f t n : Int) : List Ac := postL zs (moveL zs f t n)
/-- What is free of an account. -/
def freeOf (zs : List Ac) (d : Int) : Int := (acOf zs d).bal - (acOf zs d).held
/-- The entries of a charge: what is not free the house loses. -/
def chgL (zs : List Ac) (d : Int) : List En → List En
 | [] => []
 | e :: r => if freeOf zs d < -e.amt then ⟨e.acct, -(freeOf zs d)⟩ :: (r ++ [⟨3 * (acOf zs d).cur + 2, e.amt + freeOf zs d⟩]) else e :: r
/-- What an op of a payment makes of the accounts. -/
def accE (zs : List Ac) (p : Py) (op n : Int) : Int :=
 if op = 5 then relE zs p.frm (leftP p)
 else if moveE zs p.frm p.dst n = 0 then
  (if op = 4 then spendE zs n (moveL zs p.frm p.dst n)
   else if op = 6 then postE zs (backE (moveL zs p.frm p.dst n))
   else postE zs (chgL zs p.dst (backE (moveL zs p.frm p.dst n))))
 else moveE zs p.frm p.dst n
def accL (zs : List Ac) (p : Py) (op n : Int) : List Ac :=
 if op = 5 then relL zs p.frm (leftP p)
 else if op = 4 then spendL zs n (moveL zs p.frm p.dst n)
 else if op = 6 then postL zs (backE (moveL zs p.frm p.dst n))
 else postL zs (chgL zs p.dst (backE (moveL zs p.frm p.dst n)))
def authE (s : St) (r : Rq) : Int :=
 if isC s.acs.length r.a ∧ isC s.acs.length r.b then
  (if r.a = r.b ∨ r.til ≤ s.now then 1 else if 64 ≤ s.pys.length then 7 else holdE s.acs r.a r.amt)
 else 2
def payOpE (s : St) (r : Rq) : Int :=
 if 0 ≤ r.a ∧ r.a < (s.pys.length : Int) then
  (if payE (pyAt s.pys r.a) r.op r.amt = 0 then accE s.acs (pyAt s.pys r.a) r.op r.amt else payE (pyAt s.pys r.a) r.op r.amt)
 else 2
/-- The error's number of a request; 0, if none. -/
def opE (s : St) (r : Rq) : Int :=
 if r.op = 0 then (if 64 ≤ s.acs.length then 7 else 0)
 else if r.op = 1 then (if isC s.acs.length r.a then goE s.acs (3 * (acOf s.acs r.a).cur) r.a r.amt else 2)
 else if r.op = 2 then (if isC s.acs.length r.a ∧ isC s.acs.length r.b then goE s.acs r.a r.b r.amt else 2)
 else if r.op = 3 then authE s r
 else if 4 ≤ r.op ∧ r.op ≤ 7 then payOpE s r
 else 1
/-- What a request makes of a state, where nothing is wrong. -/
def opT (s : St) (r : Rq) : St :=
 if r.op = 0 then ⟨s.acs ++ [⟨r.a, 0, 0⟩], s.pys, s.now⟩
 else if r.op = 1 then ⟨goL s.acs (3 * (acOf s.acs r.a).cur) r.a r.amt, s.pys, s.now⟩
 else if r.op = 2 then ⟨goL s.acs r.a r.b r.amt, s.pys, s.now⟩
 else if r.op = 3 then ⟨holdL s.acs r.a r.amt, s.pys ++ [⟨r.a, r.b, r.amt, 0, 0, 0, r.til, 0⟩], s.now⟩
 else ⟨accL s.acs (pyAt s.pys r.a) r.op r.amt, s.pys.set r.a.toNat (payP (pyAt s.pys r.a) r.op r.amt), s.now⟩
/-- The state behind a request. -/
def opS (s : St) (r : Rq) : St := if opE s r = 0 then opT s r else s
/-- The number that is told. -/
def opI (s : St) (r : Rq) : Int := if opE s r = 0 then (if r.op = 0 then (s.acs.length : Int) else if r.op = 3 then (s.pys.length : Int) else 0) else 0
theorem opS_yes {s : St} {r : Rq} (h : opE s r = 0) : opS s r = opT s r := if_pos h
theorem opS_no {s : St} {r : Rq} (h : opE s r ≠ 0) : opS s r = s := if_neg h
/-- What is held of an account for payments that are open. -/
def hsum (k : Nat) : List Py → Int
 | [] => 0
 | p :: r => (if p.stg = 0 ∧ p.frm = (k : Int) then p.aut - p.cap else 0) + hsum k r
def hpart (k : Nat) (p : Py) : Int := if p.stg = 0 ∧ p.frm = (k : Int) then p.aut - p.cap else 0
theorem hsum_cons (k : Nat) (p : Py) (r : List Py) : hsum k (p :: r) = hpart k p + hsum k r := rfl
theorem hsum_append (k : Nat) : ∀ x y : List Py, hsum k (x ++ y) = hsum k x + hsum k y
 | [], y => by simp [hsum]
 | p :: r, y => by rw [List.cons_append, hsum_cons, hsum_cons, hsum_append k r y]; omega
theorem hsum_set (k : Nat) : ∀ {x : List Py} {j : Nat} {a : Py} (b : Py), x[j]? = some a → hsum k (x.set j b) = hsum k x - hpart k a + hpart k b
 | [], j, a, b, h => by simp at h
 | p :: r, 0, a, b, h => by
   injection h with h
   subst h
   rw [List.set_cons_zero, hsum_cons, hsum_cons]
   omega
 | p :: r, j + 1, a, b, h => by
   rw [List.set_cons_succ, hsum_cons, hsum_cons, hsum_set k (x := r) (j := j) b (by simpa using h)]
   omega
theorem hsum_none (k : Nat) : ∀ x : List Py, (∀ p ∈ x, p.frm ≠ (k : Int)) → hsum k x = 0
 | [], _ => rfl
 | p :: r, h => by
   rw [hsum_cons, hsum_none k r fun q hq => h q (List.mem_cons_of_mem _ hq), hpart, if_neg fun hh => h p (List.mem_cons_self ..) hh.2]
   rfl
/-- A state that is right. -/
structure Ok (s : St) : Prop where
 right : rightB s.acs = true
 sums : ∀ c : Int, 0 ≤ c ∧ c < 3 → psum c s.acs = 0
 few : s.pys.length ≤ 2000000
 pays : ∀ p ∈ s.pys, p.right ∧ isC s.acs.length p.frm ∧ isC s.acs.length p.dst ∧ p.frm ≠ p.dst ∧ (p.stg = 0 → p.cap < p.aut)
 held : ∀ (k : Nat) (a : Ac), s.acs[k]? = some a → a.held = hsum k s.pys
 now : 0 ≤ s.now ∧ s.now ≤ 1073741824
/-- Entries turn only balances. -/
theorem post_stay {zs : List Ac} {es : List En} (h : postE zs es = 0) : Stay zs (postL zs es) := by
 obtain ⟨ys, _, hg, _, hl⟩ := postE_ok h
 rw [hl]
 exact postGo_stay hg
theorem rel_right {zs : List Ac} {k x : Int} (hr : rightB zs = true) (h : relE zs k x = 0) : rightB (relL zs k x) = true := by
 obtain ⟨h1, h2, h3⟩ := relE_ok h
 obtain ⟨q, rfl⟩ : ∃ q : Nat, k = (q : Int) := ⟨k.toNat, by omega⟩
 obtain ⟨a, ha⟩ : ∃ a, zs[q]? = some a := ⟨_, List.getElem?_eq_getElem (by omega)⟩
 rw [acOf_at ha] at h3
 have hlen := right_len hr
 obtain ⟨r1, r2, r3, r4⟩ := right_at hr ha
 have r5 := r4 (by omega)
 unfold isMay at r2
 unfold relL heldAs
 rw [if_pos h, acOf_at ha, Int.toNat_natCast]
 refine right_of (by rw [List.length_set]; exact hlen) fun j b hb => ?_
 by_cases hj : q = j
 · subst hj
   rw [List.getElem?_set_self (by omega)] at hb
   injection hb with hb
   subst hb
   refine ⟨r1, r2, fun hj => by omega, fun _ => ?_⟩
   dsimp only
   simp only [wrap64] at *
   omega
 · rw [List.getElem?_set_ne hj] at hb
   exact right_at hr hb
theorem rel_sums {zs : List Ac} {k x : Int} (h : relE zs k x = 0) (c : Int) : psum c (relL zs k x) = psum c zs := by
 obtain ⟨h1, h2, h3⟩ := relE_ok h
 obtain ⟨q, rfl⟩ : ∃ q : Nat, k = (q : Int) := ⟨k.toNat, by omega⟩
 obtain ⟨a, ha⟩ : ∃ a, zs[q]? = some a := ⟨_, List.getElem?_eq_getElem (by omega)⟩
 unfold relL heldAs
 rw [if_pos h, acOf_at ha, Int.toNat_natCast, psum_set c _ ha]
 dsimp only
 omega
theorem rel_len {zs : List Ac} {k x : Int} (h : relE zs k x = 0) : (relL zs k x).length = zs.length := by
 unfold relL
 rw [if_pos h, heldAs_len]
/-- What a hold, and a release, make of what is held. -/
theorem hold_at {zs : List Ac} {q : Nat} {x : Int} (hr : rightB zs = true) (h : holdE zs (q : Int) x = 0) {j : Nat} {b : Ac} (hb : (holdL zs (q : Int) x)[j]? = some b) : ∃ a, zs[j]? = some a ∧ b = ⟨a.cur, a.bal, if q = j then a.held + x else a.held⟩ := by
 obtain ⟨h1, h2, h3⟩ := holdE_ok h
 obtain ⟨a, ha⟩ : ∃ a, zs[q]? = some a := ⟨_, List.getElem?_eq_getElem (by omega)⟩
 rw [acOf_at ha] at h3
 obtain ⟨r1, r2, r3, r4⟩ := right_at hr ha
 have r5 := r4 (by omega)
 unfold isMay at r2
 unfold holdL heldAs at hb
 rw [if_pos h, acOf_at ha, Int.toNat_natCast] at hb
 by_cases hj : q = j
 · subst hj
   rw [List.getElem?_set_self (by omega)] at hb
   injection hb with hb
   refine ⟨a, ha, ?_⟩
   rw [← hb, if_pos rfl, w64 (by omega) (by omega)]
 · rw [List.getElem?_set_ne hj] at hb
   exact ⟨b, hb, by rw [if_neg hj]⟩
theorem rel_at {zs : List Ac} {q : Nat} {x : Int} (hr : rightB zs = true) (h : relE zs (q : Int) x = 0) {j : Nat} {b : Ac} (hb : (relL zs (q : Int) x)[j]? = some b) : ∃ a, zs[j]? = some a ∧ b = ⟨a.cur, a.bal, if q = j then a.held - x else a.held⟩ := by
 obtain ⟨h1, h2, h3⟩ := relE_ok h
 obtain ⟨a, ha⟩ : ∃ a, zs[q]? = some a := ⟨_, List.getElem?_eq_getElem (by omega)⟩
 rw [acOf_at ha] at h3
 obtain ⟨r1, r2, r3, r4⟩ := right_at hr ha
 have r5 := r4 (by omega)
 unfold isMay at r2
 unfold relL heldAs at hb
 rw [if_pos h, acOf_at ha, Int.toNat_natCast] at hb
 by_cases hj : q = j
 · subst hj
   rw [List.getElem?_set_self (by omega)] at hb
   injection hb with hb
   refine ⟨a, ha, ?_⟩
   rw [← hb, if_pos rfl, w64 (by omega) (by omega)]
 · rw [List.getElem?_set_ne hj] at hb
   exact ⟨b, hb, by rw [if_neg hj]⟩
theorem move_first {zs : List Ac} {f t x : Int} (h : moveE zs f t x = 0) : ∃ e r, moveL zs f t x = e :: r ∧ e.acct = f := by
 unfold moveL moveOk
 rw [if_pos h]
 split
 · exact ⟨_, _, rfl, rfl⟩
 · exact ⟨_, _, rfl, rfl⟩
theorem spend_of {zs : List Ac} {f t x y : Int} (h : moveE zs f t x = 0) : spendE zs y (moveL zs f t x) = (if relE zs f y = 0 then postE (relL zs f y) (moveL zs f t x) else relE zs f y) ∧ spendL zs y (moveL zs f t x) = (if relE zs f y = 0 then postL (relL zs f y) (moveL zs f t x) else []) := by
 obtain ⟨e, r, hl, he⟩ := move_first h
 rw [hl]
 unfold spendE spendL
 dsimp only
 rw [he]
 exact ⟨rfl, rfl⟩
theorem Ok.posted {s : St} (h : Ok s) {es : List En} (he : postE s.acs es = 0) : Ok ⟨postL s.acs es, s.pys, s.now⟩ where
 right := post_right h.right he
 sums := fun c hc => by rw [post_sums he c hc]; exact h.sums c hc
 few := h.few
 pays := fun p hp => by
  show p.right ∧ isC (postL s.acs es).length p.frm ∧ isC (postL s.acs es).length p.dst ∧ _
  rw [post_len he]
  exact h.pays p hp
 held := fun k b hb => by
  obtain ⟨a, ha, _, e2, _⟩ := (post_stay he).back hb
  rw [e2]
  exact h.held k a ha
 now := h.now
theorem isC_more {n : Nat} {k : Int} (h : isC n k) : isC (n + 1) k := by unfold isC at h ⊢; omega
theorem Ok.opened {s : St} (h : Ok s) (hl : s.acs.length < 64) {c : Int} (hc : 0 ≤ c ∧ c < 3) : Ok ⟨s.acs ++ [⟨c, 0, 0⟩], s.pys, s.now⟩ where
 right := by
  have hlen := right_len h.right
  refine right_of (by rw [List.length_append, List.length_singleton]; omega) fun j a ha => ?_
  by_cases hj : j < s.acs.length
  · rw [List.getElem?_append_left hj] at ha
    exact right_at h.right ha
  · have h1 := (List.getElem?_eq_some_iff.1 ha).1
    rw [List.length_append, List.length_singleton] at h1
    obtain rfl : j = s.acs.length := by omega
    rw [List.getElem?_append_right (Nat.le_refl _), Nat.sub_self] at ha
    injection ha with ha
    subst ha
    exact ⟨hc, ⟨by dsimp only; omega, by dsimp only; omega⟩, fun hj => by omega, fun _ => ⟨Int.le_refl _, Int.le_refl _⟩⟩
 sums := fun x hx => by
  show psum x (s.acs ++ [⟨c, 0, 0⟩]) = 0
  rw [psum_append, h.sums x hx]
  simp [psum]
 few := h.few
 pays := fun p hp => by
  show p.right ∧ isC (s.acs ++ [(⟨c, 0, 0⟩ : Ac)]).length p.frm ∧ isC (s.acs ++ [(⟨c, 0, 0⟩ : Ac)]).length p.dst ∧ _
  rw [List.length_append, List.length_singleton]
  obtain ⟨h1, h2, h3, h4⟩ := h.pays p hp
  exact ⟨h1, isC_more h2, isC_more h3, h4⟩
 held := fun k a ha => by
  by_cases hj : k < s.acs.length
  · exact h.held k a (by rw [← List.getElem?_append_left hj]; exact ha)
  · have h1 := (List.getElem?_eq_some_iff.1 ha).1
    rw [List.length_append, List.length_singleton] at h1
    obtain rfl : k = s.acs.length := by omega
    rw [show (s.acs ++ [(⟨c, 0, 0⟩ : Ac)])[s.acs.length]? = some ⟨c, 0, 0⟩ by simp] at ha
    injection ha with ha
    subst ha
    exact (hsum_none _ _ fun p hp => by have := (h.pays p hp).2.1; unfold isC at this; omega).symm
 now := h.now
theorem Ok.authed {s : St} (h : Ok s) {r : Rq} (he : authE s r = 0) (ht : r.til ≤ 1073741824) : Ok ⟨holdL s.acs r.a r.amt, s.pys ++ [⟨r.a, r.b, r.amt, 0, 0, 0, r.til, 0⟩], s.now⟩ := by
 unfold authE at he
 split at he
 · rename_i hc
   split at he
   · omega
   · rename_i hn
     split at he
     · omega
     · rename_i hp
       obtain ⟨h1, h2, h3⟩ := holdE_ok he
       obtain ⟨q, hq⟩ : ∃ q : Nat, r.a = (q : Int) := ⟨r.a.toNat, by omega⟩
       have hnow := h.now
       have hlen := hold_len he
       refine ⟨hold_right h.right he, fun c hc => by rw [hold_sums he c]; exact h.sums c hc, by rw [List.length_append, List.length_singleton]; omega, fun p hp => ?_, fun k b hb => ?_, h.now⟩
       · show p.right ∧ isC (holdL s.acs r.a r.amt).length p.frm ∧ isC (holdL s.acs r.a r.amt).length p.dst ∧ _
         rw [hlen]
         rcases List.mem_append.1 hp with hp | hp
         · exact h.pays p hp
         · rw [List.mem_singleton] at hp
           subst hp
           refine ⟨?_, hc.1, hc.2, fun e => hn (.inl e), fun _ => ?_⟩
           · unfold Py.right backOk
             dsimp only
             omega
           · dsimp only
             omega
       · dsimp only at hb
         rw [hq] at he hb
         obtain ⟨a, ha, rfl⟩ := hold_at h.right he hb
         dsimp only
         rw [hsum_append, hsum_cons, ← h.held k a ha]
         unfold hpart
         dsimp only
         rw [show hsum k [] = 0 from rfl]
         by_cases hk : q = k
         · subst hk
           rw [if_pos rfl, if_pos ⟨rfl, hq⟩]
           omega
         · rw [if_neg hk, if_neg (by rw [hq]; omega)]
           omega
 · omega
/-- One payment is another one, and the accounts hold so much less. -/
theorem Ok.paid {s : St} (h : Ok s) {q : Nat} {p p' : Py} {zs : List Ac} (hp : s.pys[q]? = some p) (hr' : p'.right) (hf : p'.frm = p.frm) (hd : p'.dst = p.dst) (hcap : p'.stg = 0 → p'.cap < p'.aut)
  (hr : rightB zs = true) (hs : ∀ c : Int, 0 ≤ c ∧ c < 3 → psum c zs = psum c s.acs) (hl : zs.length = s.acs.length)
  (hh : ∀ (j : Nat) (b : Ac), zs[j]? = some b → ∃ a, s.acs[j]? = some a ∧ b.held = a.held - hpart j p + hpart j p') : Ok ⟨zs, s.pys.set q p', s.now⟩ where
 right := hr
 sums := fun c hc => by rw [hs c hc]; exact h.sums c hc
 few := by rw [List.length_set]; exact h.few
 pays := fun x hx => by
  show x.right ∧ isC zs.length x.frm ∧ isC zs.length x.dst ∧ _
  rw [hl]
  rcases List.mem_or_eq_of_mem_set hx with hx | rfl
  · exact h.pays x hx
  · obtain ⟨h1, h2, h3, h4, h5⟩ := h.pays p (List.mem_of_getElem? hp)
    rw [hf, hd]
    exact ⟨hr', h2, h3, h4, hcap⟩
 held := fun k b hb => by
  obtain ⟨a, ha, e⟩ := hh k b hb
  show b.held = hsum k (s.pys.set q p')
  rw [e, hsum_set k p' hp, h.held k a ha]
 now := h.now
theorem payP_4 (p : Py) (n : Int) : payP p 4 n = ⟨p.frm, p.dst, p.aut, wrap64 (p.cap + n), p.ref, p.chg, p.til, if wrap64 (p.cap + n) = p.aut then 1 else p.stg⟩ := by unfold payP; rw [if_pos rfl]
theorem payP_5 (p : Py) (n : Int) : payP p 5 n = ⟨p.frm, p.dst, p.aut, p.cap, p.ref, p.chg, p.til, 1⟩ := by unfold payP; rw [if_neg (by decide), if_pos rfl]
theorem payP_6 (p : Py) (n : Int) : payP p 6 n = ⟨p.frm, p.dst, p.aut, p.cap, wrap64 (p.ref + n), p.chg, p.til, p.stg⟩ := by unfold payP; rw [if_neg (by decide), if_neg (by decide), if_pos rfl]
theorem payP_7 (p : Py) (n : Int) : payP p 7 n = ⟨p.frm, p.dst, p.aut, p.cap, p.ref, wrap64 (p.chg + n), p.til, p.stg⟩ := by unfold payP; rw [if_neg (by decide), if_neg (by decide), if_neg (by decide), if_pos rfl]
theorem Ok.payed {s : St} (h : Ok s) {q : Nat} {p : Py} {op n : Int} (hp : s.pys[q]? = some p) (ho : 4 ≤ op ∧ op ≤ 7) (he : payE p op n = 0) (ha : accE s.acs p op n = 0) : Ok ⟨accL s.acs p op n, s.pys.set q (payP p op n), s.now⟩ := by
 obtain ⟨h1, h2, h3, h4, h5⟩ := h.pays p (List.mem_of_getElem? hp)
 have hst := h1.stays he
 have hpr := h1
 obtain ⟨f, hf⟩ : ∃ f : Nat, p.frm = (f : Int) := ⟨p.frm.toNat, by unfold isC at h2; omega⟩
 have hx : op = 4 ∨ op = 5 ∨ op = 6 ∨ op = 7 := by omega
 rcases hx with rfl | rfl | rfl | rfl
 · have hb := hst.1
   rw [payP_4] at hb ⊢
   unfold payE at he
   rw [if_pos rfl, h1.left] at he
   obtain ⟨n1, n2⟩ := excE_zero he
   by_cases hs : p.stg = 0
   · rw [if_pos hs] at n2
     unfold Py.right backOk at hpr
     have hw : wrap64 (p.cap + n) = p.cap + n := w64 (by omega) (by omega)
     rw [hw] at hb ⊢
     unfold accE at ha
     unfold accL
     rw [if_neg (by decide)] at ha ⊢
     rw [if_pos rfl]
     split at ha
     · rename_i hm
       rw [if_pos rfl, (spend_of hm).1] at ha
       rw [(spend_of hm).2]
       split at ha
       · rename_i hre
         rw [if_pos hre]
         refine h.paid hp hb rfl rfl (fun hz => ?_) (post_right (rel_right h.right hre) ha) (fun c hc => by rw [post_sums ha c hc, rel_sums hre]) (by rw [post_len ha, rel_len hre]) fun j b hjb => ?_
         · dsimp only at hz ⊢
           split at hz <;> omega
         · obtain ⟨a1, ha1, _, e2, _⟩ := (post_stay ha).back hjb
           rw [hf] at hre ha1
           obtain ⟨a, haa, rfl⟩ := rel_at h.right hre ha1
           refine ⟨a, haa, ?_⟩
           rw [e2]
           unfold hpart
           dsimp only
           rw [hf]
           by_cases hj : f = j
           · subst hj
             rw [if_pos rfl, if_pos ⟨hs, rfl⟩]
             by_cases hc : p.cap + n = p.aut
             · rw [if_pos hc, if_neg (by simp)]; omega
             · rw [if_neg hc, if_pos ⟨hs, rfl⟩]; omega
           · rw [if_neg hj, if_neg (by omega), if_neg (by omega)]; omega
       · rename_i hre
         exact absurd ha hre
     · rename_i hm
       exact absurd ha hm
   · rw [if_neg hs] at n2
     omega
 · have hb := hst.1
   rw [payP_5] at hb ⊢
   unfold payE at he
   rw [if_neg (by decide), if_pos rfl] at he
   by_cases hs : p.stg = 0
   · unfold accE at ha
     unfold accL
     rw [if_pos rfl] at ha ⊢
     have hleft := h1.left
     rw [if_pos hs] at hleft
     refine h.paid hp hb rfl rfl (fun hz => by cases hz) (rel_right h.right ha) (fun c hc => rel_sums ha c) (rel_len ha) fun j b hjb => ?_
     rw [hf] at ha hjb
     obtain ⟨a, haa, rfl⟩ := rel_at h.right ha hjb
     refine ⟨a, haa, ?_⟩
     unfold hpart
     dsimp only
     rw [hf, hleft]
     by_cases hj : f = j
     · subst hj
       rw [if_pos rfl, if_pos ⟨hs, rfl⟩, if_neg (by simp)]; omega
     · rw [if_neg hj, if_neg (by omega), if_neg (by omega)]; omega
   · rw [if_neg hs] at he
     omega
 · have hb := hst.1
   rw [payP_6] at hb ⊢
   unfold accE at ha
   unfold accL
   rw [if_neg (by decide)] at ha ⊢
   rw [if_neg (by decide), if_pos rfl] at ⊢
   split at ha
   · rw [if_neg (by decide), if_pos rfl] at ha
     refine h.paid hp hb rfl rfl h5 (post_right h.right ha) (fun c hc => post_sums ha c hc) (post_len ha) fun j b hjb => ?_
     obtain ⟨a, haa, _, e2, _⟩ := (post_stay ha).back hjb
     exact ⟨a, haa, by rw [e2]; unfold hpart; dsimp only; omega⟩
   · rename_i hm
     exact absurd ha hm
 · have hb := hst.1
   rw [payP_7] at hb ⊢
   unfold accE at ha
   unfold accL
   rw [if_neg (by decide)] at ha ⊢
   rw [if_neg (by decide), if_neg (by decide)] at ⊢
   split at ha
   · rw [if_neg (by decide), if_neg (by decide)] at ha
     refine h.paid hp hb rfl rfl h5 (post_right h.right ha) (fun c hc => post_sums ha c hc) (post_len ha) fun j b hjb => ?_
     obtain ⟨a, haa, _, e2, _⟩ := (post_stay ha).back hjb
     exact ⟨a, haa, by rw [e2]; unfold hpart; dsimp only; omega⟩
   · rename_i hm
     exact absurd ha hm
/-- A right state stays right behind any request, but for a new account's currency, and a time that is too late. -/
theorem Ok.do_ {s : St} (h : Ok s) (r : Rq) (h0 : r.op = 0 → 0 ≤ r.a ∧ r.a < 3) (h3 : r.op = 3 → r.til ≤ 1073741824) : Ok (opS s r) := by
 by_cases he : opE s r = 0
 · rw [opS_yes he]
   unfold opE at he
   unfold opT
   by_cases o0 : r.op = 0
   · rw [if_pos o0] at he ⊢
     split at he
     · omega
     · exact h.opened (by omega) (h0 o0)
   · rw [if_neg o0] at he ⊢
     by_cases o1 : r.op = 1
     · rw [if_pos o1] at he ⊢
       split at he
       · unfold goE at he
         split at he
         · exact h.posted he
         · rename_i hm; exact absurd he hm
       · omega
     · rw [if_neg o1] at he ⊢
       by_cases o2 : r.op = 2
       · rw [if_pos o2] at he ⊢
         split at he
         · unfold goE at he
           split at he
           · exact h.posted he
           · rename_i hm; exact absurd he hm
         · omega
       · rw [if_neg o2] at he ⊢
         by_cases o3 : r.op = 3
         · rw [if_pos o3] at he ⊢
           exact h.authed he (h3 o3)
         · rw [if_neg o3] at he ⊢
           split at he
           · rename_i ho
             unfold payOpE at he
             split at he
             · rename_i hi
               obtain ⟨q, hq⟩ : ∃ q : Nat, r.a = (q : Int) := ⟨r.a.toNat, by omega⟩
               obtain ⟨p, hp⟩ : ∃ p, s.pys[q]? = some p := ⟨_, List.getElem?_eq_getElem (by omega)⟩
               rw [hq, pyAt_at hp] at he ⊢
               rw [Int.toNat_natCast]
               split at he
               · rename_i hpe
                 exact h.payed hp ho hpe he
               · rename_i hpe
                 exact absurd he hpe
             · omega
           · omega
 · rw [opS_no he]
   exact h
/-- A payment whose time is over is closed. -/
def closeP (t : Int) (p : Py) : Py := if p.stg = 0 ∧ p.til ≤ t then ⟨p.frm, p.dst, p.aut, p.cap, p.ref, p.chg, p.til, 1⟩ else p
/-- Accounts that hold what payments say. -/
def heldFrom (ps : List Py) : Nat → List Ac → List Ac
 | _, [] => []
 | k, a :: r => ⟨a.cur, a.bal, hsum k ps⟩ :: heldFrom ps (k + 1) r
def heldL (ps : List Py) (zs : List Ac) : List Ac := heldFrom ps 0 zs
theorem heldFrom_at (ps : List Py) : ∀ (zs : List Ac) (k j : Nat), (heldFrom ps k zs)[j]? = (zs[j]?).map fun a => ⟨a.cur, a.bal, hsum (k + j) ps⟩
 | [], k, j => by simp [heldFrom]
 | a :: r, k, 0 => by simp [heldFrom]
 | a :: r, k, j + 1 => by
   rw [heldFrom, List.getElem?_cons_succ, List.getElem?_cons_succ, heldFrom_at ps r (k + 1) j, show k + 1 + j = k + (j + 1) by omega]
theorem heldL_at (ps : List Py) (zs : List Ac) (j : Nat) : (heldL ps zs)[j]? = (zs[j]?).map fun a => ⟨a.cur, a.bal, hsum j ps⟩ := by
 unfold heldL
 rw [heldFrom_at, Nat.zero_add]
theorem heldFrom_len (ps : List Py) : ∀ (zs : List Ac) (k : Nat), (heldFrom ps k zs).length = zs.length
 | [], k => rfl
 | a :: r, k => by rw [heldFrom, List.length_cons, List.length_cons, heldFrom_len ps r]
theorem heldL_len (ps : List Py) (zs : List Ac) : (heldL ps zs).length = zs.length := heldFrom_len ps zs 0
theorem heldFrom_sum (ps : List Py) (c : Int) : ∀ (zs : List Ac) (k : Nat), psum c (heldFrom ps k zs) = psum c zs
 | [], k => rfl
 | a :: r, k => by simp only [heldFrom, psum, heldFrom_sum ps c r]
theorem heldL_sum (ps : List Py) (zs : List Ac) (c : Int) : psum c (heldL ps zs) = psum c zs := heldFrom_sum ps c zs 0
theorem Ok.heldL {s : St} (h : Ok s) : heldL s.pys s.acs = s.acs := by
 refine List.ext_getElem? fun j => ?_
 rw [heldL_at]
 cases ha : s.acs[j]? with
 | none => rfl
 | some a =>
   rw [Option.map_some, ← h.held j a ha]
theorem hpart_close (k : Nat) (t : Int) {p : Py} (h : p.cap ≤ p.aut) : 0 ≤ hpart k (closeP t p) ∧ hpart k (closeP t p) ≤ hpart k p := by
 unfold closeP
 split
 · unfold hpart
   dsimp only
   rw [if_neg (by omega)]
   split <;> omega
 · unfold hpart
   split <;> omega
theorem hsum_close (k : Nat) (t : Int) : ∀ ps : List Py, (∀ p ∈ ps, p.cap ≤ p.aut) → 0 ≤ hsum k (ps.map (closeP t)) ∧ hsum k (ps.map (closeP t)) ≤ hsum k ps
 | [], _ => ⟨Int.le_refl _, Int.le_refl _⟩
 | p :: r, h => by
   rw [List.map_cons, hsum_cons, hsum_cons]
   have h1 := hpart_close k t (h p (List.mem_cons_self ..))
   have h2 := hsum_close k t r fun q hq => h q (List.mem_cons_of_mem _ hq)
   omega
/-- A tick. -/
def tickS (s : St) : St := if s.now = 1073741824 then s else ⟨heldL (s.pys.map (closeP (s.now + 1))) s.acs, s.pys.map (closeP (s.now + 1)), s.now + 1⟩
theorem closeP_frm (t : Int) (p : Py) : (closeP t p).frm = p.frm ∧ (closeP t p).dst = p.dst := by unfold closeP; split <;> exact ⟨rfl, rfl⟩
theorem closeP_right (t : Int) {p : Py} (h : p.right) : (closeP t p).right := by
 unfold closeP
 split
 · unfold Py.right backOk at h ⊢
   dsimp only
   omega
 · exact h
theorem closeP_open (t : Int) {p : Py} (h : p.stg = 0 → p.cap < p.aut) : (closeP t p).stg = 0 → (closeP t p).cap < (closeP t p).aut := by
 unfold closeP
 split
 · intro h; cases h
 · exact h
theorem Ok.tick {s : St} (h : Ok s) : Ok (tickS s) := by
 unfold tickS
 split
 · exact h
 · rename_i hn
   have hnow := h.now
   have hlen := right_len h.right
   refine ⟨?_, fun c hc => ?_, ?_, fun p hp => ?_, fun k b hb => ?_, by dsimp only; omega⟩
   · refine right_of (by rw [heldL_len]; exact hlen) fun j b hb => ?_
     rw [heldL_at] at hb
     obtain ⟨a, ha, rfl⟩ := Option.map_eq_some_iff.1 hb
     obtain ⟨h1, h2, h3, h4⟩ := right_at h.right ha
     refine ⟨h1, h2, fun hj => ⟨?_, (h3 hj).2⟩, fun hj => ?_⟩
     · exact hsum_none _ _ fun p hp => by
        obtain ⟨p0, hp0, rfl⟩ := List.mem_map.1 hp
        have := (h.pays p0 hp0).2.1
        rw [(closeP_frm _ _).1]
        unfold isC at this
        omega
     · have hc := hsum_close j (s.now + 1) s.pys fun p hp => by have := (h.pays p hp).1.2.1; omega
       have := h4 hj
       have := h.held j a ha
       dsimp only
       omega
   · show psum c (Go.Proofs.YteifgmdaggiaaaaGreatDoor.heldL _ _) = 0
     rw [heldL_sum]
     exact h.sums c hc
   · rw [List.length_map]
     exact h.few
   · obtain ⟨p0, hp0, rfl⟩ := List.mem_map.1 hp
     show (closeP _ p0).right ∧ isC (Go.Proofs.YteifgmdaggiaaaaGreatDoor.heldL _ _).length (closeP _ p0).frm ∧ isC (Go.Proofs.YteifgmdaggiaaaaGreatDoor.heldL _ _).length (closeP _ p0).dst ∧ _
     rw [heldL_len, (closeP_frm _ _).1, (closeP_frm _ _).2]
     obtain ⟨h1, h2, h3, h4, h5⟩ := h.pays p0 hp0
     exact ⟨closeP_right _ h1, h2, h3, h4, closeP_open _ h5⟩
   · dsimp only at hb
     rw [heldL_at] at hb
     obtain ⟨a, ha, rfl⟩ := Option.map_eq_some_iff.1 hb
     rfl
/-- A slice that lies in memory as it should: nil is empty, and no longer than its room. -/
structure Sl (A : Option Addr) (n c : Nat) : Prop where
 nil : A = none → n = 0 ∧ c = 0
 room : n ≤ c
 most : c ≤ maxLen
/-- A value that is a state: its accounts, its payments, its time; X and Y are its sagas and its keys. -/
structure StAt (w : World) (s : St) (X Y : Value) (A : Option Addr) (c : Nat) (B : Option Addr) (d : Nat) : Prop where
 accs : RdA w A s.acs
 pays : RdS pays w B s.pys
 sa : Sl A s.acs.length c
 sp : Sl B s.pys.length d
def stV (s : St) (X Y : Value) (A : Option Addr) (c : Nat) (B : Option Addr) (d : Nat) : Value := .agg #[.slice A s.acs.length c, .slice B s.pys.length d, X, Y, .int .i64 s.now]
section
variable {w w' : World} {s : St} {X Y : Value} {A : Option Addr} {c : Nat} {B : Option Addr} {d : Nat}
theorem StAt.below (h : StAt w s X Y A c B d) (hb : Below w.heap.size w w') : StAt w' s X Y A c B d := ⟨h.accs.below hb, h.pays.below hb, h.sa, h.sp⟩
theorem StAt.alloc (h : StAt w s X Y A c B d) (o : Obj) : StAt (w.alloc o) s X Y A c B d := ⟨h.accs.alloc o, h.pays.alloc o, h.sa, h.sp⟩
theorem StAt.drew (h : StAt w s X Y A c B d) : StAt w.drew s X Y A c B d := ⟨h.accs.drew, h.pays.drew, h.sa, h.sp⟩
end
/-- Sagas and keys are slices, whatever they hold. -/
def IsSl (X : Value) : Prop := ∃ A n c, X = .slice A n c
/-- These blocks are as they were. -/
structure On (F : Nat → Prop) (w w' : World) : Prop where
 os : w'.os = w.os
 tape : w'.tape = w.tape
 output : w'.output = w.output
 size : w.heap.size ≤ w'.heap.size
 block : ∀ k, F k → w'.heap[k]? = w.heap[k]?
section
variable {F : Nat → Prop} {a w w' : World}
theorem On.refl (F : Nat → Prop) (w : World) : On F w w := ⟨rfl, rfl, rfl, Nat.le_refl _, fun _ _ => rfl⟩
theorem On.trans {x y z : World} (h : On F x y) (k : On F y z) : On F x z := ⟨k.os.trans h.os, k.tape.trans h.tape, k.output.trans h.output, Nat.le_trans h.size k.size, fun i hi => (k.block i hi).trans (h.block i hi)⟩
theorem On.drewN (h : On F a w) (m : Nat) : On F a (w.drewN m) := ⟨h.os, h.tape, h.output, h.size, h.block⟩
theorem On.drew (h : On F a w) : On F a w.drew := ⟨h.os, h.tape, h.output, h.size, h.block⟩
theorem On.of {B : Nat} (h : Below B w w') (hF : ∀ k, F k → k < B) : On F w w' := ⟨h.os, h.tape, h.output, h.size, fun k hk => h.block k (hF k hk)⟩
theorem On.below (h : On F w w') {B : Nat} (hB : ∀ k, k < B → F k) : Below B w w' := ⟨h.os, h.tape, h.output, h.size, fun k hk => h.block k (hB k hk)⟩
theorem On.setCell (h : On F a w) {p : Addr} (hp : ¬ F p.block) (u : Value) : On F a (w.setCell p u) :=
 ⟨h.os, h.tape, h.output, by simpa [World.setCell] using h.size, fun k hk => (Below.heap_setCell _ _ _ _ (fun e => hp (e ▸ hk))).trans (h.block k hk)⟩
theorem On.grown {row : Option Nat} (h : On F a w) (hg : w.grownBy w' row) (hF : ∀ k, F k → k < w.heap.size) (hr : ∀ k, row = some k → ¬ F k) : On F a w' :=
 ⟨hg.os.trans h.os, hg.tape.trans h.tape, hg.output.trans h.output, Nat.le_trans h.size hg.size, fun k hk => (hg.block k (hF k hk) (fun e => hr k e.symm hk)).trans (h.block k hk)⟩
end
/-- The state s lies in the block g, over accounts and payments of its own; F are blocks that it has nothing to do with. -/
structure Dr (F : Nat → Prop) (w : World) (g : Nat) (va vp X Y : Value) (s : St) : Prop where
 blk : Blk w g 171 #[va, vp, X, Y, .int .i64 s.now]
 oa : OwnA w 0 va s.acs
 op : OwnS pays w 0 vp s.pys
 ag : ∀ b, va.ownBlock = some b → b ≠ g ∧ vp.ownBlock ≠ some b ∧ ¬ F b
 pg : ∀ b, vp.ownBlock = some b → b ≠ g ∧ ¬ F b
 gF : ¬ F g
 lt : ∀ k, F k → k < w.heap.size
section
variable {F : Nat → Prop} {w w1 w2 w' : World} {g : Nat} {va vp X Y v : Value} {s : St} {zs : List Ac} {ps : List Py}
variable {b n c : Nat}
theorem Dr.alt (h : Dr F w g va vp X Y s) : ∀ b, va.ownBlock = some b → b < w.heap.size := fun b hb => (World.ownsRow.lt h.oa b hb).2
theorem Dr.plt (h : Dr F w g va vp X Y s) : ∀ b, vp.ownBlock = some b → b < w.heap.size := fun b hb => (World.ownsRow.lt h.op b hb).2
theorem Dr.below (h : Dr F w g va vp X Y s) (hb : Below w.heap.size w w') : Dr F w' g va vp X Y s :=
 ⟨h.blk.later hb, h.oa.below hb, h.op.below hb, h.ag, h.pg, h.gF, fun k hk => Nat.lt_of_lt_of_le (h.lt k hk) hb.size⟩
theorem Dr.alloc (h : Dr F w g va vp X Y s) (o : Obj) : Dr F (w.alloc o) g va vp X Y s := h.below ((Below.refl _ _).alloc (Nat.le_refl _) o)
theorem Dr.on (h : Dr F w g va vp X Y s) (hb : Below w.heap.size w w') : On F w w' := On.of hb h.lt
theorem Dr.drewN (h : Dr F w g va vp X Y s) (m : Nat) : Dr F (w.drewN m) g va vp X Y s := ⟨h.blk, h.oa, h.op, h.ag, h.pg, h.gF, h.lt⟩
theorem Dr.drew (h : Dr F w g va vp X Y s) : Dr F w.drew g va vp X Y s := ⟨h.blk, h.oa, h.op, h.ag, h.pg, h.gF, h.lt⟩
/-- Other accounts, made since. -/
theorem Dr.setA (h : Dr F w1 g va vp X Y s) (hb : Below w1.heap.size w1 w2) (ho : OwnA w2 w1.heap.size v zs) :
  Dr F (w2.setCell ⟨g, 0, none⟩ v) g v vp X Y ⟨zs, s.pys, s.now⟩ ∧ On F w1 (w2.setCell ⟨g, 0, none⟩ v) := by
 have h2 := h.below hb
 have hgl := h.blk.lt
 have hv : ∀ b, v.ownBlock = some b → w1.heap.size ≤ b := ho.rowLt
 refine ⟨⟨h2.blk.set 0 v, ?_, ?_, fun b e => ⟨?_, fun e' => ?_, fun hF => ?_⟩, h.pg, h.gF, fun k hk => ?_⟩, (h.on hb).setCell h.gF v⟩
 · exact (ho.less (Nat.zero_le _)).setOther (p := ⟨g, 0, none⟩) fun b e => by have := hv b e; dsimp only; omega
 · exact h2.op.setOther (p := ⟨g, 0, none⟩) fun b e => (h.pg b e).1
 · have := hv b e; omega
 · have := hv b e; have := h.plt b e'; omega
 · have := hv b e; have := h.lt b hF; omega
 · have := h2.lt k hk
   simpa [World.setCell] using this
/-- One account more. -/
theorem Dr.growA (h : Dr F w1 g va vp X Y s) (hg : w1.grownBy w2 va.ownBlock) (ho : OwnA w2 0 v zs) (hat : ∀ b, v.ownBlock = some b → va.ownBlock = some b ∨ b = w1.heap.size) :
  Dr F (w2.setCell ⟨g, 0, none⟩ v) g v vp X Y ⟨zs, s.pys, s.now⟩ ∧ On F w1 (w2.setCell ⟨g, 0, none⟩ v) := by
 have hgl := h.blk.lt
 have hva := h.ag
 have hv : ∀ b, v.ownBlock = some b → b ≠ g ∧ vp.ownBlock ≠ some b ∧ ¬ F b := fun b e => by
  rcases hat b e with e' | e'
  · exact h.ag b e'
  · exact ⟨by omega, fun k => by have := h.plt b k; omega, fun k => by have := h.lt b k; omega⟩
 refine ⟨⟨(h.blk.grown hg (fun e => (h.ag g e.symm).1 rfl)).set 0 v, ?_, ?_, hv, h.pg, h.gF, fun k hk => ?_⟩, ((On.refl F w1).grown hg h.lt (fun k e => (h.ag k e).2.2)).setCell h.gF v⟩
 · exact ho.setOther (p := ⟨g, 0, none⟩) fun b e => (hv b e).1
 · exact (h.op.same fun b e => hg.block b (h.plt b e) (fun e' => (h.ag b e'.symm).2.1 e)).setOther (p := ⟨g, 0, none⟩) fun b e => (h.pg b e).1
 · have h1 := h.lt k hk
   have h2 := hg.size
   have : k < w2.heap.size := by omega
   simpa [World.setCell] using this
/-- One payment more. -/
theorem Dr.growP (h : Dr F w1 g va vp X Y s) (hg : w1.grownBy w2 vp.ownBlock) (ho : OwnS pays w2 0 v ps) (hat : ∀ b, v.ownBlock = some b → vp.ownBlock = some b ∨ b = w1.heap.size) :
  Dr F (w2.setCell ⟨g, 1, none⟩ v) g va v X Y ⟨s.acs, ps, s.now⟩ ∧ On F w1 (w2.setCell ⟨g, 1, none⟩ v) := by
 have hgl := h.blk.lt
 have hv : ∀ b, v.ownBlock = some b → b ≠ g ∧ ¬ F b := fun b e => by
  rcases hat b e with e' | e'
  · exact h.pg b e'
  · exact ⟨by omega, fun k => by have := h.lt b k; omega⟩
 refine ⟨⟨(h.blk.grown hg (fun e => (h.pg g e.symm).1 rfl)).set 1 v, ?_, ?_, fun b e => ⟨(h.ag b e).1, fun k => ?_, (h.ag b e).2.2⟩, hv, h.gF, fun k hk => ?_⟩, ((On.refl F w1).grown hg h.lt (fun k e => (h.pg k e).2)).setCell h.gF v⟩
 · exact (h.oa.same fun b e => hg.block b (h.alt b e) (fun e' => (h.ag b e).2.1 e'.symm)).setOther (p := ⟨g, 1, none⟩) fun b e => (h.ag b e).1
 · exact ho.setOther (p := ⟨g, 1, none⟩) fun b e => (hv b e).1
 · rcases hat b k with k' | k'
   · exact (h.ag b e).2.1 k'
   · have := h.alt b e; omega
 · have h1 := h.lt k hk
   have h2 := hg.size
   have : k < w2.heap.size := by omega
   simpa [World.setCell] using this
/-- One payment is another one: the record at j, in the call's own memory. -/
theorem Dr.setP (h : Dr F w1 g va (.slice (some ⟨b, 0, none⟩) n c) X Y s) {ws : World} (ho : OwnS pays ws 0 (.slice (some ⟨b, 0, none⟩) n c) ps) (hb : On (fun k => k ≠ b) w1 ws) :
  Dr F ws g va (.slice (some ⟨b, 0, none⟩) n c) X Y ⟨s.acs, ps, s.now⟩ ∧ On F w1 ws := by
 have hp := h.pg b rfl
 refine ⟨⟨(hb.block g (fun e => hp.1 e.symm)).trans h.blk, h.oa.same (fun k e => hb.block k (fun e' => (h.ag k e).2.1 (by rw [e']; rfl))), ho, h.ag, h.pg, h.gF, fun k hk => Nat.lt_of_lt_of_le (h.lt k hk) hb.size⟩,
   ⟨hb.os, hb.tape, hb.output, hb.size, fun k hk => hb.block k (fun e => hp.2 (e ▸ hk))⟩⟩
end
/-- A state that is changed, and an error by its number. -/
def DrE (F : Nat → Prop) (w : World) (g : Nat) (X Y : Value) (s : St) (E : Int) (e : Ending) (w' : World) : Prop :=
 ∃ va vp, e = .returned (errV E) ∧ Dr F w' g va vp X Y s ∧ On F w w'
/-- A state that is changed, a number, and an error by its number. -/
def DrI (F : Nat → Prop) (w : World) (g : Nat) (X Y : Value) (s : St) (I E : Int) (e : Ending) (w' : World) : Prop :=
 ∃ va vp, e = .returned (.tuple #[.int .i64 I, errV E]) ∧ Dr F w' g va vp X Y s ∧ On F w w'
theorem drE_no {F : Nat → Prop} {w w' : World} {g : Nat} {va vp X Y : Value} {s : St} {E : Int} (h0 : ¬ E = 0) (h : Dr F w' g va vp X Y s) (ho : On F w w') : DrE F w g X Y s E (.returned (eno E)) w' := ⟨va, vp, by rw [errV, if_neg h0], h, ho⟩
theorem drI_no {F : Nat → Prop} {w w' : World} {g : Nat} {va vp X Y : Value} {s : St} {E : Int} (h0 : ¬ E = 0) (h : Dr F w' g va vp X Y s) (ho : On F w w') : DrI F w g X Y s 0 E (.returned (.tuple #[.int .i64 0, eno E])) w' := ⟨va, vp, by rw [errV, if_neg h0], h, ho⟩
theorem right_curs {zs : List Ac} (h : rightB zs = true) : Curs zs := fun j a ha => (right_at h ha).1
theorem On.same {F : Nat → Prop} {x y z : World} (h : On F x y) (hb : Below y.heap.size y z) (hF : ∀ k, F k → k < y.heap.size) : On F x z := h.trans (On.of hb hF)
abbrev rqC (k o a b m l u : Int) : Array Value := #[.int .i64 k, .int .i64 o, .int .i64 a, .int .i64 b, .int .i64 m, .int .i64 l, .int .i64 u]
abbrev st0 : Array Value := #[.slice none 0 0, .slice none 0 0, .slice none 0 0, .slice none 0 0, .int .i64 0]
abbrev rp0 : Array Value := #[.int .i64 0, .int .i64 0]
/-- The world in which they are made. -/
abbrev w5 (w : World) (vs rs : Array Value) : World :=
 ((((w.alloc (.cells vs 35)).alloc (.cells rs 42)).alloc (.cells st0 35)).alloc (.cells rp0 46)).alloc (.cells vs 35)
section
variable {w W W' : World} {vs rs ts : Array Value}
end
/-- The two results, stored: a state and a reply. -/
theorem st_put {w : World} {g : Nat} {t : TypeId} {vs : Array Value} (h : Blk w g t vs) (hs : vs.size = 5) (a b x y z : Value) : Blk (((((w.setCell ⟨g, 0, none⟩ a).setCell ⟨g, 1, none⟩ b).setCell ⟨g, 2, none⟩ x).setCell ⟨g, 3, none⟩ y).setCell ⟨g, 4, none⟩ z) g t #[a, b, x, y, z] := by
 obtain ⟨vs⟩ := vs
 match vs, hs with
 | [v0, v1, v2, v3, v4], _ =>
   unfold Blk at h ⊢
   simp [World.setCell, Array.getElem?_modify, h]
theorem rp_put {w : World} {g : Nat} {t : TypeId} {vs : Array Value} (h : Blk w g t vs) (hs : vs.size = 2) (a b : Value) : Blk ((w.setCell ⟨g, 0, none⟩ a).setCell ⟨g, 1, none⟩ b) g t #[a, b] := by
 obtain ⟨vs⟩ := vs
 match vs, hs with
 | [v0, v1], _ =>
   unfold Blk at h ⊢
   simp [World.setCell, Array.getElem?_modify, h]
theorem st_other {w : World} {g k : Nat} {t : TypeId} {vs : Array Value} (h : Blk w k t vs) (hk : g ≠ k) (a b x y z : Value) : Blk (((((w.setCell ⟨g, 0, none⟩ a).setCell ⟨g, 1, none⟩ b).setCell ⟨g, 2, none⟩ x).setCell ⟨g, 3, none⟩ y).setCell ⟨g, 4, none⟩ z) k t vs :=
 ((((h.setOther hk 0 a).setOther hk 1 b).setOther hk 2 x).setOther hk 3 y).setOther hk 4 z
theorem rp_other {w : World} {g k : Nat} {t : TypeId} {vs : Array Value} (h : Blk w k t vs) (hk : g ≠ k) (a b : Value) : Blk ((w.setCell ⟨g, 0, none⟩ a).setCell ⟨g, 1, none⟩ b) k t vs := (h.setOther hk 0 a).setOther hk 1 b
/-- The results stored behind the beginning: what is told reads as it should. -/
theorem told_at {W : World} {g2 g3 : Nat} {vs2 vs3 : Array Value} (h2 : Blk W g2 35 vs2) (h3 : Blk W g3 46 vs3) (hs2 : vs2.size = 5) (hs3 : vs3.size = 2) (hne : g2 ≠ g3) (a b x y z e i : Value) :
  Blk (((((((W.setCell ⟨g2, 0, none⟩ a).setCell ⟨g2, 1, none⟩ b).setCell ⟨g2, 2, none⟩ x).setCell ⟨g2, 3, none⟩ y).setCell ⟨g2, 4, none⟩ z).setCell ⟨g3, 0, none⟩ e).setCell ⟨g3, 1, none⟩ i) g2 35 #[a, b, x, y, z] ∧
  Blk (((((((W.setCell ⟨g2, 0, none⟩ a).setCell ⟨g2, 1, none⟩ b).setCell ⟨g2, 2, none⟩ x).setCell ⟨g2, 3, none⟩ y).setCell ⟨g2, 4, none⟩ z).setCell ⟨g3, 0, none⟩ e).setCell ⟨g3, 1, none⟩ i) g3 46 #[e, i] :=
 ⟨rp_other (st_put h2 hs2 a b x y z) (Ne.symm hne) e i, rp_put (st_other h3 hne a b x y z) hs3 e i⟩
theorem told_below {w W : World} {B g2 g3 : Nat} (h : Below B w W) (h2 : B ≤ g2) (h3 : B ≤ g3) (a b x y z e i : Value) :
  Below B w (((((((W.setCell ⟨g2, 0, none⟩ a).setCell ⟨g2, 1, none⟩ b).setCell ⟨g2, 2, none⟩ x).setCell ⟨g2, 3, none⟩ y).setCell ⟨g2, 4, none⟩ z).setCell ⟨g3, 0, none⟩ e).setCell ⟨g3, 1, none⟩ i) :=
 (((((((h.setCell (p := ⟨g2, 0, none⟩) h2 a).setCell (p := ⟨g2, 1, none⟩) h2 b).setCell (p := ⟨g2, 2, none⟩) h2 x).setCell (p := ⟨g2, 3, none⟩) h2 y).setCell (p := ⟨g2, 4, none⟩) h2 z).setCell (p := ⟨g3, 0, none⟩) h3 e).setCell (p := ⟨g3, 1, none⟩) h3 i)
theorem st_ownA {W : World} {base g : Nat} {v : Value} {zs : List Ac} (h : OwnA W base v zs) (hg : g < base) (a b x y z : Value) : OwnA (((((W.setCell ⟨g, 0, none⟩ a).setCell ⟨g, 1, none⟩ b).setCell ⟨g, 2, none⟩ x).setCell ⟨g, 3, none⟩ y).setCell ⟨g, 4, none⟩ z) base v zs := by
 have n2 : ∀ k, v.ownBlock = some k → k ≠ g := fun k e => by have := h.rowLt k e; omega
 exact ((((h.setOther (p := ⟨g, 0, none⟩) n2).setOther (p := ⟨g, 1, none⟩) n2).setOther (p := ⟨g, 2, none⟩) n2).setOther (p := ⟨g, 3, none⟩) n2).setOther (p := ⟨g, 4, none⟩) n2
theorem rp_ownA {W : World} {base g : Nat} {v : Value} {zs : List Ac} (h : OwnA W base v zs) (hg : g < base) (e i : Value) : OwnA ((W.setCell ⟨g, 0, none⟩ e).setCell ⟨g, 1, none⟩ i) base v zs := by
 have n2 : ∀ k, v.ownBlock = some k → k ≠ g := fun k e => by have := h.rowLt k e; omega
 exact (h.setOther (p := ⟨g, 0, none⟩) n2).setOther (p := ⟨g, 1, none⟩) n2
theorem st_ownS {W : World} {base g : Nat} {v : Value} {zs : List Py} (h : OwnS pays W base v zs) (hg : g < base) (a b x y z : Value) : OwnS pays (((((W.setCell ⟨g, 0, none⟩ a).setCell ⟨g, 1, none⟩ b).setCell ⟨g, 2, none⟩ x).setCell ⟨g, 3, none⟩ y).setCell ⟨g, 4, none⟩ z) base v zs := by
 have n2 : ∀ k, v.ownBlock = some k → k ≠ g := fun k e => by have := h.rowLt k e; omega
 exact ((((h.setOther (p := ⟨g, 0, none⟩) n2).setOther (p := ⟨g, 1, none⟩) n2).setOther (p := ⟨g, 2, none⟩) n2).setOther (p := ⟨g, 3, none⟩) n2).setOther (p := ⟨g, 4, none⟩) n2
theorem st_below {w W : World} {B g : Nat} (h : Below B w W) (hg : B ≤ g) (a b x y z : Value) : Below B w (((((W.setCell ⟨g, 0, none⟩ a).setCell ⟨g, 1, none⟩ b).setCell ⟨g, 2, none⟩ x).setCell ⟨g, 3, none⟩ y).setCell ⟨g, 4, none⟩ z) :=
 ((((h.setCell (p := ⟨g, 0, none⟩) hg a).setCell (p := ⟨g, 1, none⟩) hg b).setCell (p := ⟨g, 2, none⟩) hg x).setCell (p := ⟨g, 3, none⟩) hg y).setCell (p := ⟨g, 4, none⟩) hg z
theorem rp_below {w W : World} {B g : Nat} (h : Below B w W) (hg : B ≤ g) (e i : Value) : Below B w ((W.setCell ⟨g, 0, none⟩ e).setCell ⟨g, 1, none⟩ i) := (h.setCell (p := ⟨g, 0, none⟩) hg e).setCell (p := ⟨g, 1, none⟩) hg i
/-- A state of accounts and payments of one's own. -/
theorem st_own {W : World} {base : Nat} {X Y : Value} {A B : Option Addr} {n c q d : Nat} {zs : List Ac} {ps : List Py} {now : Int} (ha : OwnA W base (.slice A n c) zs) (hp : OwnS pays W base (.slice B q d) ps) (hn : zs.length = n) (hq : ps.length = q) : StAt W ⟨zs, ps, now⟩ X Y A c B d := by
 obtain ⟨A', c', e, r1, r2, r3, r4⟩ := ha.form
 obtain ⟨B', d', e', s1, s2, s3, s4⟩ := hp.form
 injection e with e1 _ e3
 injection e' with e2 _ e4
 rw [← e1] at r1 r4
 rw [← e2] at s1 s4
 rw [← e3] at r2 r3 r4
 rw [← e4] at s2 s3 s4
 exact ⟨r1, s1, ⟨r4, r2, r3⟩, ⟨s4, s2, s3⟩⟩
theorem py_other {w : World} {g k i0 i1 i2 i3 i4 i5 i6 i7 : Nat} {t : TypeId} {vs : Array Value} (h : Blk w k t vs) (hk : g ≠ k) (a0 a1 a2 a3 a4 a5 a6 a7 : Value) :
  Blk ((((((((w.setCell ⟨g, i0, none⟩ a0).setCell ⟨g, i1, none⟩ a1).setCell ⟨g, i2, none⟩ a2).setCell ⟨g, i3, none⟩ a3).setCell ⟨g, i4, none⟩ a4).setCell ⟨g, i5, none⟩ a5).setCell ⟨g, i6, none⟩ a6).setCell ⟨g, i7, none⟩ a7) k t vs :=
 (((((((h.setOther hk i0 a0).setOther hk i1 a1).setOther hk i2 a2).setOther hk i3 a3).setOther hk i4 a4).setOther hk i5 a5).setOther hk i6 a6).setOther hk i7 a7
theorem py_on {F : Nat → Prop} {w W : World} {g i0 i1 i2 i3 i4 i5 i6 i7 : Nat} (h : On F w W) (hg : ¬ F g) (a0 a1 a2 a3 a4 a5 a6 a7 : Value) :
  On F w ((((((((W.setCell ⟨g, i0, none⟩ a0).setCell ⟨g, i1, none⟩ a1).setCell ⟨g, i2, none⟩ a2).setCell ⟨g, i3, none⟩ a3).setCell ⟨g, i4, none⟩ a4).setCell ⟨g, i5, none⟩ a5).setCell ⟨g, i6, none⟩ a6).setCell ⟨g, i7, none⟩ a7) :=
 (((((((h.setCell (p := ⟨g, i0, none⟩) hg a0).setCell (p := ⟨g, i1, none⟩) hg a1).setCell (p := ⟨g, i2, none⟩) hg a2).setCell (p := ⟨g, i3, none⟩) hg a3).setCell (p := ⟨g, i4, none⟩) hg a4).setCell (p := ⟨g, i5, none⟩) hg a5).setCell (p := ⟨g, i6, none⟩) hg a6).setCell (p := ⟨g, i7, none⟩) hg a7
/-- One payment of a slice of the call's own is another one. -/
theorem pays_put {w : World} {base g n cap j : Nat} {ps : List Py} {p y : Py} (h : OwnS pays w base (.slice (some ⟨g, 0, none⟩) n cap) ps) (hn : n = ps.length) (hj : ps[j]? = some p) :
  OwnS pays ((((((((w.setCell ⟨g, j * 8, none⟩ (.int .i64 y.frm)).setCell ⟨g, j * 8 + 1, none⟩ (.int .i64 y.dst)).setCell ⟨g, j * 8 + 2, none⟩ (.int .i64 y.aut)).setCell ⟨g, j * 8 + 3, none⟩ (.int .i64 y.cap)).setCell ⟨g, j * 8 + 4, none⟩ (.int .i64 y.ref)).setCell ⟨g, j * 8 + 5, none⟩ (.int .i64 y.chg)).setCell ⟨g, j * 8 + 6, none⟩ (.int .i64 y.til)).setCell ⟨g, j * 8 + 7, none⟩ (.int .i64 y.stg))
   base (.slice (some ⟨g, 0, none⟩) n cap) (ps.set j y) := by
 obtain ⟨p0, p1, p2, p3, p4, p5, p6, p7⟩ := p
 obtain ⟨y0, y1, y2, y3, y4, y5, y6, y7⟩ := y
 dsimp only
 have hlt : j < ps.length := (List.getElem?_eq_some_iff.1 hj).1
 have hat : ∀ z : Py, (ps.set j z)[j]? = some z := fun z => by rw [List.getElem?_set_self hlt]
 have hln : ∀ z : Py, n = (ps.set j z).length := fun z => by rw [List.length_set]; exact hn
 have h0 := h.set hn hj 0 (.int .i64 y0) ⟨y0, p1, p2, p3, p4, p5, p6, p7⟩ (by decide) rfl
 have h1 := h0.set (hln _) (hat _) 1 (.int .i64 y1) ⟨y0, y1, p2, p3, p4, p5, p6, p7⟩ (by decide) rfl
 rw [List.set_set] at h1
 have h2 := h1.set (hln _) (hat _) 2 (.int .i64 y2) ⟨y0, y1, y2, p3, p4, p5, p6, p7⟩ (by decide) rfl
 rw [List.set_set] at h2
 have h3 := h2.set (hln _) (hat _) 3 (.int .i64 y3) ⟨y0, y1, y2, y3, p4, p5, p6, p7⟩ (by decide) rfl
 rw [List.set_set] at h3
 have h4 := h3.set (hln _) (hat _) 4 (.int .i64 y4) ⟨y0, y1, y2, y3, y4, p5, p6, p7⟩ (by decide) rfl
 rw [List.set_set] at h4
 have h5 := h4.set (hln _) (hat _) 5 (.int .i64 y5) ⟨y0, y1, y2, y3, y4, y5, p6, p7⟩ (by decide) rfl
 rw [List.set_set] at h5
 have h6 := h5.set (hln _) (hat _) 6 (.int .i64 y6) ⟨y0, y1, y2, y3, y4, y5, y6, p7⟩ (by decide) rfl
 rw [List.set_set] at h6
 have h7 := h6.set (hln _) (hat _) 7 (.int .i64 y7) ⟨y0, y1, y2, y3, y4, y5, y6, y7⟩ (by decide) rfl
 rw [List.set_set] at h7
 exact h7
/-- Its cells. -/
theorem pays_at {w : World} {base g n cap j : Nat} {ps : List Py} {p : Py} (h : OwnS pays w base (.slice (some ⟨g, 0, none⟩) n cap) ps) (hj : ps[j]? = some p) :
  w.cell? ⟨g, j * 8, none⟩ = some (.int .i64 p.frm) ∧ w.cell? ⟨g, j * 8 + 1, none⟩ = some (.int .i64 p.dst) ∧ w.cell? ⟨g, j * 8 + 2, none⟩ = some (.int .i64 p.aut) ∧ w.cell? ⟨g, j * 8 + 3, none⟩ = some (.int .i64 p.cap) ∧
  w.cell? ⟨g, j * 8 + 4, none⟩ = some (.int .i64 p.ref) ∧ w.cell? ⟨g, j * 8 + 5, none⟩ = some (.int .i64 p.chg) ∧ w.cell? ⟨g, j * 8 + 6, none⟩ = some (.int .i64 p.til) ∧ w.cell? ⟨g, j * 8 + 7, none⟩ = some (.int .i64 p.stg) :=
 ⟨h.at_ hj 0 _ rfl, h.at_ hj 1 _ rfl, h.at_ hj 2 _ rfl, h.at_ hj 3 _ rfl, h.at_ hj 4 _ rfl, h.at_ hj 5 _ rfl, h.at_ hj 6 _ rfl, h.at_ hj 7 _ rfl⟩
end Go.Proofs.YteifgmdaggiaaaaGreatDoor
