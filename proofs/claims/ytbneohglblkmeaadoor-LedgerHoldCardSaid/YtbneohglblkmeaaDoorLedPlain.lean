/-
  What entries and holds make of accounts: plain words, no program.
-/
import Derived.Test.YtbneohglblkmeaaDoorEntPlain
namespace Go.Proofs.YtbneohglblkmeaaDoor
open Go Go.RowKit
set_option linter.unusedVariables false

/-- May an amount be added to a balance? -/
def addOk (b x : Int) : Prop := -1125899906842624 ≤ b ∧ b ≤ 1125899906842624 ∧ -1125899906842624 ≤ x ∧ x ≤ 1125899906842624 ∧ -1125899906842624 ≤ b + x ∧ b + x ≤ 1125899906842624
instance (b x : Int) : Decidable (addOk b x) := inferInstanceAs (Decidable (_ ∧ _))
/-- The accounts with an entry in; none, if it does not go. -/
def putE (zs : List Ac) (e : En) : Option (List Ac) :=
  if 0 ≤ e.acct then
    match zs[e.acct.toNat]? with
    | some a => if addOk a.bal e.amt then some (zs.set e.acct.toNat ⟨a.cur, a.bal + e.amt, a.held⟩) else none
    | none => none
  else none
/-- The accounts with entries in, one by one. -/
def postGo : List Ac → List En → Option (List Ac)
  | zs, [] => some zs
  | zs, e :: r => match putE zs e with | some ys => postGo ys r | none => none
/-- Has a client less than is held? -/
def shortA (a : Ac) : Bool := decide (wrap64 (a.bal - a.held) < 0)
theorem shortA_yes {a : Ac} : shortA a = true ↔ wrap64 (a.bal - a.held) < 0 := decide_eq_true_iff
theorem shortA_no {a : Ac} : shortA a = false ↔ ¬ wrap64 (a.bal - a.held) < 0 := decide_eq_false_iff_not
def shortGo (zs : List Ac) : Bool := zs.any shortA
def shortB (zs : List Ac) : Bool := shortGo (zs.drop 9)
/-- The error that Post tells of entries that are balanced; 0, if none. -/
def postE1 : Option (List Ac) → Int
  | none => 4
  | some ys => if shortB ys then 3 else 0
def postL1 : Option (List Ac) → List Ac
  | none => []
  | some ys => if shortB ys then [] else ys
def postE (zs : List Ac) (es : List En) : Int := if balB zs es then postE1 (postGo zs es) else 13
def postL (zs : List Ac) (es : List En) : List Ac := if balB zs es then postL1 (postGo zs es) else []

theorem putE_yes {zs : List Ac} {q : Nat} {a : Ac} {x : Int} (h : zs[q]? = some a) (ho : addOk a.bal x) : putE zs ⟨(q : Int), x⟩ = some (zs.set q ⟨a.cur, a.bal + x, a.held⟩) := by
  unfold putE
  rw [if_pos (by dsimp only; omega)]
  simp only [Int.toNat_natCast, h, if_pos ho]
theorem putE_no {zs : List Ac} {q : Nat} {a : Ac} {x : Int} (h : zs[q]? = some a) (ho : ¬ addOk a.bal x) : putE zs ⟨(q : Int), x⟩ = none := by
  unfold putE
  rw [if_pos (by dsimp only; omega)]
  simp only [Int.toNat_natCast, h, if_neg ho]
theorem postGo_yes {zs ys : List Ac} {es : List En} {k : Nat} {e : En} (h : es[k]? = some e) (hg : putE zs e = some ys) : postGo zs (es.drop k) = postGo ys (es.drop (k + 1)) := by
  obtain ⟨hk, rfl⟩ := List.getElem?_eq_some_iff.1 h
  rw [List.drop_eq_getElem_cons hk, postGo, hg]
theorem postGo_no {zs : List Ac} {es : List En} {k : Nat} {e : En} (h : es[k]? = some e) (hg : putE zs e = none) : postGo zs (es.drop k) = none := by
  obtain ⟨hk, rfl⟩ := List.getElem?_eq_some_iff.1 h
  rw [List.drop_eq_getElem_cons hk, postGo, hg]
theorem postGo_end {zs : List Ac} {es : List En} {k : Nat} (h : es.length ≤ k) : postGo zs (es.drop k) = some zs := by
  rw [List.drop_eq_nil_of_le h, postGo]
theorem shortGo_at {zs : List Ac} {k : Nat} {a : Ac} (h : zs[k]? = some a) : shortGo (zs.drop k) = (shortA a || shortGo (zs.drop (k + 1))) := by
  obtain ⟨hk, rfl⟩ := List.getElem?_eq_some_iff.1 h
  rw [List.drop_eq_getElem_cons hk]
  rfl
theorem shortGo_end {zs : List Ac} {k : Nat} (h : zs.length ≤ k) : shortGo (zs.drop k) = false := by
  rw [List.drop_eq_nil_of_le h]
  rfl

/-- Entries that are balanced are of accounts there are. -/
theorem balGo_in : ∀ {zs : List Ac} {es : List En} {s : S3}, balGo zs s es = true → ∀ e ∈ es, (0 ≤ curOf zs e.acct ∧ curOf zs e.acct < 3) ∧ isMay e.amt
  | zs, [], s, _, e, he => by simp at he
  | zs, e :: r, s, h, x, hx => by
    rw [balGo] at h
    split at h
    · rename_i hg
      rcases List.mem_cons.1 hx with rfl | hx
      · exact ⟨hg.1, hg.2.1⟩
      · exact balGo_in h x hx
    · cases h
theorem curOf_ok {zs : List Ac} {k : Int} (h : 0 ≤ curOf zs k) : 0 ≤ k ∧ k < (zs.length : Int) := by
  refine Decidable.byContradiction fun hn => ?_
  rw [curOf_out hn] at h
  omega
theorem bal_in {zs : List Ac} {es : List En} (h : balB zs es = true) : ∀ e ∈ es, (0 ≤ e.acct ∧ e.acct < (zs.length : Int)) ∧ isMay e.amt := fun e he => by
  obtain ⟨h1, h2⟩ := balGo_in h e he
  exact ⟨curOf_ok h1.1, h2⟩

/-! What stays. -/

theorem putE_ok {zs ys : List Ac} {e : En} (h : putE zs e = some ys) : ∃ a, zs[e.acct.toNat]? = some a ∧ addOk a.bal e.amt ∧ ys = zs.set e.acct.toNat ⟨a.cur, a.bal + e.amt, a.held⟩ ∧ 0 ≤ e.acct := by
  unfold putE at h
  split at h
  · rename_i hk
    split at h
    · rename_i a ha
      split at h
      · rename_i ho
        injection h with h
        exact ⟨a, ha, ho, h.symm, hk⟩
      · cases h
    · cases h
  · cases h
theorem postGo_cons {zs ys : List Ac} {e : En} {r : List En} (h : postGo zs (e :: r) = some ys) : ∃ z1, putE zs e = some z1 ∧ postGo z1 r = some ys := by
  rw [postGo] at h
  split at h
  · rename_i z1 h1
    exact ⟨z1, h1, h⟩
  · cases h
/-- The same accounts, but for their balances; these may be. -/
structure Stay (zs ys : List Ac) : Prop where
  len : ys.length = zs.length
  at_ : ∀ (j : Nat) (a : Ac), zs[j]? = some a → ∃ b : Int, ys[j]? = some ⟨a.cur, b, a.held⟩ ∧ (b = a.bal ∨ isMay b)
theorem Stay.refl (zs : List Ac) : Stay zs zs := ⟨rfl, fun j a h => ⟨a.bal, h, .inl rfl⟩⟩
theorem Stay.trans {x y z : List Ac} (h : Stay x y) (k : Stay y z) : Stay x z := ⟨k.len.trans h.len, fun j a ha => by
  obtain ⟨b, h1, h2⟩ := h.at_ j a ha
  obtain ⟨c, h3, h4⟩ := k.at_ j _ h1
  refine ⟨c, h3, ?_⟩
  rcases h4 with h4 | h4
  · dsimp only at h4
    rw [h4]
    exact h2
  · exact .inr h4⟩
theorem putE_stay {zs ys : List Ac} {e : En} (h : putE zs e = some ys) : Stay zs ys := by
  obtain ⟨a, ha, ho, rfl, _⟩ := putE_ok h
  have hl := (List.getElem?_eq_some_iff.1 ha).1
  refine ⟨by simp, fun j b hb => ?_⟩
  by_cases hj : e.acct.toNat = j
  · subst hj
    rw [ha] at hb
    injection hb with hb
    subst hb
    exact ⟨_, by rw [List.getElem?_set_self hl], .inr ⟨ho.2.2.2.2.1, ho.2.2.2.2.2⟩⟩
  · exact ⟨b.bal, by rw [List.getElem?_set_ne hj]; exact hb, .inl rfl⟩
theorem postGo_stay : ∀ {es : List En} {zs ys : List Ac}, postGo zs es = some ys → Stay zs ys
  | [], zs, ys, h => by
    injection h with h
    subst h
    exact Stay.refl _
  | e :: r, zs, ys, h => by
    obtain ⟨z1, h1, h2⟩ := postGo_cons h
    exact (putE_stay h1).trans (postGo_stay h2)
theorem Stay.cur {zs ys : List Ac} (h : Stay zs ys) (k : Int) : curOf ys k = curOf zs k := by
  unfold curOf
  split
  · rename_i hk
    by_cases hl : k.toNat < zs.length
    · obtain ⟨b, h1, _⟩ := h.at_ _ _ (List.getElem?_eq_getElem hl)
      rw [h1, List.getElem?_eq_getElem hl]
    · rw [List.getElem?_eq_none (by have := h.len; omega), List.getElem?_eq_none (by omega)]
  · rfl
theorem Stay.back {zs ys : List Ac} (h : Stay zs ys) {j : Nat} {b : Ac} (hb : ys[j]? = some b) : ∃ a, zs[j]? = some a ∧ b.cur = a.cur ∧ b.held = a.held ∧ (b.bal = a.bal ∨ isMay b.bal) := by
  have hl := (List.getElem?_eq_some_iff.1 hb).1
  have hl2 : j < zs.length := by have := h.len; omega
  obtain ⟨x, h1, h2⟩ := h.at_ j _ (List.getElem?_eq_getElem hl2)
  rw [hb] at h1
  injection h1 with h1
  subst h1
  exact ⟨_, List.getElem?_eq_getElem hl2, rfl, rfl, h2⟩
theorem Stay.gone {zs ys : List Ac} (h : Stay zs ys) (s : S3) (e : En) : gone ys s e = gone zs s e := by
  unfold Go.Proofs.YtbneohglblkmeaaDoor.gone
  rw [h.cur]
theorem Stay.goes {zs ys : List Ac} (h : Stay zs ys) (s : S3) (e : En) : goes ys s e ↔ goes zs s e := by
  unfold Go.Proofs.YtbneohglblkmeaaDoor.goes
  rw [h.cur]
theorem Stay.balGo {zs ys : List Ac} (h : Stay zs ys) : ∀ (es : List En) (s : S3), balGo ys s es = balGo zs s es
  | [], s => rfl
  | e :: r, s => by
    rw [Go.Proofs.YtbneohglblkmeaaDoor.balGo, Go.Proofs.YtbneohglblkmeaaDoor.balGo]
    by_cases hg : Go.Proofs.YtbneohglblkmeaaDoor.goes zs s e
    · rw [if_pos hg, if_pos ((h.goes s e).2 hg), h.gone, h.balGo r]
    · rw [if_neg hg, if_neg (fun k => hg ((h.goes s e).1 k))]
theorem Stay.balB {zs ys : List Ac} (h : Stay zs ys) (es : List En) : balB ys es = balB zs es := h.balGo es _

/-- What is balanced comes to nothing. -/
theorem balGo_sum (zs : List Ac) (c : Int) (hc : 0 ≤ c ∧ c < 3) : ∀ (es : List En) (s : S3), balGo zs s es = true → s.get c + esum zs c es = 0
  | [], s, h => by
    rw [balGo] at h
    have := of_decide_eq_true h
    have h3 : c = 0 ∨ c = 1 ∨ c = 2 := by omega
    rcases h3 with rfl | rfl | rfl <;> simp [S3.get, esum] <;> omega
  | e :: r, s, h => by
    rw [balGo] at h
    split at h
    · rename_i hg
      have := balGo_sum zs c hc r _ h
      unfold gone at this
      rw [S3.get_put _ _ _ _ hg.1 hc] at this
      simp only [esum]
      by_cases hq : c = curOf zs e.acct
      · subst hq
        rw [if_pos rfl] at this
        rw [if_pos rfl]
        omega
      · rw [if_neg hq] at this
        rw [if_neg (Ne.symm hq)]
        omega
    · cases h
theorem bal_sum {zs : List Ac} {es : List En} (h : balB zs es = true) (c : Int) (hc : 0 ≤ c ∧ c < 3) : esum zs c es = 0 := by
  have := balGo_sum zs c hc es ⟨0, 0, 0⟩ h
  have h0 : (⟨0, 0, 0⟩ : S3).get c = 0 := by simp [S3.get]
  omega
theorem Stay.esum {zs ys : List Ac} (h : Stay zs ys) (c : Int) : ∀ es : List En, esum ys c es = esum zs c es
  | [] => rfl
  | e :: r => by
    simp only [Go.Proofs.YtbneohglblkmeaaDoor.esum, h.cur, h.esum c r]
/-- What accounts have together behind entries. -/
theorem postGo_sum (c : Int) (hc : 0 ≤ c) : ∀ {es : List En} {zs ys : List Ac}, postGo zs es = some ys → psum c ys = psum c zs + esum zs c es
  | [], zs, ys, h => by
    injection h with h
    subst h
    simp [esum]
  | e :: r, zs, ys, h => by
    obtain ⟨z1, h1, h2⟩ := postGo_cons h
    have hst := putE_stay h1
    rw [postGo_sum c hc h2, hst.esum]
    obtain ⟨a, ha, ho, rfl, hk⟩ := putE_ok h1
    rw [psum_set c _ ha]
    have hcur : curOf zs e.acct = a.cur := by
      unfold curOf
      rw [if_pos hk, ha]
    simp only [Go.Proofs.YtbneohglblkmeaaDoor.esum, hcur]
    split <;> omega

/-! The other way round. -/

theorem postGo_append : ∀ {x y : List En} {zs ys : List Ac}, postGo zs x = some ys → postGo zs (x ++ y) = postGo ys y
  | [], y, zs, ys, h => by
    injection h with h
    subst h
    rfl
  | e :: r, y, zs, ys, h => by
    obtain ⟨z1, h1, h2⟩ := postGo_cons h
    rw [List.cons_append, postGo, h1]
    exact postGo_append h2
theorem putE_back {zs ys : List Ac} {e : En} (h : putE zs e = some ys) : putE ys (negE e) = some zs := by
  obtain ⟨a, ha, ho, rfl, hk⟩ := putE_ok h
  have hl := (List.getElem?_eq_some_iff.1 ha).1
  unfold addOk at ho
  have hw : wrap64 (-e.amt) = -e.amt := by simp only [wrap64]; omega
  unfold putE negE
  rw [if_pos hk, hw]
  simp only [List.getElem?_set_self hl]
  rw [if_pos (by unfold addOk; omega)]
  rw [show a.bal + e.amt + -e.amt = a.bal by omega, List.set_set]
  congr 1
  apply List.ext_getElem?
  intro j
  by_cases hj : e.acct.toNat = j
  · subst hj
    rw [List.getElem?_set_self hl, ha]
  · rw [List.getElem?_set_ne hj]
theorem postGo_back : ∀ {es : List En} {zs ys : List Ac}, postGo zs es = some ys → postGo ys (backE es) = some zs
  | [], zs, ys, h => by
    injection h with h
    subst h
    rfl
  | e :: r, zs, ys, h => by
    obtain ⟨z1, h1, h2⟩ := postGo_cons h
    have h3 := postGo_back h2
    have e1 : backE (e :: r) = backE r ++ [negE e] := by simp [backE]
    rw [e1, postGo_append h3, postGo, putE_back h1]
    rfl
theorem postE_ok {zs : List Ac} {es : List En} (h : postE zs es = 0) : ∃ ys, balB zs es = true ∧ postGo zs es = some ys ∧ shortB ys = false ∧ postL zs es = ys := by
  unfold postE at h
  unfold postL
  split at h
  · rename_i hb
    rw [if_pos hb]
    cases hg : postGo zs es with
    | none => rw [hg] at h; simp [postE1] at h
    | some ys =>
      rw [hg] at h
      cases hs : shortB ys with
      | true => simp [postE1, hs] at h
      | false => exact ⟨ys, hb, rfl, hs, by simp [postL1, hs]⟩
  · omega
theorem postE_of {zs ys : List Ac} {es : List En} (hb : balB zs es = true) (hg : postGo zs es = some ys) (hs : shortB ys = false) : postE zs es = 0 ∧ postL zs es = ys := by
  unfold postE postL
  rw [if_pos hb, if_pos hb, hg]
  simp [postE1, postL1, hs]

/-! Right accounts. -/

theorem right_len {zs : List Ac} (h : rightB zs = true) : 9 ≤ zs.length ∧ zs.length ≤ 64 := by
  simp only [rightB, Bool.and_eq_true, decide_eq_true_eq] at h
  exact h.1
theorem right_at {zs : List Ac} (h : rightB zs = true) {j : Nat} {a : Ac} (ha : zs[j]? = some a) : (0 ≤ a.cur ∧ a.cur < 3) ∧ isMay a.bal ∧ (j < 9 → a.held = 0 ∧ a.cur = (j : Int) / 3) ∧ (9 ≤ j → 0 ≤ a.held ∧ a.held ≤ a.bal) := by
  simp only [rightB, Bool.and_eq_true] at h
  have h1 := (allOk_iff zs 0).1 h.2 j a ha
  rw [Nat.zero_add] at h1
  simp only [okAt, Bool.and_eq_true, decide_eq_true_eq] at h1
  obtain ⟨⟨h2, h3⟩, h4⟩ := h1
  refine ⟨h2, h3, fun hj => ?_, fun hj => ?_⟩
  · rw [if_pos hj] at h4; exact of_decide_eq_true h4
  · rw [if_neg (by omega)] at h4; exact of_decide_eq_true h4
theorem right_of {zs : List Ac} (hl : 9 ≤ zs.length ∧ zs.length ≤ 64) (h : ∀ (j : Nat) (a : Ac), zs[j]? = some a → (0 ≤ a.cur ∧ a.cur < 3) ∧ isMay a.bal ∧ (j < 9 → a.held = 0 ∧ a.cur = (j : Int) / 3) ∧ (9 ≤ j → 0 ≤ a.held ∧ a.held ≤ a.bal)) : rightB zs = true := by
  simp only [rightB, Bool.and_eq_true]
  refine ⟨decide_eq_true hl, (allOk_iff zs 0).2 fun j a ha => ?_⟩
  obtain ⟨h1, h2, h3, h4⟩ := h j a ha
  rw [Nat.zero_add]
  simp only [okAt, Bool.and_eq_true, decide_eq_true_eq]
  refine ⟨⟨h1, h2⟩, ?_⟩
  split
  · rename_i hj; exact decide_eq_true (h3 hj)
  · rename_i hj; exact decide_eq_true (h4 (by omega))
theorem shortB_no {zs : List Ac} (h : shortB zs = false) {j : Nat} {a : Ac} (hj : 9 ≤ j) (ha : zs[j]? = some a) : shortA a = false := by
  unfold shortB shortGo at h
  rw [List.any_eq_false] at h
  have : a ∈ zs.drop 9 := List.mem_of_getElem? (i := j - 9) (by rw [List.getElem?_drop, show 9 + (j - 9) = j by omega]; exact ha)
  simpa using h a this
theorem right_short {zs : List Ac} (h : rightB zs = true) : shortB zs = false := by
  unfold shortB shortGo
  rw [List.any_eq_false]
  intro a ha
  obtain ⟨i, hi⟩ := List.mem_iff_getElem?.1 ha
  rw [List.getElem?_drop] at hi
  obtain ⟨_, h2, _, h4⟩ := right_at h hi
  have h5 := h4 (by omega)
  unfold isMay at h2
  rw [shortA_yes]
  simp only [wrap64]
  omega
/-- Right accounts are right behind entries. -/
theorem post_right {zs : List Ac} {es : List En} (hr : rightB zs = true) (h : postE zs es = 0) : rightB (postL zs es) = true := by
  obtain ⟨ys, hb, hg, hs, hl⟩ := postE_ok h
  rw [hl]
  have hst := postGo_stay hg
  have hlen := right_len hr
  refine right_of (by rw [hst.len]; exact hlen) fun j b hbj => ?_
  obtain ⟨a, ha, e1, e2, e3⟩ := hst.back hbj
  obtain ⟨h1, h2, h3, h4⟩ := right_at hr ha
  have hm : isMay b.bal := by
    rcases e3 with e3 | e3
    · rw [e3]; exact h2
    · exact e3
  refine ⟨by rw [e1]; exact h1, hm, fun hj => by rw [e1, e2]; exact h3 hj, fun hj => ?_⟩
  have h5 := h4 hj
  have h6 := shortB_no hs hj hbj
  rw [shortA_no] at h6
  simp only [wrap64] at h6
  unfold isMay at hm h2
  rw [e2] at *
  omega
theorem post_sums {zs : List Ac} {es : List En} (h : postE zs es = 0) (c : Int) (hc : 0 ≤ c ∧ c < 3) : psum c (postL zs es) = psum c zs := by
  obtain ⟨ys, hb, hg, hs, hl⟩ := postE_ok h
  rw [hl, postGo_sum c hc.1 hg, bal_sum hb c hc]
  omega
theorem post_len {zs : List Ac} {es : List En} (h : postE zs es = 0) : (postL zs es).length = zs.length := by
  obtain ⟨ys, hb, hg, hs, hl⟩ := postE_ok h
  rw [hl, (postGo_stay hg).len]
/-- Entries and their other way round leave right accounts as they were. -/
theorem post_back {zs : List Ac} {es : List En} (hr : rightB zs = true) (h : postE zs es = 0) (hbb : balB zs (backE es) = true) : postE (postL zs es) (backE es) = 0 ∧ postL (postL zs es) (backE es) = zs := by
  obtain ⟨ys, hb, hg, hs, hl⟩ := postE_ok h
  rw [hl]
  exact postE_of (by rw [(postGo_stay hg).balB]; exact hbb) (postGo_back hg) (right_short hr)

/-! Holds. -/

/-- The error that Hold and Release tell first; 0, if none. -/
def mayE (n : Nat) (k x : Int) : Int := if 9 ≤ k ∧ k < (n : Int) then (if 1 ≤ x ∧ x ≤ 1099511627776 then 0 else 1) else 2
/-- The account at a place. -/
def acOf (zs : List Ac) (k : Int) : Ac := zs.getD k.toNat ⟨0, 0, 0⟩
def holdE (zs : List Ac) (k x : Int) : Int := if mayE zs.length k x = 0 then (if wrap64 ((acOf zs k).bal - (acOf zs k).held) < x then 3 else 0) else mayE zs.length k x
def relE (zs : List Ac) (k x : Int) : Int := if mayE zs.length k x = 0 then (if (acOf zs k).held < x then 6 else 0) else mayE zs.length k x
def heldAs (zs : List Ac) (k h : Int) : List Ac := zs.set k.toNat ⟨(acOf zs k).cur, (acOf zs k).bal, h⟩
def holdL (zs : List Ac) (k x : Int) : List Ac := if holdE zs k x = 0 then heldAs zs k (wrap64 ((acOf zs k).held + x)) else []
def relL (zs : List Ac) (k x : Int) : List Ac := if relE zs k x = 0 then heldAs zs k (wrap64 ((acOf zs k).held - x)) else []

theorem acOf_at {zs : List Ac} {q : Nat} {a : Ac} (h : zs[q]? = some a) : acOf zs (q : Int) = a := by
  simp [acOf, List.getD, h]
theorem holdE_ok {zs : List Ac} {k x : Int} (h : holdE zs k x = 0) : (9 ≤ k ∧ k < (zs.length : Int)) ∧ (1 ≤ x ∧ x ≤ 1099511627776) ∧ x ≤ wrap64 ((acOf zs k).bal - (acOf zs k).held) := by
  unfold holdE at h
  split at h
  · rename_i hm
    unfold mayE at hm
    split at hm
    · rename_i h1
      split at hm
      · rename_i h2
        split at h
        · omega
        · exact ⟨h1, h2, by omega⟩
      · omega
    · omega
  · omega
theorem relE_ok {zs : List Ac} {k x : Int} (h : relE zs k x = 0) : (9 ≤ k ∧ k < (zs.length : Int)) ∧ (1 ≤ x ∧ x ≤ 1099511627776) ∧ x ≤ (acOf zs k).held := by
  unfold relE at h
  split at h
  · rename_i hm
    unfold mayE at hm
    split at hm
    · rename_i h1
      split at hm
      · rename_i h2
        split at h
        · omega
        · exact ⟨h1, h2, by omega⟩
      · omega
    · omega
  · omega
theorem heldAs_len (zs : List Ac) (k h : Int) : (heldAs zs k h).length = zs.length := by simp [heldAs]
theorem hold_len {zs : List Ac} {k x : Int} (h : holdE zs k x = 0) : (holdL zs k x).length = zs.length := by
  unfold holdL
  rw [if_pos h, heldAs_len]
theorem hold_right {zs : List Ac} {k x : Int} (hr : rightB zs = true) (h : holdE zs k x = 0) : rightB (holdL zs k x) = true := by
  obtain ⟨h1, h2, h3⟩ := holdE_ok h
  obtain ⟨q, rfl⟩ : ∃ q : Nat, k = (q : Int) := ⟨k.toNat, by omega⟩
  obtain ⟨a, ha⟩ : ∃ a, zs[q]? = some a := ⟨_, List.getElem?_eq_getElem (by omega)⟩
  rw [acOf_at ha] at h3
  have hlen := right_len hr
  obtain ⟨r1, r2, r3, r4⟩ := right_at hr ha
  have r5 := r4 (by omega)
  unfold isMay at r2
  unfold holdL heldAs
  rw [if_pos h, acOf_at ha, Int.toNat_natCast]
  refine right_of (by rw [List.length_set]; exact hlen) fun j b hb => ?_
  by_cases hj : q = j
  · subst hj
    rw [List.getElem?_set_self (by omega)] at hb
    injection hb with hb
    subst hb
    refine ⟨r1, r2, fun hj => by omega, fun _ => ?_⟩
    dsimp only
    simp only [wrap64] at *
    omega
  · rw [List.getElem?_set_ne hj] at hb
    exact right_at hr hb
theorem hold_sums {zs : List Ac} {k x : Int} (h : holdE zs k x = 0) (c : Int) : psum c (holdL zs k x) = psum c zs := by
  obtain ⟨h1, h2, h3⟩ := holdE_ok h
  obtain ⟨q, rfl⟩ : ∃ q : Nat, k = (q : Int) := ⟨k.toNat, by omega⟩
  obtain ⟨a, ha⟩ : ∃ a, zs[q]? = some a := ⟨_, List.getElem?_eq_getElem (by omega)⟩
  unfold holdL heldAs
  rw [if_pos h, acOf_at ha, Int.toNat_natCast, psum_set c _ ha]
  dsimp only
  omega
/-- A hold and its release leave right accounts as they were. -/
theorem hold_back {zs : List Ac} {k x : Int} (hr : rightB zs = true) (h : holdE zs k x = 0) : relE (holdL zs k x) k x = 0 ∧ relL (holdL zs k x) k x = zs := by
  obtain ⟨h1, h2, h3⟩ := holdE_ok h
  have hlen := hold_len h
  obtain ⟨q, rfl⟩ : ∃ q : Nat, k = (q : Int) := ⟨k.toNat, by omega⟩
  obtain ⟨a, ha⟩ : ∃ a, zs[q]? = some a := ⟨_, List.getElem?_eq_getElem (by omega)⟩
  have hq : q < zs.length := by omega
  rw [acOf_at ha] at h3
  obtain ⟨r1, r2, r3, r4⟩ := right_at hr ha
  have r5 := r4 (by omega)
  unfold isMay at r2
  have e0 : holdL zs (q : Int) x = zs.set q ⟨a.cur, a.bal, a.held + x⟩ := by
    unfold holdL heldAs
    rw [if_pos h, acOf_at ha, Int.toNat_natCast]
    congr 2
    simp only [wrap64] at *
    omega
  have ey : (zs.set q ⟨a.cur, a.bal, a.held + x⟩)[q]? = some ⟨a.cur, a.bal, a.held + x⟩ := List.getElem?_set_self hq
  have e1 : relE (zs.set q ⟨a.cur, a.bal, a.held + x⟩) (q : Int) x = 0 := by
    have hm : mayE (zs.set q ⟨a.cur, a.bal, a.held + x⟩).length (q : Int) x = 0 := by
      unfold mayE
      rw [List.length_set, if_pos h1, if_pos h2]
    unfold relE
    rw [if_pos hm, acOf_at ey]
    dsimp only
    rw [if_neg (by omega)]
  rw [e0]
  refine ⟨e1, ?_⟩
  unfold relL heldAs
  rw [if_pos e1, acOf_at ey, Int.toNat_natCast]
  dsimp only
  rw [List.set_set]
  apply List.ext_getElem?
  intro j
  by_cases hj : q = j
  · subst hj
    rw [List.getElem?_set_self hq, ha, show wrap64 (a.held + x - x) = a.held by simp only [wrap64] at *; omega]
  · rw [List.getElem?_set_ne hj]

/-! Spends. -/

def spendE (zs : List Ac) (x : Int) (es : List En) : Int :=
  match es with
  | [] => 13
  | e :: _ => if relE zs e.acct x = 0 then postE (relL zs e.acct x) es else relE zs e.acct x
def spendL (zs : List Ac) (x : Int) (es : List En) : List Ac :=
  match es with
  | [] => []
  | e :: _ => if relE zs e.acct x = 0 then postL (relL zs e.acct x) es else []
end Go.Proofs.YtbneohglblkmeaaDoor
