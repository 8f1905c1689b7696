/-
  Which entries are balanced, and the entries by which an amount moves: plain words, no program.
-/
import Derived.Test.YtbneohglblkmeaaDoorAccPlain
import Derived.Test.YtbneohglblkmeaaDoorEnt
namespace Go.Proofs.YtbneohglblkmeaaDoor
open Go Go.RowKit
set_option linter.unusedVariables false

/-- The currency of the account at a place; -1, if there is none. -/
def curOf (zs : List Ac) (k : Int) : Int := if 0 ≤ k then (match zs[k.toNat]? with | some a => a.cur | none => -1) else -1
theorem curOf_at {zs : List Ac} {q : Nat} {a : Ac} (h : zs[q]? = some a) : curOf zs (q : Int) = a.cur := by
  unfold curOf
  rw [if_pos (by omega), Int.toNat_natCast, h]
theorem curOf_out {zs : List Ac} {k : Int} (h : ¬ (0 ≤ k ∧ k < (zs.length : Int))) : curOf zs k = -1 := by
  unfold curOf
  split
  · rw [List.getElem?_eq_none (by omega)]
  · rfl

/-- Three sums. -/
structure S3 where
  a : Int
  b : Int
  c : Int
def S3.get (s : S3) (x : Int) : Int := if x = 0 then s.a else if x = 1 then s.b else if x = 2 then s.c else 0
def S3.put (s : S3) (x v : Int) : S3 := if x = 0 then ⟨v, s.b, s.c⟩ else if x = 1 then ⟨s.a, v, s.c⟩ else ⟨s.a, s.b, v⟩
def isMay (n : Int) : Prop := -1125899906842624 ≤ n ∧ n ≤ 1125899906842624
instance (n : Int) : Decidable (isMay n) := inferInstanceAs (Decidable (_ ∧ _))

/-- May an entry go in? -/
def goes (zs : List Ac) (s : S3) (e : En) : Prop := (0 ≤ curOf zs e.acct ∧ curOf zs e.acct < 3) ∧ isMay e.amt ∧ isMay (s.get (curOf zs e.acct) + e.amt)
instance (zs : List Ac) (s : S3) (e : En) : Decidable (goes zs s e) := inferInstanceAs (Decidable (_ ∧ _))
/-- The sums with an entry more. -/
def gone (zs : List Ac) (s : S3) (e : En) : S3 := s.put (curOf zs e.acct) (s.get (curOf zs e.acct) + e.amt)
/-- Are entries balanced, with sums from before? -/
def balGo (zs : List Ac) : S3 → List En → Bool
  | s, [] => decide (s.a = 0 ∧ s.b = 0 ∧ s.c = 0)
  | s, e :: r => if goes zs s e then balGo zs (gone zs s e) r else false
def balB (zs : List Ac) (es : List En) : Bool := balGo zs ⟨0, 0, 0⟩ es

theorem balGo_yes {zs : List Ac} {s : S3} {es : List En} {k : Nat} {e : En} (h : es[k]? = some e) (hg : goes zs s e) : balGo zs s (es.drop k) = balGo zs (gone zs s e) (es.drop (k + 1)) := by
  obtain ⟨hk, rfl⟩ := List.getElem?_eq_some_iff.1 h
  rw [List.drop_eq_getElem_cons hk, balGo, if_pos hg]
theorem balGo_no {zs : List Ac} {s : S3} {es : List En} {k : Nat} {e : En} (h : es[k]? = some e) (hg : ¬ goes zs s e) : balGo zs s (es.drop k) = false := by
  obtain ⟨hk, rfl⟩ := List.getElem?_eq_some_iff.1 h
  rw [List.drop_eq_getElem_cons hk, balGo, if_neg hg]
theorem balGo_end {zs : List Ac} {s : S3} {es : List En} {k : Nat} (h : es.length ≤ k) : balGo zs s (es.drop k) = decide (s.a = 0 ∧ s.b = 0 ∧ s.c = 0) := by
  rw [List.drop_eq_nil_of_le h, balGo]

/-- What entries come to in a currency. -/
def esum (zs : List Ac) (c : Int) : List En → Int
  | [] => 0
  | e :: r => (if curOf zs e.acct = c then e.amt else 0) + esum zs c r
theorem esum_append (zs : List Ac) (c : Int) : ∀ x y : List En, esum zs c (x ++ y) = esum zs c x + esum zs c y
  | [], y => by simp [esum]
  | a :: r, y => by simp only [List.cons_append, esum, esum_append zs c r y]; omega
theorem esum_set (zs : List Ac) (c : Int) : ∀ {x : List En} {j : Nat} {a : En} (b : En), x[j]? = some a → esum zs c (x.set j b) = esum zs c x - (if curOf zs a.acct = c then a.amt else 0) + (if curOf zs b.acct = c then b.amt else 0)
  | [], j, a, b, h => by simp at h
  | x :: r, 0, a, b, h => by simp at h; subst h; simp only [List.set_cons_zero, esum]; omega
  | x :: r, j + 1, a, b, h => by
    have := esum_set zs c b (show r[j]? = some a by simpa using h)
    simp only [List.set_cons_succ, esum, this]; omega

/-- Entries of accounts there are, of amounts that are small. -/
def Tame (zs : List Ac) (B : Int) (es : List En) : Prop := ∀ e ∈ es, (0 ≤ curOf zs e.acct ∧ curOf zs e.acct < 3) ∧ -B ≤ e.amt ∧ e.amt ≤ B

theorem S3.get_put (s : S3) (x v y : Int) (hx : 0 ≤ x ∧ x < 3) (hy : 0 ≤ y ∧ y < 3) : (s.put x v).get y = if y = x then v else s.get y := by
  have h1 : x = 0 ∨ x = 1 ∨ x = 2 := by omega
  have h2 : y = 0 ∨ y = 1 ∨ y = 2 := by omega
  rcases h1 with rfl | rfl | rfl <;> rcases h2 with rfl | rfl | rfl <;> simp [S3.get, S3.put]

theorem S3.get_put_all (s : S3) (x v y : Int) (hx : 0 ≤ x ∧ x < 3) : (s.put x v).get y = if y = x then v else s.get y := by
  by_cases hy : 0 ≤ y ∧ y < 3
  · exact S3.get_put s x v y hx hy
  · have h1 : ¬ y = 0 := by omega
    have h2 : ¬ y = 1 := by omega
    have h3 : ¬ y = 2 := by omega
    have h4 : ¬ y = x := by omega
    simp only [S3.get, h1, h2, h3, h4, if_false]

/-- Tame entries, not too many: balanced just if they come to nothing. -/
theorem balGo_tame (zs : List Ac) (B : Int) (hB0 : 0 ≤ B) (hB : B ≤ 100000000) : ∀ (es : List En) (s : S3) (M : Int), Tame zs B es → 0 ≤ M → M + es.length * B ≤ 1125899906842624 →
    (∀ c, 0 ≤ c → c < 3 → -M ≤ s.get c ∧ s.get c ≤ M) → balGo zs s es = decide (s.get 0 + esum zs 0 es = 0 ∧ s.get 1 + esum zs 1 es = 0 ∧ s.get 2 + esum zs 2 es = 0)
  | [], s, M, _, _, _, _ => by simp [balGo, esum, S3.get]
  | e :: r, s, M, ht, hM0, hM, hs => by
    obtain ⟨hc, h1, h2⟩ := ht e (by simp)
    obtain ⟨h3, h4⟩ := hs _ hc.1 hc.2
    have hlen : ((e :: r).length : Int) * B = r.length * B + B := by
      rw [List.length_cons]; push_cast; rw [Int.add_mul, Int.one_mul]
    have hr0 : 0 ≤ (r.length : Int) * B := Int.mul_nonneg (by omega) hB0
    have hg : goes zs s e := ⟨hc, ⟨by omega, by omega⟩, ⟨by omega, by omega⟩⟩
    rw [balGo, if_pos hg]
    have key : ∀ c, 0 ≤ c → c < 3 → (gone zs s e).get c = s.get c + (if curOf zs e.acct = c then e.amt else 0) := by
      intro c c0 c1
      unfold gone
      rw [S3.get_put _ _ _ _ hc ⟨c0, c1⟩]
      by_cases h : c = curOf zs e.acct
      · rw [if_pos h, if_pos h.symm, h]
      · rw [if_neg h, if_neg (Ne.symm h)]; omega
    rw [balGo_tame zs B hB0 hB r (gone zs s e) (M + B) (fun x hx => ht x (by simp [hx])) (by omega) (by omega) (fun c c0 c1 => by
      obtain ⟨q1, q2⟩ := hs c c0 c1
      rw [key c c0 c1]
      split <;> omega)]
    rw [key 0 (by omega) (by omega), key 1 (by omega) (by omega), key 2 (by omega) (by omega)]
    simp only [esum]
    congr 1
    apply propext
    constructor <;> (intro h; omega)

theorem balB_tame (zs : List Ac) (B : Int) (hB0 : 0 ≤ B) (hB : B ≤ 100000000) (es : List En) (ht : Tame zs B es) (hl : es.length ≤ 1000) :
    balB zs es = decide (esum zs 0 es = 0 ∧ esum zs 1 es = 0 ∧ esum zs 2 es = 0) := by
  unfold balB
  rw [balGo_tame zs B hB0 hB es ⟨0, 0, 0⟩ 0 ht (by omega) (by
    have := Int.mul_le_mul (show (es.length : Int) ≤ 1000 by omega) hB hB0 (by omega)
    omega) (fun c _ _ => by
      have : (⟨0, 0, 0⟩ : S3).get c = 0 := by simp [S3.get]
      omega)]
  simp [S3.get]

/-- Entries the other way round. -/
def negE (e : En) : En := ⟨e.acct, wrap64 (-e.amt)⟩
def backE (es : List En) : List En := (es.map negE).reverse
theorem backE_len (es : List En) : (backE es).length = es.length := by simp [backE]
theorem backE_snoc (xs : List En) (e : En) : backE (xs ++ [e]) = negE e :: backE xs := by simp [backE]
theorem backE_at {es : List En} {j k : Nat} {e : En} (h : es[j]? = some e) (hk : k + j + 1 = es.length) : (backE es)[k]? = some (negE e) := by
  unfold backE
  rw [List.getElem?_reverse (by simp; omega), List.length_map, List.getElem?_map, show es.length - 1 - k = j by omega, h]
  rfl
theorem esum_map_neg (zs : List Ac) (c : Int) {B : Int} (hB : B ≤ 1125899906842624) : ∀ es : List En, Tame zs B es → esum zs c (es.map negE) = - esum zs c es
  | [], _ => by simp [esum]
  | e :: r, h => by
    obtain ⟨_, h1, h2⟩ := h e (by simp)
    have hw : wrap64 (-e.amt) = -e.amt := by simp only [wrap64]; omega
    simp only [List.map_cons, esum, esum_map_neg zs c hB r (fun x hx => h x (by simp [hx])), negE, hw]
    split <;> omega
theorem esum_reverse (zs : List Ac) (c : Int) : ∀ es : List En, esum zs c es.reverse = esum zs c es
  | [] => rfl
  | e :: r => by
    rw [List.reverse_cons, esum_append, esum_reverse zs c r]
    simp only [esum]; omega
theorem esum_back (zs : List Ac) (c : Int) {B : Int} (hB : B ≤ 1125899906842624) (es : List En) (h : Tame zs B es) : esum zs c (backE es) = - esum zs c es := by
  unfold backE
  rw [esum_reverse, esum_map_neg zs c hB es h]
theorem tame_back {zs : List Ac} {B : Int} (hB : B ≤ 1125899906842624) {es : List En} (h : Tame zs B es) : Tame zs B (backE es) := by
  intro e he
  simp only [backE, List.mem_reverse, List.mem_map] at he
  obtain ⟨x, hx, rfl⟩ := he
  obtain ⟨h1, h2, h3⟩ := h x hx
  have hw : wrap64 (-x.amt) = -x.amt := by simp only [wrap64]; omega
  exact ⟨h1, by simp only [negE, hw]; omega, by simp only [negE, hw]; omega⟩
theorem negE_negE {e : En} (h : -9223372036854775808 ≤ e.amt ∧ e.amt ≤ 9223372036854775807) : negE (negE e) = e := by
  obtain ⟨p, x⟩ := e
  simp only [negE, En.mk.injEq, true_and]
  simp only [wrap64] at *
  omega
theorem backE_backE {es : List En} (h : ∀ e ∈ es, -9223372036854775808 ≤ e.amt ∧ e.amt ≤ 9223372036854775807) : backE (backE es) = es := by
  simp only [backE, List.map_reverse, List.reverse_reverse, List.map_map]
  conv => rhs; rw [← List.map_id es]
  exact List.map_congr_left fun e he => negE_negE (h e he)

/-! The entries by which an amount moves. -/

/-- The rate between two currencies. -/
def rateN (a b : Int) : Int := if a = 0 then (if b = 0 then 1 else if b = 1 then 9 else 150) else if a = 1 then (if b = 0 then 11 else if b = 1 then 1 else 160) else 1
def rateD (a b : Int) : Int := if a = 0 then (if b = 0 then 1 else if b = 1 then 10 else 1) else if a = 1 then (if b = 0 then 10 else 1) else (if b = 0 then 151 else if b = 1 then 161 else 1)
/-- An amount of one currency in another one. -/
def conv (a b n : Int) : Int := n * rateN a b / rateD a b
theorem rate_ok {a b : Int} (ha : 0 ≤ a ∧ a < 3) (hb : 0 ≤ b ∧ b < 3) : 1 ≤ rateN a b ∧ rateN a b ≤ 1024 ∧ 1 ≤ rateD a b ∧ rateD a b ≤ 1024 := by
  have h1 : a = 0 ∨ a = 1 ∨ a = 2 := by omega
  have h2 : b = 0 ∨ b = 1 ∨ b = 2 := by omega
  rcases h1 with rfl | rfl | rfl <;> rcases h2 with rfl | rfl | rfl <;> (simp only [rateN, rateD]; simp)

/-- The error that a conversion tells; 0, if none. -/
def convE (a b n : Int) : Int := if 1099511627776 < conv a b n then 4 else if conv a b n = 0 then 1 else 0
/-- The error that a move tells; 0, if none. -/
def moveE (zs : List Ac) (f t n : Int) : Int :=
  if ¬ (0 ≤ f ∧ f < (zs.length : Int)) ∨ ¬ (0 ≤ t ∧ t < (zs.length : Int)) then 2
  else if f = t ∨ ¬ (1 ≤ n ∧ n ≤ 1099511627776) then 1
  else if curOf zs f = curOf zs t then 0
  else convE (curOf zs f) (curOf zs t) n
/-- The house's Exchange of a currency. -/
def exch (a : Int) : Int := 3 * a + 1
/-- The entries of a move that goes. -/
def moveOk (a b f t n : Int) : List En :=
  if a = b then [⟨f, -n⟩, ⟨t, n⟩] else [⟨f, -n⟩, ⟨exch a, n⟩, ⟨exch b, -(conv a b n)⟩, ⟨t, conv a b n⟩]
def moveL (zs : List Ac) (f t n : Int) : List En := if moveE zs f t n = 0 then moveOk (curOf zs f) (curOf zs t) f t n else []
end Go.Proofs.YtbneohglblkmeaaDoor
