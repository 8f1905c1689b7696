/-
  What the law's Entries makes of pairs: plain words, no program.
-/
import Derived.Test.YtbneohglblkmeaaDoorEntPlain
import Derived.Test.YtbneohglblkmeaaDoorPairArg
namespace Go.Proofs.YtbneohglblkmeaaDoor
open Go Go.RowKit
set_option linter.unusedVariables false

/-- The entry of a pair, where there are n accounts. -/
def prE (n : Nat) (p : Pr) : En := ⟨((p.acct % n : Nat) : Int), p.amt.tmod 50000⟩
def firsts (n : Nat) (ps : List Pr) (k : Nat) : List En := (ps.take k).map (prE n)
theorem firsts_next {n k : Nat} {ps : List Pr} {p : Pr} (h : ps[k]? = some p) : firsts n ps (k + 1) = firsts n ps k ++ [prE n p] := by
  obtain ⟨hk, rfl⟩ := List.getElem?_eq_some_iff.1 h
  unfold firsts
  rw [List.take_succ_eq_append_getElem hk, List.map_append]
  rfl
theorem firsts_len (n : Nat) (ps : List Pr) (k : Nat) : (firsts n ps k).length ≤ k := by simp [firsts]; omega
theorem prE_amt (n : Nat) (p : Pr) : -49999 ≤ (prE n p).amt ∧ (prE n p).amt ≤ 49999 := by
  have h1 := Int.tmod_lt_of_pos p.amt (show (0 : Int) < 50000 by omega)
  have h2 := Int.lt_tmod_of_pos p.amt (show (0 : Int) < 50000 by omega)
  simp only [prE]
  omega
/-- What they come to in each currency. -/
def sums3 (zs : List Ac) (es : List En) : S3 := ⟨esum zs 0 es, esum zs 1 es, esum zs 2 es⟩
theorem sums3_get (zs : List Ac) (es : List En) (c : Int) (hc : 0 ≤ c ∧ c < 3) : (sums3 zs es).get c = esum zs c es := by
  have h1 : c = 0 ∨ c = 1 ∨ c = 2 := by omega
  rcases h1 with rfl | rfl | rfl <;> rfl
theorem sums3_next (zs : List Ac) (es : List En) (e : En) (hc : 0 ≤ curOf zs e.acct ∧ curOf zs e.acct < 3) : sums3 zs (es ++ [e]) = (sums3 zs es).put (curOf zs e.acct) ((sums3 zs es).get (curOf zs e.acct) + e.amt) := by
  have h1 : curOf zs e.acct = 0 ∨ curOf zs e.acct = 1 ∨ curOf zs e.acct = 2 := by omega
  rcases h1 with h | h | h <;> simp [sums3, esum_append, esum, h, S3.get, S3.put]
/-- The entry that makes a currency come to nothing. -/
def evenE (c x : Int) : List En := if x = 0 then [] else [⟨3 * c, -x⟩]
def evenTo (s : S3) : Nat → List En
  | 0 => []
  | k + 1 => evenTo s k ++ evenE (k : Int) (s.get (k : Int))
def entriesL (zs : List Ac) (ps : List Pr) : List En := firsts zs.length ps 6 ++ evenTo (sums3 zs (firsts zs.length ps 6)) 3

theorem esum_firsts (zs : List Ac) (c : Int) (n : Nat) : ∀ ps : List Pr, -(ps.length * 50000 : Int) ≤ esum zs c (ps.map (prE n)) ∧ esum zs c (ps.map (prE n)) ≤ ps.length * 50000
  | [] => by simp [esum]
  | p :: r => by
    have h1 := esum_firsts zs c n r
    have h2 := prE_amt n p
    simp only [List.map_cons, esum, List.length_cons]
    push_cast
    split <;> omega
theorem esum_six (zs : List Ac) (c : Int) (n : Nat) (ps : List Pr) (k : Nat) (hk : k ≤ 6) : -300000 ≤ esum zs c (firsts n ps k) ∧ esum zs c (firsts n ps k) ≤ 300000 := by
  have h := esum_firsts zs c n (ps.take k)
  have h2 : ((ps.take k).length : Int) ≤ 6 := by rw [List.length_take]; omega
  unfold firsts
  omega
theorem curOf_world {zs : List Ac} (hz : ∀ j, j < 9 → ∃ b : Int, zs[j]? = some ⟨(j : Int) / 3, b, 0⟩) (c : Int) (hc : 0 ≤ c ∧ c < 3) : curOf zs (3 * c) = c := by
  obtain ⟨b, hb⟩ := hz (3 * c).toNat (by omega)
  have := curOf_at hb
  rw [show (((3 * c).toNat : Nat) : Int) = 3 * c by omega] at this
  rw [this]
  dsimp only
  omega
theorem evenE_sum {zs : List Ac} (hz : ∀ j, j < 9 → ∃ b : Int, zs[j]? = some ⟨(j : Int) / 3, b, 0⟩) (c d x : Int) (hc : 0 ≤ c ∧ c < 3) : esum zs d (evenE c x) = if c = d then -x else 0 := by
  unfold evenE
  by_cases h : x = 0
  · subst h; simp [esum]
  · rw [if_neg h]
    simp only [esum, curOf_world hz c hc]
    split <;> omega
theorem entriesL_sum {zs : List Ac} (hz : ∀ j, j < 9 → ∃ b : Int, zs[j]? = some ⟨(j : Int) / 3, b, 0⟩) (ps : List Pr) (c : Int) (hc : 0 ≤ c ∧ c < 3) : esum zs c (entriesL zs ps) = 0 := by
  unfold entriesL
  simp only [evenTo, esum_append]
  rw [evenE_sum hz _ _ _ (by omega), evenE_sum hz _ _ _ (by omega), evenE_sum hz _ _ _ (by omega)]
  rw [sums3_get _ _ _ (by omega), sums3_get _ _ _ (by omega), sums3_get _ _ _ (by omega)]
  have h1 : c = 0 ∨ c = 1 ∨ c = 2 := by omega
  rcases h1 with rfl | rfl | rfl <;> (simp [esum]; omega)
theorem entriesL_tame {zs : List Ac} (hz : ∀ j, j < 9 → ∃ b : Int, zs[j]? = some ⟨(j : Int) / 3, b, 0⟩) (hcu : ∀ (j : Nat) (a : Ac), zs[j]? = some a → 0 ≤ a.cur ∧ a.cur < 3) (hl : 9 ≤ zs.length) (ps : List Pr) : Tame zs 300000 (entriesL zs ps) := by
  have hev : ∀ c x : Int, 0 ≤ c ∧ c < 3 → -300000 ≤ x ∧ x ≤ 300000 → Tame zs 300000 (evenE c x) := by
    intro c x hc hx e he
    unfold evenE at he
    split at he
    · simp at he
    · simp at he
      subst he
      dsimp only
      rw [curOf_world hz c hc]
      exact ⟨hc, by omega, by omega⟩
  intro e he
  unfold entriesL at he
  rcases List.mem_append.1 he with he | he
  · obtain ⟨p, hp, rfl⟩ := List.mem_map.1 he
    have h1 := prE_amt zs.length p
    have hlt : p.acct % zs.length < zs.length := Nat.mod_lt _ (by omega)
    refine ⟨?_, by omega, by omega⟩
    have := curOf_at (zs := zs) (q := p.acct % zs.length) (List.getElem?_eq_getElem hlt)
    simp only [prE]
    rw [this]
    exact hcu _ _ (List.getElem?_eq_getElem hlt)
  · simp only [evenTo, List.mem_append, List.not_mem_nil, false_or] at he
    have b0 := esum_six zs 0 zs.length ps 6 (Nat.le_refl _)
    have b1 := esum_six zs 1 zs.length ps 6 (Nat.le_refl _)
    have b2 := esum_six zs 2 zs.length ps 6 (Nat.le_refl _)
    rcases he with (he | he) | he
    · exact hev _ _ (by omega) (by rw [sums3_get _ _ _ (by omega)]; simpa using b0) e he
    · exact hev _ _ (by omega) (by rw [sums3_get _ _ _ (by omega)]; simpa using b1) e he
    · exact hev _ _ (by omega) (by rw [sums3_get _ _ _ (by omega)]; simpa using b2) e he
theorem evenE_len (c x : Int) : (evenE c x).length ≤ 1 := by unfold evenE; split <;> simp
theorem evenTo_len (s : S3) : ∀ k, (evenTo s k).length ≤ k
  | 0 => by simp [evenTo]
  | k + 1 => by
    have h1 := evenTo_len s k
    have h2 := evenE_len (k : Int) (s.get (k : Int))
    simp only [evenTo, List.length_append]
    omega
theorem entriesL_len (zs : List Ac) (ps : List Pr) : (entriesL zs ps).length ≤ 9 := by
  have h1 := firsts_len zs.length ps 6
  have h2 := evenTo_len (sums3 zs (firsts zs.length ps 6)) 3
  simp only [entriesL, List.length_append]
  omega
theorem entriesL_bal {zs : List Ac} (hz : ∀ j, j < 9 → ∃ b : Int, zs[j]? = some ⟨(j : Int) / 3, b, 0⟩) (hcu : ∀ (j : Nat) (a : Ac), zs[j]? = some a → 0 ≤ a.cur ∧ a.cur < 3) (hl : 9 ≤ zs.length) (ps : List Pr) : balB zs (entriesL zs ps) = true := by
  rw [balB_tame zs 300000 (by omega) (by omega) _ (entriesL_tame hz hcu hl ps) (by have := entriesL_len zs ps; omega)]
  rw [entriesL_sum hz ps 0 (by omega), entriesL_sum hz ps 1 (by omega), entriesL_sum hz ps 2 (by omega)]
  simp
end Go.Proofs.YtbneohglblkmeaaDoor
