/-
  The law's move by its contract: the entries of a move, or the number of its error.
-/
import Derived.Test.YtpgjifbeckmieaaDoorEntMove
import Derived.Test.YtpgjifbeckmieaaDoorNumber
namespace Go.Proofs.YtpgjifbeckmieaaDoor
open Go Go.RowKit
set_option linter.unusedVariables false

/-- What the law's move hands back. -/
def MoveResN (zs : List Ac) (f t x : Int) (w : World) (e : Ending) (w' : World) : Prop :=
  ∃ v, e = .returned (.tuple #[v, .int .i64 (moveE zs f t x)]) ∧ OwnE w' w.heap.size v (moveL zs f t x) ∧ Below w.heap.size w w'
theorem moveResN_no {zs : List Ac} {f t x E : Int} {w w' : World} (hE : moveE zs f t x = E) (h0 : E ≠ 0) (hb : Below w.heap.size w w') : MoveResN zs f t x w (.returned (.tuple #[.slice none 0 0, .int .i64 E])) w' := by
  refine ⟨.slice none 0 0, ?_, ?_, hb⟩
  · rw [hE]
  · rw [moveL, hE, if_neg h0]; exact OwnE.nil
theorem moveResN_ok {zs : List Ac} {f t x : Int} {w w' : World} {v : Value} {l : List En} (hE : moveE zs f t x = 0) (hl : moveOk (curOf zs f) (curOf zs t) f t x = l) (ho : OwnE w' w.heap.size v l) (hb : Below w.heap.size w w') :
    MoveResN zs f t x w (.returned (.tuple #[v, .int .i64 0])) w' := by
  refine ⟨v, ?_, ?_, hb⟩
  · rw [hE]
  · rw [moveL, hE, if_pos rfl, hl]; exact ho

set_option maxRecDepth 100000 in
set_option maxHeartbeats 4000000 in
theorem lawmove_any (A : Option Addr) (n cap : Nat) (zs : List Ac) (f t x : Int) (w : World) (hl : zs.length = n) (hr : RdA w A zs) (hcu : Curs zs) (hn : n ≤ 9223372036854775807) (hh : HasErr w) :
    Calls Tryd.prog 7 #[.slice A n cap, .int .i64 f, .int .i64 t, .int .i64 x] w (MoveResN zs f t x w) := by
  have HR := Lib.hid hr
  have HCU := Lib.hid hcu
  have HL := Lib.hid hl
  have HH := Lib.hid hh
  clear hr hcu hl hh
  by_cases hf0 : 0 ≤ f
  rotate_left
  · have hE : moveE zs f t x = 2 := by unfold moveE; rw [if_pos (.inl (by omega))]
    have HE := Lib.hid hE
    clear hE
    go_enter Tryd.func7, Tryd.ntmps7
    go_wp2
    go_ret2
    exact moveResN_no HE.out (by omega) (Below.refl _ _)
  by_cases ht0 : 0 ≤ t
  rotate_left
  · have hE : moveE zs f t x = 2 := by unfold moveE; rw [if_pos (.inr (by omega))]
    have HE := Lib.hid hE
    clear hE
    go_enter Tryd.func7, Tryd.ntmps7
    go_wp2
    go_ret2
    exact moveResN_no HE.out (by omega) (Below.refl _ _)
  by_cases hf1 : f < (n : Int)
  rotate_left
  · have hE : moveE zs f t x = 2 := by unfold moveE; rw [if_pos (.inl (by rw [HL.out]; omega))]
    have HE := Lib.hid hE
    clear hE
    go_enter Tryd.func7, Tryd.ntmps7
    go_wp2
    go_ret2
    exact moveResN_no HE.out (by omega) (Below.refl _ _)
  by_cases ht1 : t < (n : Int)
  rotate_left
  · have hE : moveE zs f t x = 2 := by unfold moveE; rw [if_pos (.inr (by rw [HL.out]; omega))]
    have HE := Lib.hid hE
    clear hE
    go_enter Tryd.func7, Tryd.ntmps7
    go_wp2
    go_ret2
    exact moveResN_no HE.out (by omega) (Below.refl _ _)
  by_cases hft : f = t
  · have hE : moveE zs f t x = 1 := by unfold moveE; rw [if_neg (by rw [HL.out]; omega), if_pos (.inl hft)]
    have HE := Lib.hid hE
    subst hft
    clear hE
    go_enter Tryd.func7, Tryd.ntmps7
    go_wp2
    go_ret2
    exact moveResN_no HE.out (by omega) (Below.refl _ _)
  have f1 := eqF hft
  by_cases hx1 : 1 ≤ x
  rotate_left
  · have hE : moveE zs f t x = 1 := by unfold moveE; rw [if_neg (by rw [HL.out]; omega), if_pos (.inr (by omega))]
    have HE := Lib.hid hE
    clear hE
    go_enter Tryd.func7, Tryd.ntmps7
    go_wp2
    go_ret2
    exact moveResN_no HE.out (by omega) (Below.refl _ _)
  by_cases hx2 : x ≤ 1099511627776
  rotate_left
  · have hE : moveE zs f t x = 1 := by unfold moveE; rw [if_neg (by rw [HL.out]; omega), if_pos (.inr (by omega))]
    have HE := Lib.hid hE
    clear hE
    go_enter Tryd.func7, Tryd.ntmps7
    go_wp2
    go_ret2
    exact moveResN_no HE.out (by omega) (Below.refl _ _)
  obtain ⟨p, rfl⟩ : ∃ p : Nat, f = (p : Int) := ⟨f.toNat, by omega⟩
  obtain ⟨q, rfl⟩ : ∃ q : Nat, t = (q : Int) := ⟨t.toNat, by omega⟩
  obtain ⟨a, ha⟩ : ∃ a, zs[p]? = some a := ⟨_, List.getElem?_eq_getElem (by rw [HL.out]; omega)⟩
  obtain ⟨b, hb⟩ : ∃ b, zs[q]? = some b := ⟨_, List.getElem?_eq_getElem (by rw [HL.out]; omega)⟩
  obtain ⟨ad, rfl, hat⟩ := HR.out.at_ ha
  obtain ⟨ad2, hadd, hbt⟩ := HR.out.at_ hb
  injection hadd with hadd
  subst hadd
  have hac := HCU.out _ _ ha
  have hbc := HCU.out _ _ hb
  have c0 := hat.c0
  have d0 := hbt.c0
  have KA := curOf_at ha
  have KB := curOf_at hb
  obtain ⟨ac, ab, al⟩ := a
  obtain ⟨bc, bb, bl⟩ := b
  dsimp only at c0 d0 hac hbc KA KB
  have hE0 : moveE zs (p : Int) (q : Int) x = if ac = bc then 0 else convE ac bc x := by
    unfold moveE; rw [if_neg (by rw [HL.out]; omega), if_neg (by omega), KA, KB]
  have HE0 := Lib.hid hE0
  have HKA := Lib.hid KA
  have HKB := Lib.hid KB
  have HAC := Lib.hid hac
  have HBC := Lib.hid hbc
  obtain ⟨ha0, ha3⟩ := hac
  obtain ⟨hb0, hb3⟩ := hbc
  clear hE0 KA KB hat hbt ha hb hft hf0 ht0
  by_cases hab : ac = bc
  · subst hab
    have HE : Hid (moveE zs (p : Int) (q : Int) x = 0) := Lib.hid (by rw [HE0.out, if_pos rfl])
    clear HE0
    go_enter Tryd.func7, Tryd.ntmps7
    go_wp2
    go_quiet (fail)
    go_wp2
    go_ret2
    refine moveResN_ok (l := [⟨p, -x⟩, ⟨q, x⟩]) HE.out (by rw [HKA.out, HKB.out, moveOk, if_pos rfl]) (own_lit_ent _ [⟨p, -x⟩, ⟨q, x⟩] _ (by simp [maxLen]) (by simp)) ?_
    exact (below_drewN (Below.refl _ _) _).alloc (by simp) _
  · have f2 := eqF hab
    have hE1 : moveE zs (p : Int) (q : Int) x = convE ac bc x := by rw [HE0.out, if_neg hab]
    have HO : Hid (moveOk ac bc (p : Int) (q : Int) x = [⟨p, -x⟩, ⟨exch ac, x⟩, ⟨exch bc, -(conv ac bc x)⟩, ⟨q, conv ac bc x⟩]) := Lib.hid (by rw [moveOk, if_neg hab])
    have hix1 := row_ix (a := ac) HAC.out
    have hix2 := rate_ix (a := ac) (b := bc) HAC.out HBC.out
    obtain ⟨p1, p2, q1, q2⟩ := rate_ok HAC.out HBC.out
    have hcv : conv ac bc x = x * rateN ac bc / rateD ac bc := rfl
    have hce : convE ac bc x = if 1099511627776 < conv ac bc x then 4 else if conv ac bc x = 0 then 1 else 0 := rfl
    obtain ⟨pp, hp⟩ : ∃ p, rateN ac bc = p := ⟨_, rfl⟩
    obtain ⟨qq, hq⟩ : ∃ q, rateD ac bc = q := ⟨_, rfl⟩
    obtain ⟨c, hc⟩ : ∃ c, conv ac bc x = c := ⟨_, rfl⟩
    obtain ⟨E, hEE⟩ : ∃ E, convE ac bc x = E := ⟨_, rfl⟩
    obtain ⟨R, hR⟩ : ∃ R, rateRow ac = R := ⟨_, rfl⟩
    rw [hEE, hc] at hce
    rw [hc, hp, hq] at hcv
    rw [hp, hq, hR] at hix2
    rw [hR] at hix1
    rw [hp] at p1 p2
    rw [hq] at q1 q2
    rw [hEE] at hE1
    rw [hc] at HO
    obtain ⟨m1, m2⟩ := mul_bounds x pp hx1 hx2 p1 p2
    have hc0 : 0 ≤ c := by rw [hcv]; exact (div_facts (x * pp) qq m1 q1).2.2.2.2.2
    have HE := Lib.hid hE1
    clear hE1 HE0 hp hq hc hEE hR hab
    by_cases h1 : 1099511627776 < c
    · rw [if_pos h1] at hce
      subst hce
      have HC := Lib.hid (fun W => conv_over x pp qq W hx1 hx2 p1 p2 q1 q2 m1 m2 (by rw [← hcv]; exact h1))
      clear hcv m1 m2 h1 HO
      go_enter Tryd.func7, Tryd.ntmps7
      go_wp2
      go_quiet (fail)
      go_wp2_with (first
        | (go_at_call 16; refine (rates_ret _).mono ?_; rintro e w1 ⟨rfl, rfl⟩)
        | (go_at_call 15; refine (HC.out _).mono ?_; rintro e w2 ⟨rfl, hb2⟩
           have HB2 := Lib.hid ((((below_drewN (Below.refl w.heap.size w) _).alloc (by simp) _).trans (hb2.mono (by simp))))
           have HH2 := Lib.hid (HH.out.below HB2.out)
           clear hb2)
        | (go_at_call 9; refine (number_err _ _ HH2.out).mono ?_; rintro e w3 ⟨rfl, hb3'⟩))
      go_ret2
      exact moveResN_no HE.out (by omega) (HB2.out.trans (hb3'.mono HB2.out.size))
    · rw [if_neg h1] at hce
      have HC := Lib.hid (fun W => conv_ok x pp qq W hx1 hx2 p1 p2 q1 q2 m1 m2 (by rw [← hcv]; omega))
      rw [← hcv] at HC
      obtain ⟨d, hd⟩ : ∃ d, x * pp % qq = d := ⟨_, rfl⟩
      rw [hd] at HC
      have hc9 : c ≤ 1099511627776 := by omega
      clear hcv m1 m2 hd h1
      by_cases h0 : c = 0
      · rw [if_pos h0] at hce
        subst hce
        subst h0
        clear HO
        go_enter Tryd.func7, Tryd.ntmps7
        go_wp2
        go_quiet (fail)
        go_wp2_with (first
          | (go_at_call 16; refine (rates_ret _).mono ?_; rintro e w1 ⟨rfl, rfl⟩)
          | (go_at_call 15; refine (HC.out _).mono ?_; rintro e w2 ⟨rfl, hb2⟩))
        go_ret2
        exact moveResN_no HE.out (by omega) (((below_drewN (Below.refl w.heap.size w) _).alloc (by simp) _).trans (hb2.mono (by simp)))
      · rw [if_neg h0] at hce
        subst hce
        have hc1 : 1 ≤ c := by omega
        clear h0 hc0
        go_enter Tryd.func7, Tryd.ntmps7
        go_wp2
        go_quiet (fail)
        go_wp2_with (first
          | (go_at_call 16; refine (rates_ret _).mono ?_; rintro e w1 ⟨rfl, rfl⟩)
          | (go_at_call 15; refine (HC.out _).mono ?_; rintro e w2 ⟨rfl, hb2⟩))
        go_ret2
        have hb4 := ((below_drewN (Below.refl w.heap.size w) _).alloc (by simp) _).trans (hb2.mono (by simp))
        refine moveResN_ok (l := [⟨p, -x⟩, ⟨3 * ac + 1, x⟩, ⟨3 * bc + 1, -c⟩, ⟨q, c⟩]) HE.out (by rw [HKA.out, HKB.out]; exact HO.out) (own_lit_ent _ [⟨p, -x⟩, ⟨3 * ac + 1, x⟩, ⟨3 * bc + 1, -c⟩, ⟨q, c⟩] _ (by simp [maxLen]) hb4.size) ?_
        exact hb4.alloc hb4.size _
end Go.Proofs.YtpgjifbeckmieaaDoor
