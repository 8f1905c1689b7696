/-
  entry.Move by its contract: the entries of a move, or its error.
-/
import Derived.Test.YtbneohglblkmeaaDoorEntSmall
import Derived.RegionTactic
import Derived.BigRegion
namespace Go.Proofs.YtbneohglblkmeaaDoor
open Go Go.RowKit
set_option linter.unusedVariables false

/-- All accounts have one of the three currencies. -/
def Curs (zs : List Ac) : Prop := ∀ (j : Nat) (a : Ac), zs[j]? = some a → 0 ≤ a.cur ∧ a.cur < 3
theorem Curs.of_book {k : Nat} {zs : List Ac} (h : BookOk k zs) : Curs zs := fun j a ha => by
  by_cases hj : j < 9
  · obtain ⟨b, h1, _⟩ := h.house j hj
    rw [ha] at h1
    injection h1 with h1
    subst h1
    dsimp only
    omega
  · obtain ⟨h1, h2, _⟩ := h.client j a (by omega) ha
    exact ⟨h1, h2⟩

/-- What Move hands back. -/
def MoveRes (zs : List Ac) (f t x : Int) (w : World) (e : Ending) (w' : World) : Prop :=
  ∃ v, e = .returned (.tuple #[v, errV (moveE zs f t x)]) ∧ OwnE w' w.heap.size v (moveL zs f t x) ∧ Below w.heap.size w w'
theorem moveRes_no {zs : List Ac} {f t x E : Int} {w w' : World} (hE : moveE zs f t x = E) (h0 : E ≠ 0) (hb : Below w.heap.size w w') : MoveRes zs f t x w (.returned (.tuple #[.slice none 0 0, eno E])) w' := by
  refine ⟨.slice none 0 0, ?_, ?_, hb⟩
  · rw [hE, errV, if_neg h0]
  · rw [moveL, hE, if_neg h0]; exact OwnE.nil
theorem moveRes_ok {zs : List Ac} {f t x : Int} {w w' : World} {v : Value} {l : List En} (hE : moveE zs f t x = 0) (hl : moveOk (curOf zs f) (curOf zs t) f t x = l) (ho : OwnE w' w.heap.size v l) (hb : Below w.heap.size w w') :
    MoveRes zs f t x w (.returned (.tuple #[v, .nilIface])) w' := by
  refine ⟨v, ?_, ?_, hb⟩
  · rw [hE, errV, if_pos rfl]
  · rw [moveL, hE, if_pos rfl, hl]; exact ho

set_option maxRecDepth 100000 in
set_option maxHeartbeats 4000000 in
theorem move_any (A : Option Addr) (n cap : Nat) (zs : List Ac) (f t x : Int) (w : World) (hl : zs.length = n) (hr : RdA w A zs) (hcu : Curs zs) (hn : n ≤ 9223372036854775807) :
    Calls Tryd.prog 17 #[.slice A n cap, .int .i64 f, .int .i64 t, .int .i64 x] w (MoveRes zs f t x w) := by
  have EM := Lib.hid (fun W => amount_any x W)
  have HR := Lib.hid hr
  have HCU := Lib.hid hcu
  have HL := Lib.hid hl
  clear hr hcu hl
  by_cases hf : 0 ≤ f ∧ f < (n : Int)
  · by_cases ht : 0 ≤ t ∧ t < (n : Int)
    · by_cases hft : f = t
      · have hE : moveE zs f t x = 1 := by unfold moveE; rw [if_neg (by rw [HL.out]; omega), if_pos (.inl hft)]
        have HE := Lib.hid hE
        subst hft
        clear hE
        go_enter Tryd.func17, Tryd.ntmps17
        go_wp2_with (first | (go_at_call 29; first | (refine (exists_yes _ _ _ _ _ (by omega)).mono ?_; rintro e w1 ⟨rfl, rfl⟩) | (refine (exists_no _ _ _ _ _ (by omega)).mono ?_; rintro e w1 ⟨rfl, rfl⟩)))
        go_ret2
        exact moveRes_no HE.out (by omega) (Below.refl _ _)
      · have f1 := eqF hft
        by_cases hx : 1 ≤ x ∧ x ≤ 1099511627776
        · rw [decide_eq_true hx] at EM
          obtain ⟨p, rfl⟩ : ∃ p : Nat, f = (p : Int) := ⟨f.toNat, by omega⟩
          obtain ⟨q, rfl⟩ : ∃ q : Nat, t = (q : Int) := ⟨t.toNat, by omega⟩
          obtain ⟨a, ha⟩ : ∃ a, zs[p]? = some a := ⟨_, List.getElem?_eq_getElem (by rw [HL.out]; omega)⟩
          obtain ⟨b, hb⟩ : ∃ b, zs[q]? = some b := ⟨_, List.getElem?_eq_getElem (by rw [HL.out]; omega)⟩
          obtain ⟨ad, rfl, hat⟩ := HR.out.at_ ha
          obtain ⟨ad2, hadd, hbt⟩ := HR.out.at_ hb
          injection hadd with hadd
          subst hadd
          have hac := HCU.out _ _ ha
          have hbc := HCU.out _ _ hb
          have c0 := hat.c0
          have d0 := hbt.c0
          have KA := curOf_at ha
          have KB := curOf_at hb
          obtain ⟨ac, ab, al⟩ := a
          obtain ⟨bc, bb, bl⟩ := b
          dsimp only at c0 d0 hac hbc KA KB
          have hE0 : moveE zs (p : Int) (q : Int) x = if ac = bc then 0 else convE ac bc x := by
            unfold moveE; rw [if_neg (by rw [HL.out]; omega), if_neg (by omega), KA, KB]
          have HE0 := Lib.hid hE0
          have HKA := Lib.hid KA
          have HKB := Lib.hid KB
          have HX := Lib.hid hx
          have HAC := Lib.hid hac
          have HBC := Lib.hid hbc
          obtain ⟨hx1, hx2⟩ := hx
          obtain ⟨_, hp⟩ := hf
          obtain ⟨_, hq⟩ := ht
          obtain ⟨ha0, ha3⟩ := hac
          obtain ⟨hb0, hb3⟩ := hbc
          clear hE0 KA KB hat hbt ha hb hft
          by_cases hab : ac = bc
          · subst hab
            have HE : Hid (moveE zs (p : Int) (q : Int) x = 0) := Lib.hid (by rw [HE0.out, if_pos rfl])
            clear HE0
            go_enter Tryd.func17, Tryd.ntmps17
            go_wp2_with (first
              | (go_at_call 29; first | (refine (exists_yes _ _ _ _ _ (by omega)).mono ?_; rintro e w1 ⟨rfl, rfl⟩) | (refine (exists_no _ _ _ _ _ (by omega)).mono ?_; rintro e w1 ⟨rfl, rfl⟩))
              | (go_at_call 30; refine (EM.out _).mono ?_; rintro e w1 ⟨rfl, rfl⟩))
            go_quiet (fail)
            go_wp2
            go_ret2
            refine moveRes_ok (l := [⟨p, -x⟩, ⟨q, x⟩]) HE.out (by rw [HKA.out, HKB.out, moveOk, if_pos rfl]) (own_lit_ent _ [⟨p, -x⟩, ⟨q, x⟩] _ (by simp [maxLen]) (by simp)) ?_
            exact (below_drewN (Below.refl _ _) _).alloc (by simp) _
          · have f2 := eqF hab
            have hE1 : moveE zs (p : Int) (q : Int) x = convE ac bc x := by rw [HE0.out, if_neg hab]
            have HO : Hid (moveOk ac bc (p : Int) (q : Int) x = [⟨p, -x⟩, ⟨exch ac, x⟩, ⟨exch bc, -(conv ac bc x)⟩, ⟨q, conv ac bc x⟩]) := Lib.hid (by rw [moveOk, if_neg hab])
            have hcv0 : convE ac bc x = 0 → 1 ≤ conv ac bc x ∧ conv ac bc x ≤ 1099511627776 := by
              intro h
              unfold convE at h
              obtain ⟨p1, p2, q1, q2⟩ := rate_ok HAC.out HBC.out
              have h0 : 0 ≤ conv ac bc x := (div_facts (x * rateN ac bc) (rateD ac bc) (mul_bounds x _ hx1 hx2 p1 p2).1 q1).2.2.2.2.2
              split at h
              · omega
              · split at h
                · omega
                · omega
            have HCV := Lib.hid (fun W => convert_any ac bc x W HAC.out HBC.out hx1 hx2)
            obtain ⟨E, hEE⟩ : ∃ E, convE ac bc x = E := ⟨_, rfl⟩
            obtain ⟨c, hc⟩ : ∃ c, conv ac bc x = c := ⟨_, rfl⟩
            rw [hEE, hc] at HCV
            rw [hEE, hc] at hcv0
            rw [hEE] at hE1
            rw [hc] at HO
            have HE := Lib.hid hE1
            clear hE1 HE0 hEE hc hab
            by_cases hE0 : E = 0
            · subst hE0
              obtain ⟨v1, v2⟩ := hcv0 rfl
              clear hcv0
              rw [if_pos rfl, errV, if_pos rfl] at HCV
              go_enter Tryd.func17, Tryd.ntmps17
              go_wp2_with (first
                | (go_at_call 29; first | (refine (exists_yes _ _ _ _ _ (by omega)).mono ?_; rintro e w1 ⟨rfl, rfl⟩) | (refine (exists_no _ _ _ _ _ (by omega)).mono ?_; rintro e w1 ⟨rfl, rfl⟩))
                | (go_at_call 30; refine (EM.out _).mono ?_; rintro e w1 ⟨rfl, rfl⟩))
              go_quiet (fail)
              go_wp2_with (first
                | (go_at_call 31; refine (HCV.out _).mono ?_; rintro e w2 ⟨rfl, hb2⟩)
                | (go_at_call 32; refine (exch_any _ _ (by omega)).mono ?_; rintro e w3 ⟨rfl, rfl⟩))
              go_ret2
              have hb3 := below_drewN (Below.refl w.heap.size w) _ |>.trans (hb2.mono (by simp))
              refine moveRes_ok (l := [⟨p, -x⟩, ⟨exch ac, x⟩, ⟨exch bc, -c⟩, ⟨q, c⟩]) HE.out (by rw [HKA.out, HKB.out]; exact HO.out) (own_lit_ent _ [⟨p, -x⟩, ⟨exch ac, x⟩, ⟨exch bc, -c⟩, ⟨q, c⟩] _ (by simp [maxLen]) hb3.size) ?_
              exact hb3.alloc hb3.size _
            · rw [if_neg hE0, errV, if_neg hE0] at HCV
              clear hcv0 HO
              go_enter Tryd.func17, Tryd.ntmps17
              go_wp2_with (first
                | (go_at_call 29; first | (refine (exists_yes _ _ _ _ _ (by omega)).mono ?_; rintro e w1 ⟨rfl, rfl⟩) | (refine (exists_no _ _ _ _ _ (by omega)).mono ?_; rintro e w1 ⟨rfl, rfl⟩))
                | (go_at_call 30; refine (EM.out _).mono ?_; rintro e w1 ⟨rfl, rfl⟩))
              go_quiet (fail)
              go_wp2_with (first
                | (go_at_call 31; refine (HCV.out _).mono ?_; rintro e w2 ⟨rfl, hb2⟩))
              go_ret2
              exact moveRes_no HE.out hE0 (below_drewN (Below.refl w.heap.size w) _ |>.trans (hb2.mono (by simp)))
        · rw [decide_eq_false hx] at EM
          have hE : moveE zs f t x = 1 := by unfold moveE; rw [if_neg (by rw [HL.out]; omega), if_pos (.inr hx)]
          have HE := Lib.hid hE
          clear hE hx
          go_enter Tryd.func17, Tryd.ntmps17
          go_wp2_with (first
            | (go_at_call 29; first | (refine (exists_yes _ _ _ _ _ (by omega)).mono ?_; rintro e w1 ⟨rfl, rfl⟩) | (refine (exists_no _ _ _ _ _ (by omega)).mono ?_; rintro e w1 ⟨rfl, rfl⟩))
            | (go_at_call 30; refine (EM.out _).mono ?_; rintro e w1 ⟨rfl, rfl⟩))
          go_ret2
          exact moveRes_no HE.out (by omega) (Below.refl _ _)
    · have hE : moveE zs f t x = 2 := by unfold moveE; rw [if_pos (.inr (by rw [HL.out]; exact ht))]
      have HE := Lib.hid hE
      clear hE
      go_enter Tryd.func17, Tryd.ntmps17
      go_wp2_with (first
        | (go_at_call 29; first | (refine (exists_yes _ _ _ _ _ (by omega)).mono ?_; rintro e w1 ⟨rfl, rfl⟩) | (refine (exists_no _ _ _ _ _ (by omega)).mono ?_; rintro e w1 ⟨rfl, rfl⟩)))
      go_ret2
      exact moveRes_no HE.out (by omega) (Below.refl _ _)
  · have hE : moveE zs f t x = 2 := by unfold moveE; rw [if_pos (.inl (by rw [HL.out]; exact hf))]
    have HE := Lib.hid hE
    clear hE
    go_enter Tryd.func17, Tryd.ntmps17
    go_wp2_with (first
      | (go_at_call 29; refine (exists_no _ _ _ _ _ (by omega)).mono ?_; rintro e w1 ⟨rfl, rfl⟩))
    go_ret2
    exact moveRes_no HE.out (by omega) (Below.refl _ _)
end Go.Proofs.YtbneohglblkmeaaDoor
