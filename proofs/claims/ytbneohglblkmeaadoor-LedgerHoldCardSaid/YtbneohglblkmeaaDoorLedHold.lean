/-
  ledger.Hold and Release by their contracts.
-/
import Derived.Test.YtbneohglblkmeaaDoorLedSmall
namespace Go.Proofs.YtbneohglblkmeaaDoor
open Go Go.RowKit
set_option linter.unusedVariables false

theorem OwnA.nil {w : World} {base : Nat} : OwnA w base (.slice none 0 0) [] := World.ownsRow_nil w base _ 3
theorem OwnA.form {w : World} {base : Nat} {v : Value} {zs : List Ac} (h : OwnA w base v zs) : ∃ A cap, v = .slice A zs.length cap ∧ RdA w A zs ∧ zs.length ≤ cap ∧ cap ≤ maxLen ∧ (A = none → zs.length = 0 ∧ cap = 0) := by
  have h0 := h
  rcases h.2 with ⟨hv, h0⟩ | ⟨g, cap, cur, hv, hb, hg, hnc, hcm, _⟩
  · have hl : zs.length = 0 := h0
    refine ⟨none, 0, by rw [hv, hl], fun hn => by omega, by omega, Nat.zero_le _, fun _ => ⟨hl, rfl⟩⟩
  · rw [hv] at h0
    exact ⟨some ⟨g, 0, none⟩, cap, hv, h0.rd, hnc, hcm, fun h => by cases h⟩

/-- What a function of ledger hands back: accounts, and an error by its number. -/
def LedRes (E : Int) (L : List Ac) (w : World) (e : Ending) (w' : World) : Prop :=
  ∃ v, e = .returned (.tuple #[v, errV E]) ∧ OwnA w' w.heap.size v L ∧ Below w.heap.size w w'
theorem ledRes_no {E F : Int} {L : List Ac} {w w' : World} (hE : E = F) (h0 : F ≠ 0) (hL : L = []) (hb : Below w.heap.size w w') : LedRes E L w (.returned (.tuple #[.slice none 0 0, eno F])) w' := by
  subst hL hE
  refine ⟨.slice none 0 0, ?_, OwnA.nil, hb⟩
  rw [errV, if_neg h0]
theorem ledRes_errV {E : Int} {L : List Ac} {w w' : World} (hL : L = []) (hb : Below w.heap.size w w') : LedRes E L w (.returned (.tuple #[.slice none 0 0, errV E])) w' := by
  subst hL
  exact ⟨.slice none 0 0, rfl, OwnA.nil, hb⟩
theorem ledRes_ok {E : Int} {L : List Ac} {w w' : World} {v : Value} (hE : E = 0) (ho : OwnA w' w.heap.size v L) (hb : Below w.heap.size w w') : LedRes E L w (.returned (.tuple #[v, .nilIface])) w' := by
  subst hE
  exact ⟨v, rfl, ho, hb⟩

set_option maxRecDepth 100000 in
set_option maxHeartbeats 4000000 in
theorem hold_any (A : Option Addr) (n cap : Nat) (zs : List Ac) (k x : Int) (w : World) (hl : zs.length = n) (hr : RdA w A zs) (hn : n ≤ 5864062014805) (hnil : A = none → n = 0 ∧ cap = 0) :
    Calls Tryd.prog 15 #[.slice A n cap, .int .i64 k, .int .i64 x] w (LedRes (holdE zs k x) (holdL zs k x) w) := by
  have HM := Lib.hid (fun W => mayHold_any A n cap k x W)
  have HL := Lib.hid hl
  have hEd : holdE zs k x = if mayE n k x = 0 then (if wrap64 ((acOf zs k).bal - (acOf zs k).held) < x then 3 else 0) else mayE n k x := by unfold holdE; rw [hl]
  have HED := Lib.hid hEd
  by_cases hm : mayE n k x = 0
  · rw [hm, show errV 0 = .nilIface from rfl] at HM
    have hk : 9 ≤ k ∧ k < (n : Int) := by
      unfold mayE at hm
      split at hm
      · assumption
      · omega
    obtain ⟨q, rfl⟩ : ∃ q : Nat, k = (q : Int) := ⟨k.toNat, by omega⟩
    obtain ⟨k9, kn⟩ := hk
    obtain ⟨a, ha⟩ : ∃ a, zs[q]? = some a := ⟨_, List.getElem?_eq_getElem (by omega)⟩
    obtain ⟨ad, rfl, hat⟩ := hr.at_ ha
    obtain ⟨c0, c1, c2⟩ := hat
    rw [add_next ad (q * 3) 1 (by omega)] at c1
    rw [add_next ad (q * 3) 2 (by omega)] at c2
    have HF := Lib.hid (fun W => free_any a W)
    have hao := acOf_at ha
    rw [hao] at HED
    have HAO := Lib.hid hao
    have HCL := Lib.hid (fun W (hb : Below w.heap.size w W) => clone_acc (some ad) n cap zs W hl (hr.below hb) hn hnil)
    have HA := Lib.hid ha
    obtain ⟨f, hf⟩ : ∃ f, wrap64 (a.bal - a.held) = f := ⟨_, rfl⟩
    rw [hf, if_pos hm] at HED
    rw [hf] at HF
    have hqn : q < n := by omega
    have hset := fun (W : World) (g : Nat) (h : OwnA W w.heap.size (.slice (some ⟨g, 0, none⟩) n n) zs) => h.at_ ha
    have hst := fun (W : World) (g : Nat) (h : OwnA W w.heap.size (.slice (some ⟨g, 0, none⟩) n n) zs) (y : Int) => (h.set hl.symm ha y).2.2
    have HSET := Lib.hid hset
    have HST := Lib.hid hst
    have hHL : holdE zs (q : Int) x = 0 → holdL zs (q : Int) x = zs.set q ⟨a.cur, a.bal, wrap64 (a.held + x)⟩ := fun h => by unfold holdL heldAs; rw [if_pos h, hao, Int.toNat_natCast]
    have HHL := Lib.hid hHL
    have hHN : holdE zs (q : Int) x ≠ 0 → holdL zs (q : Int) x = [] := fun h => by unfold holdL; rw [if_neg h]
    have HHN := Lib.hid hHN
    obtain ⟨c, b, l⟩ := a
    dsimp only at c0 c1 c2 HF HSET HST HHL
    clear ha hao hr hl hm hnil hset hst hHL hHN hEd
    by_cases hx : f < x
    · rw [if_pos hx] at HED
      go_enter Tryd.func15, Tryd.ntmps15
      go_wp2_with (first
        | (go_at_call 27; refine (HM.out _).mono ?_; rintro e w1 ⟨rfl, rfl⟩)
        | (go_at_call 28; refine (HF.out _).mono ?_; rintro e w1 ⟨rfl, hb1⟩))
      go_ret2
      exact ledRes_no HED.out (by omega) (HHN.out (by rw [HED.out]; omega)) hb1
    · rw [if_neg hx] at HED
      obtain ⟨y, hy⟩ : ∃ y, wrap64 (l + x) = y := ⟨_, rfl⟩
      go_enter Tryd.func15, Tryd.ntmps15
      go_wp2_with (first
        | (go_at_call 27; refine (HM.out _).mono ?_; rintro e w1 ⟨rfl, rfl⟩)
        | (go_at_call 28; refine (HF.out _).mono ?_; rintro e w1 ⟨rfl, hb1⟩))
      have HB1 := Lib.hid hb1
      clear hb1
      refine (HCL.out _ HB1.out).mono ?_
      rintro e w2 ⟨rfl, ho, hb2⟩
      obtain ⟨g, hg⟩ : ∃ g, w1.heap.size = g := ⟨_, rfl⟩
      have hgw : w.heap.size ≤ g := by rw [← hg]; exact HB1.out.size
      rw [hg] at ho ⊢
      have ho2 : OwnA w2 w.heap.size (.slice (some ⟨g, 0, none⟩) n n) zs := ho.less hgw
      obtain ⟨d0, d1, d2⟩ := HSET.out _ _ ho2
      have hf2 := ho2.unfrozen HL.out.symm (q * 3 + 2)
      have HO := Lib.hid (HST.out _ _ ho2 y)
      have HB2 := Lib.hid (HB1.out.trans (hb2.mono HB1.out.size))
      clear ho ho2 hb2 hg c0 c1 c2
      go_wp2
      go_ret2
      refine ledRes_ok HED.out ?_ (HB2.out.setCell (by simpa using hgw) _)
      rw [HHL.out HED.out, hy]
      exact HO.out
  · have HHN : Hid (holdL zs k x = []) := Lib.hid (by unfold holdL; rw [hEd, if_neg hm, if_neg hm])
    rw [if_neg hm] at HED
    obtain ⟨E, hE⟩ : ∃ E, mayE n k x = E := ⟨_, rfl⟩
    rw [hE] at HM HED hm
    rw [errV, if_neg hm] at HM
    have hen : Hid (E ≠ 0) := Lib.hid hm
    clear hr hl hnil hEd hE hm
    go_enter Tryd.func15, Tryd.ntmps15
    go_wp2_with (first
      | (go_at_call 27; refine (HM.out _).mono ?_; rintro e w1 ⟨rfl, rfl⟩))
    go_ret2
    exact ledRes_no HED.out hen.out HHN.out (Below.refl _ _)

set_option maxRecDepth 100000 in
set_option maxHeartbeats 4000000 in
theorem release_any (A : Option Addr) (n cap : Nat) (zs : List Ac) (k x : Int) (w : World) (hl : zs.length = n) (hr : RdA w A zs) (hn : n ≤ 5864062014805) (hnil : A = none → n = 0 ∧ cap = 0) :
    Calls Tryd.prog 16 #[.slice A n cap, .int .i64 k, .int .i64 x] w (LedRes (relE zs k x) (relL zs k x) w) := by
  have HM := Lib.hid (fun W => mayHold_any A n cap k x W)
  have HL := Lib.hid hl
  have hEd : relE zs k x = if mayE n k x = 0 then (if (acOf zs k).held < x then 6 else 0) else mayE n k x := by unfold relE; rw [hl]
  have HED := Lib.hid hEd
  by_cases hm : mayE n k x = 0
  · rw [hm, show errV 0 = .nilIface from rfl] at HM
    have hk : 9 ≤ k ∧ k < (n : Int) := by
      unfold mayE at hm
      split at hm
      · assumption
      · omega
    obtain ⟨q, rfl⟩ : ∃ q : Nat, k = (q : Int) := ⟨k.toNat, by omega⟩
    obtain ⟨k9, kn⟩ := hk
    obtain ⟨a, ha⟩ : ∃ a, zs[q]? = some a := ⟨_, List.getElem?_eq_getElem (by omega)⟩
    obtain ⟨ad, rfl, hat⟩ := hr.at_ ha
    obtain ⟨c0, c1, c2⟩ := hat
    rw [add_next ad (q * 3) 1 (by omega)] at c1
    rw [add_next ad (q * 3) 2 (by omega)] at c2
    have hao := acOf_at ha
    rw [hao] at HED
    have HAO := Lib.hid hao
    have HCL := Lib.hid (fun W (hb : Below w.heap.size w W) => clone_acc (some ad) n cap zs W hl (hr.below hb) hn hnil)
    have HA := Lib.hid ha
    rw [if_pos hm] at HED
    have hqn : q < n := by omega
    have hset := fun (W : World) (g : Nat) (h : OwnA W w.heap.size (.slice (some ⟨g, 0, none⟩) n n) zs) => h.at_ ha
    have hst := fun (W : World) (g : Nat) (h : OwnA W w.heap.size (.slice (some ⟨g, 0, none⟩) n n) zs) (y : Int) => (h.set hl.symm ha y).2.2
    have HSET := Lib.hid hset
    have HST := Lib.hid hst
    have hHL : relE zs (q : Int) x = 0 → relL zs (q : Int) x = zs.set q ⟨a.cur, a.bal, wrap64 (a.held - x)⟩ := fun h => by unfold relL heldAs; rw [if_pos h, hao, Int.toNat_natCast]
    have HHL := Lib.hid hHL
    have hHN : relE zs (q : Int) x ≠ 0 → relL zs (q : Int) x = [] := fun h => by unfold relL; rw [if_neg h]
    have HHN := Lib.hid hHN
    obtain ⟨c, b, l⟩ := a
    dsimp only at c0 c1 c2 HED HSET HST HHL
    clear ha hao hr hl hm hnil hset hst hHL hHN hEd
    by_cases hx : l < x
    · rw [if_pos hx] at HED
      go_enter Tryd.func16, Tryd.ntmps16
      go_wp2_with (first
        | (go_at_call 27; refine (HM.out _).mono ?_; rintro e w1 ⟨rfl, rfl⟩))
      go_ret2
      exact ledRes_no HED.out (by omega) (HHN.out (by rw [HED.out]; omega)) (Below.refl _ _)
    · rw [if_neg hx] at HED
      obtain ⟨y, hy⟩ : ∃ y, wrap64 (l - x) = y := ⟨_, rfl⟩
      go_enter Tryd.func16, Tryd.ntmps16
      go_wp2_with (first
        | (go_at_call 27; refine (HM.out _).mono ?_; rintro e w1 ⟨rfl, rfl⟩))
      have HB1 := Lib.hid (Below.refl w.heap.size w)
      go_wp2_with fail
      refine (HCL.out _ HB1.out).mono ?_
      rintro e w2 ⟨rfl, ho, hb2⟩
      obtain ⟨g, hg⟩ : ∃ g, w.heap.size = g := ⟨_, rfl⟩
      have hgw : w.heap.size ≤ g := by rw [← hg]; exact HB1.out.size
      rw [hg] at ho ⊢
      have ho2 : OwnA w2 w.heap.size (.slice (some ⟨g, 0, none⟩) n n) zs := ho.less hgw
      obtain ⟨d0, d1, d2⟩ := HSET.out _ _ ho2
      have hf2 := ho2.unfrozen HL.out.symm (q * 3 + 2)
      have HO := Lib.hid (HST.out _ _ ho2 y)
      have HB2 := Lib.hid (HB1.out.trans (hb2.mono HB1.out.size))
      clear ho ho2 hb2 hg c0 c1 c2
      go_wp2
      go_ret2
      refine ledRes_ok HED.out ?_ (HB2.out.setCell (by simpa using hgw) _)
      rw [HHL.out HED.out, hy]
      exact HO.out
  · have HHN : Hid (relL zs k x = []) := Lib.hid (by unfold relL; rw [hEd, if_neg hm, if_neg hm])
    rw [if_neg hm] at HED
    obtain ⟨E, hE⟩ : ∃ E, mayE n k x = E := ⟨_, rfl⟩
    rw [hE] at HM HED hm
    rw [errV, if_neg hm] at HM
    have hen : Hid (E ≠ 0) := Lib.hid hm
    clear hr hl hnil hEd hE hm
    go_enter Tryd.func16, Tryd.ntmps16
    go_wp2_with (first
      | (go_at_call 27; refine (HM.out _).mono ?_; rintro e w1 ⟨rfl, rfl⟩))
    go_ret2
    exact ledRes_no HED.out hen.out HHN.out (Below.refl _ _)
end Go.Proofs.YtbneohglblkmeaaDoor
