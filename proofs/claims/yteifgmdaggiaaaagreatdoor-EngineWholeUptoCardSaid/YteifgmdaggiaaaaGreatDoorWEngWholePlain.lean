/-
  Where each request comes to its end ahead of the next one, an engine's events come to what a bank does: plain words.
-/
import Derived.Test.YteifgmdaggiaaaaGreatDoorWEngTen
namespace Go.Proofs.YteifgmdaggiaaaaGreatDoor
open Go Go.RowKit
set_option linter.unusedVariables false
/-- The answer of step k: those behind the last one agree. -/
def legK (ls : List Bool) (k : Nat) : Bool := if ls.length ≤ k then true else ls.getD k true
/-- Steps, while something goes on. -/
def whl (ls : List Bool) (key : Int) : Nat → Nat → Eo → Eo
 | 0, _, O => O
 | f + 1, k, O => if O.E = 10 then whl ls key f (k + 1) (stpO O.X key (legK ls k)) else O
theorem whl_stop (ls : List Bool) (key : Int) (f k : Nat) {O : Eo} (h : O.E ≠ 10) : whl ls key f k O = O := by
 cases f with
 | zero => rfl
 | succ f => rw [whl, if_neg h]
theorem whl_go (ls : List Bool) (key : Int) (f k : Nat) {O : Eo} (h : O.E = 10) : whl ls key (f + 1) k O = whl ls key f (k + 1) (stpO O.X key (legK ls k)) := by rw [whl, if_pos h]
theorem ansB_k (ls : List Bool) (k : Nat) : ansB ls (min k ls.length) = legK ls k := by
 unfold ansB legK
 by_cases h : ls.length ≤ k
 · rw [if_pos (by omega), if_pos h]
 · rw [if_neg (by omega), if_neg h, Nat.min_eq_left (by omega)]
theorem ansN_k (ls : List Bool) (k : Nat) : ansN ls (min k ls.length) = min (k + 1) ls.length := by
 unfold ansN
 split <;> omega
/-- What a saga's steps come to, by what the answers do. -/
def endW (S : St) (kl : List Kn) (r : Rq) (e : Int) : Eo :=
 if e = 0 then (if setE S r = 0 then ⟨⟨setS S r, [], kl ++ [⟨r, 0, 0, true⟩]⟩, 0, 0⟩ else ⟨⟨undS S r, [], kl ++ [⟨r, setE S r, 0, true⟩]⟩, setE S r, 0⟩)
 else ⟨⟨undS S r, [], kl ++ [⟨r, e, 0, true⟩]⟩, e, 0⟩
theorem stp_one (S : St) (K : List Kn) (g : Sg) (ok : Bool) : stpO ⟨S, [g], K⟩ g.rq.key ok = stepAt ⟨S, [g], K⟩ 0 g ok := by
 have hf : findS [g] g.rq.key = some 0 := findS_some.2 ⟨⟨g, rfl, rfl⟩, fun j a hj => absurd hj (Nat.not_lt_zero _)⟩
 unfold stpO
 dsimp only
 rw [hf]
 rfl
theorem end_one {S : St} {kl : List Kn} {g : Sg} (hp : kputE kl g.rq = 0) (why : Int) : endO ⟨S, [g], kl ++ [⟨g.rq, 0, 0, false⟩]⟩ 0 g why = ⟨⟨S, [], kl ++ [⟨g.rq, why, 0, true⟩]⟩, why, 0⟩ := by
 obtain ⟨p1, p2, p3⟩ := put_told hp why 0
 unfold endO toldL
 dsimp only
 rw [← p1, if_pos p2, p3]
 rfl
theorem whl_back {S : St} {kl : List Kn} {g : Sg} (hp : kputE kl g.rq = 0) (ls : List Bool) (F k : Nat) (h1 : g.ph = 1) (hw : g.why ≠ 10) :
  whl ls g.rq.key (F + 1) k ⟨⟨S, [g], kl ++ [⟨g.rq, 0, 0, false⟩]⟩, 10, 0⟩ = ⟨⟨undS S g.rq, [], kl ++ [⟨g.rq, g.why, 0, true⟩]⟩, g.why, 0⟩ := by
 rw [whl_go _ _ _ _ rfl, stp_one]
 unfold stepAt
 rw [if_pos h1]
 dsimp only
 rw [end_one hp]
 exact whl_stop _ _ _ _ hw
theorem whl_fin (S : St) (kl : List Kn) (r : Rq) (hp : kputE kl r = 0) (ls : List Bool) : ∀ (m : Nat) (g : Sg) (k F f : Nat), g.rq = r → rightSg g → g.ph = 0 → 4 * (g.rq.legs - g.leg) - g.tries + 2 ≤ m → m ≤ F → m ≤ f →
  whl ls r.key F k ⟨⟨S, [g], kl ++ [⟨r, 0, 0, false⟩]⟩, 10, 0⟩ = endW S kl r (finGo ls f g (min k ls.length)).1
 | 0, g, k, F, f, hg, hr, h0, hm, _, _ => by
   obtain ⟨h1, h2, h3, h4⟩ := hr
   unfold rightPhS mtS missS at h4
   rw [if_pos h0] at h4
   split at h4 <;> split at h4 <;> omega
 | m + 1, g, k, F, f, hg, hr, h0, hm, hF, hf => by
   subst hg
   obtain ⟨F, rfl⟩ : ∃ F', F = F' + 1 := ⟨F - 1, by omega⟩
   obtain ⟨f, rfl⟩ : ∃ f', f = f' + 1 := ⟨f - 1, by omega⟩
   have hr' := hr
   obtain ⟨h1, h2, h3, h4⟩ := hr'
   unfold rightPhS mtS missS at h4
   rw [if_pos h0] at h4
   rw [whl_go _ _ _ _ rfl, stp_one, finGo]
   unfold stepAt
   rw [if_neg (by omega)]
   by_cases hrd : readyS g
   · rw [if_pos hrd, if_pos hrd]
     have hlg := hrd.2
     rw [if_neg (show ¬ g.leg < g.rq.legs by omega), if_pos rfl] at h4
     obtain ⟨F, rfl⟩ : ∃ F', F = F' + 1 := ⟨F - 1, by omega⟩
     unfold endW
     dsimp only
     rw [if_pos rfl]
     by_cases hs : setE S g.rq = 0
     · rw [if_pos hs, if_pos hs, end_one hp]
       exact whl_stop _ _ _ _ (by decide : (0 : Int) ≠ 10)
     · rw [if_neg hs, if_neg hs]
       have hturn : turnS g (setE S g.rq) = ⟨g.rq, 1, g.leg, g.tries, setE S g.rq⟩ := by unfold turnS; rw [if_pos h0]
       unfold goO
       dsimp only
       rw [hturn, List.set_cons_zero]
       exact whl_back (g := ⟨g.rq, 1, g.leg, g.tries, setE S g.rq⟩) hp ls F (k + 1) rfl (set_ten _ _)
   · rw [if_neg hrd, if_neg hrd, ansB_k, ansN_k]
     have hrq := legS_rq g (legK ls k)
     unfold goO
     dsimp only
     rw [List.set_cons_zero]
     rcases leg_goes hr h0 hrd (legK ls k) with ⟨h5, h6⟩ | ⟨h5, h6⟩
     · have hlt : g.leg < g.rq.legs := by unfold readyS at hrd; omega
       rw [if_pos hlt, if_neg (by omega)] at h4
       obtain ⟨F, rfl⟩ : ∃ F', F = F' + 1 := ⟨F - 1, by omega⟩
       rw [if_pos h5]
       dsimp only
       generalize legS g (legK ls k) = g' at hrq h5 h6 ⊢
       rw [← hrq] at hp ⊢
       rw [whl_back hp ls F (k + 1) h5 (by rw [h6]; decide)]
       unfold endW
       rw [if_neg (by rw [h6]; decide)]
     · rw [if_neg (by omega)]
       exact whl_fin S kl g.rq hp ls m (legS g (legK ls k)) (k + 1) F f hrq (rightSg_leg hr (by omega) hrd _) h5 (by rw [hrq] at h6 ⊢; omega) (by omega) (by omega)
/-- All told, and nothing goes on. -/
def Quiet (kl : List Kn) : Prop := ∀ k ∈ kl, k.told = true ∧ k.err ≠ 10
theorem Quiet.ask {kl : List Kn} (h : Quiet kl) (r : Rq) : (askR kl r).1 ≠ 10 := by
 unfold askR
 split
 · decide
 · rename_i i hi
   obtain ⟨a, ha, _⟩ := find_get hi
   obtain ⟨h1, h2⟩ := h a (List.mem_of_getElem? ha)
   rw [knAt_of ha, if_pos h1]
   split
   · exact h2
   · decide
/-- A request, and its steps. -/
theorem whole_is {T : St} {kl : List Kn} (hq : Quiet kl) (r : Rq) (ls : List Bool) :
  whl ls r.key 40 0 (subO ⟨T, [], kl⟩ r) = ⟨⟨(bkO T kl r ls).T, [], (bkO T kl r ls).kl⟩, (bkO T kl r ls).E, (bkO T kl r ls).I⟩ := by
 have hput : ∀ (e : Int), kputE kl r = e → e ≠ 10 := fun e he => by
  subst he
  unfold kputE
  split
  · split <;> decide
  · decide
 unfold subO bkO
 by_cases hm : r.may
 · rw [if_pos hm, if_pos hm]
   dsimp only
   by_cases ha : (askR kl r).2.2 = true
   · rw [if_pos ha, if_pos ha]
     exact whl_stop _ _ _ _ (hq.ask r)
   · rw [if_neg ha, if_neg ha, if_neg (fun h => by have := h.2; simp at this)]
     by_cases hp : kputE kl r = 0
     · rw [if_pos hp, if_pos hp]
       by_cases hl : isLong r
       · rw [if_pos hl]
         have hE : exeT T r ls = (trf T r ls).T ∧ exeE T r ls = (trf T r ls).E ∧ exeI T r ls = 0 := ⟨by unfold exeT; rw [if_pos hl], by unfold exeE; rw [if_pos hl], by unfold exeI; rw [if_pos hl]⟩
         obtain ⟨e1, e2, e3⟩ := hE
         dsimp only
         rw [e1, e2, e3]
         unfold begO
         dsimp only
         by_cases hr : rsvE T r = 0
         · have hbg := rightSg_begin hm hl
           have hlg : r.legs ≤ 4 := hbg.1.2
           have hw := whl_fin (rsvS T r) kl r hp ls 18 (beginS r) 0 40 20 rfl hbg rfl (by unfold beginS; dsimp only; omega) (by decide) (by decide)
           rw [Nat.zero_min] at hw
           obtain ⟨p1, _, _⟩ := put_told hp 0 0
           rw [if_pos hr, p1, List.nil_append, hw]
           unfold trf endW
           rw [if_pos hr]
           show (if (fin ls r).1 = 0 then _ else _) = _
           by_cases hf : (fin ls r).1 = 0
           · rw [if_pos hf, if_pos hf]
             split <;> rfl
           · rw [if_neg hf, if_neg hf]
             rfl
         · obtain ⟨_, p2, p3⟩ := put_told hp (rsvE T r) 0
           rw [if_neg hr]
           unfold toldL trf
           rw [if_pos p2, p3, if_neg hr]
           exact whl_stop _ _ _ _ (rsv_ten _ _)
       · rw [if_neg hl]
         obtain ⟨_, p2, p3⟩ := put_told hp (opE T r) (opI T r)
         have hE : exeT T r ls = opS T r ∧ exeE T r ls = opE T r ∧ exeI T r ls = opI T r := ⟨by unfold exeT; rw [if_neg hl], by unfold exeE; rw [if_neg hl], by unfold exeI; rw [if_neg hl]⟩
         obtain ⟨e1, e2, e3⟩ := hE
         dsimp only
         rw [e1, e2, e3]
         unfold toldL
         rw [if_pos p2, p3]
         exact whl_stop _ _ _ _ (op_ten _ _)
     · rw [if_neg hp, if_neg hp]
       exact whl_stop _ _ _ _ (hput _ rfl)
 · rw [if_neg hm, if_neg hm]
   exact whl_stop _ _ _ _ (by decide : (1 : Int) ≠ 10)
theorem Quiet.bk {T : St} {kl : List Kn} (hq : Quiet kl) (r : Rq) (ls : List Bool) : Quiet (bkO T kl r ls).kl := by
 unfold bkO
 split
 · rename_i hm
   split
   · exact hq
   · split
     · intro k hk
       rcases List.mem_append.1 hk with hk | hk
       · exact hq k hk
       · rw [List.mem_singleton] at hk
         subst hk
         exact ⟨rfl, exe_ten hm ls⟩
     · exact hq
 · exact hq
end Go.Proofs.YteifgmdaggiaaaaGreatDoor
