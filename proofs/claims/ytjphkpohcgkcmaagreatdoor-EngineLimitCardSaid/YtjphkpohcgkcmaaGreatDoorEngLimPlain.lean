/-
  Sixteen transfers that wait, and more: what an engine does of them: plain words.
-/
import Derived.Test.YtjphkpohcgkcmaaGreatDoorGrK
import Derived.Test.YtjphkpohcgkcmaaGreatDoorStExample
namespace Go.Proofs.YtjphkpohcgkcmaaGreatDoor
open Go Go.RowKit
set_option linter.unusedVariables false

def lb0 : St := ⟨bookTo (curs6 [] 0) [90000, 90000, 90000, 90000] [] 6, [], 0⟩
def lT (i am : Nat) : St := ⟨lb0.acs.set 9 ⟨0, 90000, ((i * (1 + am) : Nat) : Int)⟩, [], 0⟩
def lr (i am : Nat) : Rq := ⟨(i : Int), 2, 9, 12, ((1 + am : Nat) : Int), 1, 0⟩
def lS (i am : Nat) : List Sg := (List.range i).map fun j => beginS (lr j am)
def lK (i am : Nat) : List Kn := (List.range i).map fun j => ⟨lr j am, 0, 0, false⟩
def lX (i am : Nat) : Eg := ⟨lT i am, lS i am, lK i am⟩
theorem lS_len (i am : Nat) : (lS i am).length = i := by simp [lS]
theorem lK_len (i am : Nat) : (lK i am).length = i := by simp [lK]
theorem lS_next (i am : Nat) : lS (i + 1) am = lS i am ++ [beginS (lr i am)] := by simp [lS, List.range_succ]
theorem lK_next (i am : Nat) : lK (i + 1) am = lK i am ++ [⟨lr i am, 0, 0, false⟩] := by simp [lK, List.range_succ]
theorem lb0_9 : lb0.acs = lb0.acs.set 9 ⟨0, 90000, 0⟩ := by kernel_rfl
theorem lT_0 (am : Nat) : lT 0 am = lb0 := by
  unfold lT
  rw [Nat.zero_mul]
  show (⟨lb0.acs.set 9 ⟨0, 90000, 0⟩, [], 0⟩ : St) = lb0
  rw [← lb0_9]
  rfl
theorem lT_len (i am : Nat) : (lT i am).acs.length = 15 := by
  unfold lT
  rw [List.length_set]
  kernel_rfl
def lchk (am : Nat) : Bool := (List.range 16).all fun i => decide (rsvE (lT i am) (lr i am) = 0) && decide ((rsvS (lT i am) (lr i am)).acs = (lT (i + 1) am).acs) && rightB (lT (i + 1) am).acs
theorem lchk_all : (List.range 256).all lchk = true := by kernel_rfl
theorem lb0_right : rightB lb0.acs = true := by kernel_rfl
theorem lchk_at {i am : Nat} (hi : i < 16) (ha : am < 256) : rsvE (lT i am) (lr i am) = 0 ∧ (rsvS (lT i am) (lr i am)).acs = (lT (i + 1) am).acs ∧ rightB (lT (i + 1) am).acs = true := by
  have h1 := List.all_eq_true.1 lchk_all am (List.mem_range.2 ha)
  have h2 := List.all_eq_true.1 h1 i (List.mem_range.2 hi)
  simp only [Bool.and_eq_true, decide_eq_true_eq] at h2
  exact ⟨h2.1.1, h2.1.2, h2.2⟩
theorem lT_right (i am : Nat) (hi : i ≤ 16) (ha : am < 256) : rightB (lT i am).acs = true := by
  match i, hi with
  | 0, _ => rw [lT_0]; exact lb0_right
  | i + 1, hi => exact (lchk_at (by omega) ha).2.2
theorem lX_fits (i am : Nat) (hi : i ≤ 16) (ha : am < 256) : Fits (lX i am).T (lX i am).sl (lX i am).kl := ⟨lT_right i am hi ha, Nat.zero_le _, by show (lS i am).length ≤ _; rw [lS_len]; omega, by show (lK i am).length ≤ _; rw [lK_len]; omega⟩
theorem lr_may (i am : Nat) (hi : i < 1000) (ha : am < 256) : (lr i am).may := by
  unfold Rq.may legsOk opOk lr
  simp
  omega
theorem lK_none (i j am : Nat) (hj : i ≤ j) : findN (lK i am) (lr j am).key = none := find_none.2 fun x a h => by
  have hm := List.mem_of_getElem? h
  unfold lK at hm
  obtain ⟨y, hy, rfl⟩ := List.mem_map.1 hm
  have := List.mem_range.1 hy
  unfold lr
  dsimp only
  omega
theorem lr_long (i am : Nat) : isLong (lr i am) := ⟨rfl, by unfold lr; dsimp only; decide⟩
theorem lim_go (i am : Nat) (hi : i < 16) (ha : am < 256) : egO (lX i am) ⟨0, lr i am, 0, false⟩ = ⟨lX (i + 1) am, 10, 0⟩ := by
  obtain ⟨h1, h2, _⟩ := lchk_at hi ha
  have hf := lK_none i i am (Nat.le_refl _)
  have hp : kputE (lK i am) (lr i am) = 0 := by unfold kputE; rw [if_pos hf, if_neg (by rw [lK_len]; omega)]
  have hpl : putL (lK i am) (lr i am) = lK (i + 1) am := by unfold putL; rw [if_pos hp, lK_next]
  have hask : ¬ (askR (lK i am) (lr i am)).2.2 = true := fun e => (find_askR.1 e) hf
  have hrs : rsvS (lT i am) (lr i am) = lT (i + 1) am := by
    have h3 : (rsvS (lT i am) (lr i am)).pys = [] ∧ (rsvS (lT i am) (lr i am)).now = 0 := by unfold rsvS; split <;> exact ⟨rfl, rfl⟩
    obtain ⟨h4, h5⟩ := h3
    generalize rsvS (lT i am) (lr i am) = Z at h2 h4 h5
    obtain ⟨za, zp, zn⟩ := Z
    dsimp only at h2 h4 h5
    subst h2 h4 h5
    rfl
  unfold egO egOT
  rw [if_pos rfl]
  unfold subO lX
  dsimp only
  rw [if_pos (lr_may i am (by omega) ha), if_neg hask, if_neg (fun h => by have := h.2; rw [lS_len] at this; omega), if_pos hp, if_pos (lr_long i am)]
  unfold begO
  dsimp only
  rw [if_pos h1, hrs, hpl, lS_next]
theorem lim_stop (i am : Nat) (hi : 16 ≤ i) (hi2 : i < 1000) (ha : am < 256) : egO (lX 16 am) ⟨0, lr i am, 0, false⟩ = ⟨lX 16 am, 7, 0⟩ := by
  have hf := lK_none 16 i am hi
  have hask : ¬ (askR (lK 16 am) (lr i am)).2.2 = true := fun e => (find_askR.1 e) hf
  unfold egO egOT
  rw [if_pos rfl]
  unfold subO lX
  dsimp only
  rw [if_pos (lr_may i am hi2 ha), if_neg hask, if_pos ⟨lr_long i am, by rw [lS_len]; omega⟩]
theorem lT_9 (i am : Nat) : (lT i am).acs[9]? = some ⟨0, 90000, ((i * (1 + am) : Nat) : Int)⟩ := by
  unfold lT
  exact List.getElem?_set_self (by have h : lb0.acs.length = 15 := by kernel_rfl
                                   rw [h]; decide)
end Go.Proofs.YtjphkpohcgkcmaaGreatDoor
