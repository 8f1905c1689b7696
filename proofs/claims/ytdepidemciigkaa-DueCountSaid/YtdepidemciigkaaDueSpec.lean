/-
  What All, By and Next of due answer, as one hypothesis; and that of it the document's examples hold.
-/
import Derived.Test.YtdepidemciigkaaDuePlain
import Derived.Test.YtdepidemciigkaaPaySlice
import Derived.Test.YtdepidemciigkaaSlices
import Derived.IntWalk
import Derived.WalkSpells
namespace Go.Proofs.Ytdepidemciigkaa
open Go Go.RowKit
set_option linter.unusedVariables false

/-- Those whose time is over. -/
def byL (ps : List Py) (now : Int) (out : List Int) : List Int := out.takeWhile fun a => decide (tilP ps a ≤ now)
def nextN (ps : List Py) : List Int → Int
  | [] => 0
  | a :: _ => tilP ps a
def nextB : List Int → Bool
  | [] => false
  | _ :: _ => true
/-- No time is over the greatest int. -/
def Tils (ps : List Py) : Prop := ∀ p ∈ ps, p.til ≤ 9223372036854775807
/-- What the three functions answer, of up to a thousand payments. -/
structure DueFns : Prop where
  all : ∀ (A : Option Addr) (n cap : Nat) (ps : List Py) (w : World), ps.length = n → RdS pays w A ps → n ≤ 1000 → Tils ps →
    Calls Try.prog 12 #[.slice A n cap] w fun e w' => ∃ v out, e = .returned v ∧ DueIs ps out ∧ Own 3 .i64 w' w.heap.size v out.length out ∧ Below w.heap.size w w'
  by_ : ∀ (A : Option Addr) (n cap : Nat) (ps : List Py) (now : Int) (w : World), ps.length = n → RdS pays w A ps → n ≤ 1000 →
    Calls Try.prog 14 #[.slice A n cap, .int .i64 now] w fun e w' => ∃ v out, e = .returned v ∧ DueIs ps out ∧ Own 3 .i64 w' w.heap.size v (byL ps now out).length (byL ps now out) ∧ Below w.heap.size w w'
  next : ∀ (A : Option Addr) (n cap : Nat) (ps : List Py) (w : World), ps.length = n → RdS pays w A ps → n ≤ 1000 →
    Calls Try.prog 15 #[.slice A n cap] w fun e w' => ∃ out, DueIs ps out ∧ e = .returned (.tuple #[.int .i64 (nextN ps out), .bool (nextB out)]) ∧ Below w.heap.size w w'

theorem Tils.of {ps : List Py} (h : ∀ (j : Nat) p, ps[j]? = some p → p.fits) : Tils ps := fun p hp => by
  obtain ⟨j, hj⟩ := List.getElem?_of_mem hp
  have h1 := (h j p hj).2.2.2.2.2.2.1
  unfold in64 at h1
  omega
theorem Tils.front {ps : List Py} (h : Tils ps) (m : Nat) : Tils (ps.take m) := fun p hp => h p (List.mem_of_mem_take hp)
theorem Tils.more {ps : List Py} {p : Py} (h : Tils ps) (hp : p.fits) : Tils (ps ++ [p]) := fun q hq => by
  rcases List.mem_append.1 hq with hq | hq
  · exact h q hq
  · simp at hq
    have h1 := hp.2.2.2.2.2.2.1
    unfold in64 at h1
    rw [hq]
    omega

def ex3 : List Py := [⟨0, 0, 0, 0, 0, 0, 5, 0⟩, ⟨0, 0, 0, 0, 0, 0, 3, 0⟩, ⟨0, 0, 0, 0, 0, 0, 5, 0⟩]
def ex2 : List Py := [⟨0, 0, 0, 0, 0, 0, 5, 0⟩, ⟨0, 0, 0, 0, 0, 0, 3, 0⟩]
theorem ex3_due : DueIs ex3 [1, 0, 2] where
  once := by decide
  order := by unfold InOrder; decide
  mem := fun a => by
    unfold isOpen
    constructor
    · intro h
      simp at h
      rcases h with rfl | rfl | rfl
      · exact ⟨1, by decide, rfl, rfl⟩
      · exact ⟨0, by decide, rfl, rfl⟩
      · exact ⟨2, by decide, rfl, rfl⟩
    · rintro ⟨k, hk, rfl, _⟩
      have hk : k < 3 := hk
      rcases (show k = 0 ∨ k = 1 ∨ k = 2 by omega) with rfl | rfl | rfl <;> decide
theorem ex2_due : DueIs ex2 [1, 0] where
  once := by decide
  order := by unfold InOrder; decide
  mem := fun a => by
    unfold isOpen
    constructor
    · intro h
      simp at h
      rcases h with rfl | rfl
      · exact ⟨1, by decide, rfl, rfl⟩
      · exact ⟨0, by decide, rfl, rfl⟩
    · rintro ⟨k, hk, rfl, _⟩
      have hk : k < 2 := hk
      rcases (show k = 0 ∨ k = 1 by omega) with rfl | rfl <;> decide

set_option maxRecDepth 100000 in
set_option maxHeartbeats 1000000 in
theorem dawake_ok (H : DueFns) (w : World) : Calls Try.prog 9 #[] w (BoolRes w true) := by
  have hr3 : RdS pays (w.alloc (.cells #[.int .i64 0, .int .i64 0, .int .i64 0, .int .i64 0, .int .i64 0, .int .i64 0, .int .i64 5, .int .i64 0, .int .i64 0, .int .i64 0, .int .i64 0, .int .i64 0, .int .i64 0, .int .i64 0, .int .i64 3, .int .i64 0, .int .i64 0, .int .i64 0, .int .i64 0, .int .i64 0, .int .i64 0, .int .i64 0, .int .i64 5, .int .i64 0] 33)) (some ⟨w.heap.size, 0, none⟩) ex3 :=
    (OwnS.lit (S := pays) w ex3 w.heap.size (by decide) (Nat.le_refl _) _ rfl).rd
  have HA := Lib.hid (H.all (some ⟨w.heap.size, 0, none⟩) 3 3 ex3 _ rfl hr3 (by omega) (by unfold Tils ex3; simp))
  have HN := Lib.hid (fun (W : World) (k : Nat) (hk : k = W.heap.size) => H.next (some ⟨k, 0, none⟩) 2 2 ex2 (W.alloc (.cells #[.int .i64 0, .int .i64 0, .int .i64 0, .int .i64 0, .int .i64 0, .int .i64 0, .int .i64 5, .int .i64 0, .int .i64 0, .int .i64 0, .int .i64 0, .int .i64 0, .int .i64 0, .int .i64 0, .int .i64 3, .int .i64 0] 33)) rfl (hk ▸ (OwnS.lit (S := pays) W ex2 W.heap.size (by decide) (Nat.le_refl _) _ rfl).rd) (by omega))
  have HB0 := Lib.hid ((Below.refl w.heap.size w).alloc (Nat.le_refl _) (.cells #[.int .i64 0, .int .i64 0, .int .i64 0, .int .i64 0, .int .i64 0, .int .i64 0, .int .i64 5, .int .i64 0, .int .i64 0, .int .i64 0, .int .i64 0, .int .i64 0, .int .i64 0, .int .i64 0, .int .i64 3, .int .i64 0, .int .i64 0, .int .i64 0, .int .i64 0, .int .i64 0, .int .i64 0, .int .i64 0, .int .i64 5, .int .i64 0] 33))
  clear hr3 H
  go_enter Try.func9, Try.ntmps9
  go_wp2_with fail
  refine HA.out.mono ?_
  rintro _ w1 ⟨v, out, rfl, hd, ho, hb1⟩
  obtain rfl := hd.same ex3_due
  obtain ⟨A, c, hv, _, _, hrd, _⟩ := ho.form
  rw [show ([1, 0, 2] : List Int).length = 3 from rfl] at hv hrd
  subst hv
  have HRD := Lib.hid hrd
  have HB1 := Lib.hid (HB0.out.trans (hb1.mono (by simp)))
  clear hd ho hb1 hrd HB0 HA
  go_wp2_with fail
  refine (HN.out _ _ rfl).mono ?_
  rintro _ w2 ⟨out, hd, rfl, hb2⟩
  obtain rfl := hd.same ex2_due
  have hrd2 := (HRD.out.below ((Below.refl _ _).alloc (Nat.le_refl _) _)).below hb2
  obtain ⟨ad, rfl, e0⟩ := hrd2.at_ (j := 0) (by omega)
  obtain ⟨_, q1, e1⟩ := hrd2.at_ (j := 1) (by omega)
  obtain rfl := Option.some.inj q1
  obtain ⟨_, q2, e2⟩ := hrd2.at_ (j := 2) (by omega)
  obtain rfl := Option.some.inj q2
  have HB2 := Lib.hid (((HB1.out.alloc HB1.out.size _)).trans (hb2.mono (by rw [alloc_size]; have := HB1.out.size; omega)))
  rw [show nextN ex2 [1, 0] = 3 from rfl, show nextB [1, 0] = true from rfl]
  simp at e0 e1 e2
  rw [show ad.add 0 = ad by unfold Addr.add; split <;> simp_all] at e0
  rw [show ad.add 1 = ⟨ad.block, ad.off + 1, none⟩ by simp [Addr.add]] at e1
  rw [show ad.add 2 = ⟨ad.block, ad.off + 2, none⟩ by simp [Addr.add]] at e2
  clear hd hb2 hrd2 q1 q2 HRD HN HB1
  go_wp2
  go_ret
  exact ⟨rfl, HB2.out⟩
end Go.Proofs.Ytdepidemciigkaa
