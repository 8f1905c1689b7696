/-
  keys.Tell by its contract.
-/
import Derived.Test.YtjphkpohcgkcmaaGreatDoorKeyFind
import Derived.Test.YtjphkpohcgkcmaaGreatDoorKeyClone
import Derived.Test.YtjphkpohcgkcmaaGreatDoorRq7
namespace Go.Proofs.YtjphkpohcgkcmaaGreatDoor
open Go Go.RowKit
set_option linter.unusedVariables false

theorem tell_none {ks : List Kn} {key : Int} (e x : Int) (h : findN ks key = none) : tellE ks key = 2 ∧ tellL ks key e x = [] := by simp [tellE, tellL, h]
theorem tell_told {ks : List Kn} {key : Int} {i : Nat} {a : Kn} (e x : Int) (h : findN ks key = some i) (ha : ks[i]? = some a) (ht : a.told = true) : tellE ks key = 6 ∧ tellL ks key e x = [] := by
  simp [tellE, tellL, h, knAt_of ha, ht]
theorem tell_ok {ks : List Kn} {key : Int} {i : Nat} {a : Kn} (e x : Int) (h : findN ks key = some i) (ha : ks[i]? = some a) (ht : a.told = false) : tellE ks key = 0 ∧ tellL ks key e x = ks.set i ⟨a.rq, e, x, true⟩ := by
  simp [tellE, tellL, h, knAt_of ha, ht]

/-- A reply laid into an element, and that it was told. -/
theorem kn_put {w : World} {base g n cap i : Nat} {ks : List Kn} {a : Kn} (h : OwnS known w base (.slice (some ⟨g, 0, none⟩) n cap) ks) (hn : n = ks.length) (ha : ks[i]? = some a) (e x : Int) :
    OwnS known (((w.setCell ⟨g, i * 10 + 7, none⟩ (.int .i64 e)).setCell ⟨g, i * 10 + 8, none⟩ (.int .i64 x)).setCell ⟨g, i * 10 + 9, none⟩ (.bool true)) base (.slice (some ⟨g, 0, none⟩) n cap) (ks.set i ⟨a.rq, e, x, true⟩) := by
  have hl := (List.getElem?_eq_some_iff.1 ha).1
  obtain ⟨rq, er, id, told⟩ := a
  have h1 := h.set hn ha 7 (.int .i64 e) ⟨rq, e, id, told⟩ (show 7 < 10 by omega) rfl
  have a1 : (ks.set i ⟨rq, e, id, told⟩)[i]? = some ⟨rq, e, id, told⟩ := List.getElem?_set_self hl
  have h2 := h1.set (by rw [List.length_set]; exact hn) a1 8 (.int .i64 x) ⟨rq, e, x, told⟩ (show 8 < 10 by omega) rfl
  rw [List.set_set] at h2
  have a2 : (ks.set i ⟨rq, e, x, told⟩)[i]? = some ⟨rq, e, x, told⟩ := List.getElem?_set_self hl
  have h3 := h2.set (by rw [List.length_set]; exact hn) a2 9 (.bool true) ⟨rq, e, x, true⟩ (show 9 < 10 by omega) rfl
  rw [List.set_set] at h3
  exact h3

set_option maxRecDepth 100000 in
set_option maxHeartbeats 1000000 in
theorem ktell_any (A : Option Addr) (n cap : Nat) (ks : List Kn) (key e x : Int) (w : World) (hl : ks.length = n) (hr : RdS known w A ks) (hn : n ≤ 1000000000000) (hnil : A = none → n = 0 ∧ cap = 0) :
    Calls Tryz.prog 38 #[.slice A n cap, .int .i64 key, .agg #[.int .i64 e, .int .i64 x]] w (KeyRes (tellE ks key) (tellL ks key e x) w) := by
  obtain ⟨E, hE⟩ : ∃ E, tellE ks key = E := ⟨_, rfl⟩
  obtain ⟨L, hL⟩ : ∃ L, tellL ks key e x = L := ⟨_, rfl⟩
  rw [hE, hL]
  have HF := Lib.hid (fun W (h : RdS known W A ks) => find_any A n cap ks key W hl h (by omega))
  have HC := Lib.hid (fun W (h : RdS known W A ks) => kclone_any A n cap n ks W hl h (Nat.le_refl _) hn hnil)
  have HR := Lib.hid hr
  have HZ := Lib.hid (Rq2.new w 50 e x)
  have HB0 := Lib.hid ((Below.refl w.heap.size w).alloc (Nat.le_refl _) (.cells #[.int .i64 e, .int .i64 x] 50))
  have HL := Lib.hid hl
  obtain ⟨q, hq⟩ : ∃ q, findN ks key = q := ⟨_, rfl⟩
  rw [hq] at HF
  cases q with
  | none =>
    obtain ⟨h1, h2⟩ := tell_none e x hq
    obtain rfl : E = 2 := hE.symm.trans h1
    obtain rfl : L = [] := hL.symm.trans h2
    clear hl hr hnil hE hL hq h1 h2 HC
    rw [show fi none = -1 from rfl] at HF
    go_enter Tryz.func38, Tryz.ntmps38
    go_wp2_with fail
    refine (HF.out _ (HR.out.alloc _)).mono ?_
    rintro _ w2 ⟨rfl, hb2⟩
    have HB2 := Lib.hid (HB0.out.trans (hb2.mono (by simp)))
    clear hb2
    go_wp2
    go_ret2
    exact keyRes_no rfl (by omega) rfl HB2.out
  | some i =>
    rw [show fi (some i) = (i : Int) from rfl] at HF
    obtain ⟨a, ha, _⟩ := find_get hq
    have hi : i < n := by rw [← hl]; exact find_lt hq
    obtain ⟨told, htold⟩ : ∃ t, a.told = t := ⟨_, rfl⟩
    have HA := Lib.hid ha
    have HT := Lib.hid htold
    cases told with
    | true =>
      obtain ⟨h1, h2⟩ := tell_told e x hq ha htold
      obtain rfl : E = 6 := hE.symm.trans h1
      obtain rfl : L = [] := hL.symm.trans h2
      clear hl hr hnil hE hL hq h1 h2 HC ha htold
      go_enter Tryz.func38, Tryz.ntmps38
      go_wp2_with fail
      refine (HF.out _ (HR.out.alloc _)).mono ?_
      rintro _ w2 ⟨rfl, hb2⟩
      have HB2 := Lib.hid (HB0.out.trans (hb2.mono (by simp)))
      obtain ⟨ad, rfl, hat⟩ := ((HR.out.alloc _).below hb2).at_ HA.out
      obtain ⟨_, _, _, _, _, _, _, _, _, c9⟩ := kn_cells hat
      rw [HT.out] at c9
      clear hb2 hat
      go_wp2
      go_ret2
      exact keyRes_no rfl (by omega) rfl HB2.out
    | false =>
      obtain ⟨h1, h2⟩ := tell_ok e x hq ha htold
      obtain rfl : E = 0 := hE.symm.trans h1
      obtain rfl : L = _ := hL.symm.trans h2
      clear hl hr hnil hE hL hq h1 h2 ha htold
      go_enter Tryz.func38, Tryz.ntmps38
      go_wp2_with fail
      refine (HF.out _ (HR.out.alloc _)).mono ?_
      rintro _ w2 ⟨rfl, hb2⟩
      have hz2 : w.heap.size < w2.heap.size := by have := hb2.size; simp at this; omega
      have HB2 := Lib.hid (HB0.out.trans (hb2.mono (by simp)))
      have HZ2 := Lib.hid (HZ.out.below hb2 (by simp))
      have HR2 := Lib.hid ((HR.out.alloc _).below hb2)
      obtain ⟨ad, had, hat⟩ := HR2.out.at_ HA.out
      obtain ⟨_, _, _, _, _, _, _, _, _, c9⟩ := kn_cells hat
      rw [HT.out] at c9
      have hc9 : w2.cell? ⟨(ad.add (i * 10)).block, (ad.add (i * 10)).off + 9, none⟩ = some (.bool false) := c9
      clear hb2 hat c9
      subst had
      go_wp2_with fail
      refine (HC.out _ HR2.out).mono ?_
      rintro _ w3 ⟨g, rfl, hg, ho3, hb3⟩
      have HB3 := Lib.hid (HB2.out.trans (hb3.mono HB2.out.size))
      have HZ3 := Lib.hid (HZ2.out.below hb3 hz2)
      have HO3 : Hid (OwnS known w3 w.heap.size (.slice (some ⟨g, 0, none⟩) n n) ks) := Lib.hid (ho3.less (Nat.le_of_lt hz2))
      have hzg : w.heap.size < g := Nat.lt_of_lt_of_le hz2 hg
      obtain ⟨z0, z1⟩ := HZ3.out.cells
      have d7 := HO3.out.at_ HA.out 7 _ rfl
      have d8 := HO3.out.at_ HA.out 8 _ rfl
      have d9 := HO3.out.at_ HA.out 9 _ rfl
      rw [show known.size = 10 from rfl] at d7 d8 d9
      have f7 := HO3.out.unfrozen HL.out.symm (i * 10 + 7)
      have f8 := HO3.out.unfrozen HL.out.symm (i * 10 + 8)
      have f9 := HO3.out.unfrozen HL.out.symm (i * 10 + 9)
      have HP := Lib.hid (kn_put HO3.out HL.out.symm HA.out e x)
      clear ho3 hb3 hc9
      go_wp2
      go_ret2
      exact keyRes_ok rfl HP.out (((HB3.out.setCell (p := ⟨g, i * 10 + 7, none⟩) (Nat.le_of_lt hzg) _).setCell (p := ⟨g, i * 10 + 8, none⟩) (Nat.le_of_lt hzg) _).setCell (p := ⟨g, i * 10 + 9, none⟩) (Nat.le_of_lt hzg) _)
end Go.Proofs.YtjphkpohcgkcmaaGreatDoor
