/-
  The statement ChartLimit by its walk.
-/
import Derived.Test.YtpcpocgagfpbhaaChartOfLaw
import Derived.Test.YtpcpocgagfpbhaaArgNat
namespace Go.Proofs.Ytpcpocgagfpbhaa
open Go Go.RowKit
set_option linter.unusedVariables false

def sliceLen : Value → Nat
  | .slice _ n _ => n
  | _ => 0
/-- A book's accounts and some more. -/
def more (zs : List Ac) (c : Int) (i : Nat) : List Ac := zs ++ List.replicate i ⟨c, 0, 0⟩
theorem more_len (zs : List Ac) (c : Int) (i : Nat) : (more zs c i).length = zs.length + i := by simp [more]
theorem more_next (zs : List Ac) (c : Int) (i : Nat) : more zs c i ++ [⟨c, 0, 0⟩] = more zs c (i + 1) := by
  simp [more, List.replicate_succ']
theorem more_ok {zs : List Ac} {j : Nat} (h : BookOk j zs) (hj : j ≤ 8) {c : Int} (c0 : 0 ≤ c) (c3 : c < 3) (i : Nat) : allOk 0 (more zs c i) = true := by
  rw [allOk_iff]
  intro k a ha
  have h1 := (allOk_iff zs 0).1 (h.ok hj)
  have hl := h.len
  by_cases hk : k < zs.length
  · rw [more, List.getElem?_append_left hk] at ha
    exact h1 k a ha
  · rw [more, List.getElem?_append_right (by omega)] at ha
    have h2 := List.mem_of_getElem? ha
    rw [List.mem_replicate] at h2
    obtain ⟨_, rfl⟩ := h2
    have h9 : ¬ 0 + k < 9 := by omega
    simp only [okAt, h9, if_false, Bool.and_eq_true, decide_eq_true_eq]
    exact ⟨⟨⟨c0, c3⟩, by omega, by omega⟩, by omega, by omega⟩
theorem allOk_take {ys : List Ac} (h : allOk 0 ys = true) (m : Nat) : allOk 0 (ys.take m) = true := by
  rw [allOk_iff] at h ⊢
  intro k a ha
  rw [List.getElem?_take] at ha
  split at ha
  · exact h k a ha
  · cases ha
theorem allOk_first {ys : List Ac} (h : allOk 0 ys = true) {a : Ac} (ha : ys[0]? = some a) (b : Ac) : allOk 0 (ys.set 0 b) = okAt 0 b := by
  cases ys with
  | nil => simp at ha
  | cons x r =>
    simp only [allOk, Bool.and_eq_true] at h
    simp only [List.set_cons_zero, allOk, h.2, Bool.and_true]

set_option maxRecDepth 100000 in
set_option maxHeartbeats 4000000 in
theorem chartLimit_walk (w : World) (v : Value) (hv : BookAt w v) (n0 : Int) (wn : (Lit.int .u8 n0).wf = true) :
    Calls Try.prog 8 #[v, .int .u8 n0] w fun e w' => e = .returned (.bool true) ∧ Below w.heap.size w w' := by
  obtain ⟨CA, HA, LA, cl, cc, hl, hc, ll, lc, cs, hs, ls, rfl, _⟩ := hv.form
  obtain ⟨m, rfl, hm⟩ := u8_nat wn
  obtain ⟨x, hx⟩ : ∃ x : Nat, (m : Int) % 8 = (x : Int) := ⟨m % 8, by omega⟩
  obtain ⟨c, hc3⟩ : ∃ c : Nat, (m : Int) % 3 = (c : Int) := ⟨m % 3, by omega⟩
  have hx7 : x ≤ 7 := by omega
  have hc2 : c ≤ 2 := by omega
  have HV := Lib.hid hv
  clear wn hv
  go_enter Try.func8, Try.ntmps8
  go_wp2_with fail
  have hb0 := (Below.refl w.heap.size w).alloc (Nat.le_refl _) (.cells #[.slice CA cl cc, .slice HA hl hc, .slice LA ll lc] 25)
  refine (awake_ok _).mono ?_
  rintro e w1 ⟨rfl, hb1⟩
  have k0 : w1.cell? ⟨w.heap.size, 0, none⟩ = some (.slice CA cl cc) := by rw [hb1.cell (by simp)]; simp
  have k1 : w1.cell? ⟨w.heap.size, 1, none⟩ = some (.slice HA hl hc) := by rw [hb1.cell (by simp)]; simp
  have k2 : w1.cell? ⟨w.heap.size, 2, none⟩ = some (.slice LA ll lc) := by rw [hb1.cell (by simp)]; simp
  have HB1 := Lib.hid (hb0.trans (hb1.mono (by simp)))
  have hz1 := HB1.out.size
  clear hb0 hb1
  go_wp2_with fail
  refine (book_any HV.out HB1.out).mono ?_
  rintro e w2 ⟨v2, zs, j, rfl, ho, hj, hbk, hb2⟩
  have HO := Lib.hid ho
  have HBK := Lib.hid hbk
  have HB2 := Lib.hid (HB1.out.trans (hb2.mono HB1.out.size))
  have hz2 := hb2.size
  have hzl := hbk.len
  have HZL := Lib.hid hzl
  obtain ⟨B, hB⟩ : ∃ B, w1.heap.size = B := ⟨_, rfl⟩
  rw [hB] at HO hz1 hz2
  clear ho hbk hb2 k0 k1 k2 hzl hB
  go_wp2
  go_loopw [5] (fun u wr => ∃ i : Nat, 9 + j + i ≤ 60 + x ∧ OwnA wr B u (more zs c i) ∧ B ≤ wr.heap.size ∧ Below w.heap.size w wr) (fun u _ => 68 - sliceLen u)
  case atStart => exact ⟨0, by omega, by simpa [more] using HO.out, hz2, HB2.out⟩
  case round =>
    obtain ⟨i, hi, hown, hBz, hbel⟩ := hrel
    obtain ⟨L, hL⟩ : ∃ L, 9 + j + i = L := ⟨_, rfl⟩
    have hlen : (more zs c i).length = L := by rw [more_len, HZL.out]; exact hL
    obtain ⟨g, cap, hu, hg1, hg2, hnc, hcm⟩ := hown.open_ (by omega)
    rw [hlen] at hu hnc
    subst hu
    have HOWN := Lib.hid hown
    have HBEL := Lib.hid hbel
    have HLEN := Lib.hid hlen
    have HL := Lib.hid hL
    rw [hL] at hi
    have hgw : w.heap.size ≤ g := by omega
    clear hown hbel hlen hL
    by_cases hlt : L < 60 + x
    · have hlt' : (L : Int) < 60 + (x : Int) := by omega
      go_wp2_with (first
        | (at_builtin
           refine wpList_append_acc _ rfl (.tmp 19) (.tmp 24) rfl B (.slice (some ⟨g, 0, none⟩) L cap) (more zs c i) rfl (HOWN.out.alloc _) ⟨wr.heap.size, 0, none⟩ 1 ⟨(c : Int), 0, 0⟩ rfl (acAt_new _ _ rfl _ _ _ _) (by rw [HLEN.out]; omega) (by simp; omega) ?_
           intro v3 w3 ho3 hg3))
      rw [more_next] at ho3
      obtain ⟨g', cap', hu, hg1', hg2', hnc', _⟩ := ho3.open_ (by rw [more_len]; have := HZL.out; omega)
      have hl3 : (more zs c (i + 1)).length = L + 1 := by rw [more_len, HZL.out]; have := HL.out; omega
      rw [hl3] at hu
      subst hu
      have hb3 : Below w.heap.size w w3 := Below.grown (HBEL.out.alloc (by omega) _) hg3 (by simp; omega) (fun k hk => by have hk' : some g = some k := hk; injection hk' with hk'; omega)
      have hz3 := hg3.size
      have hL := HL.out
      go_roundw
      case rel => first | exact ⟨i + 1, by omega, ho3, by simp at hz3; omega, hb3⟩ | ((repeat apply Exists.intro); exact ⟨⟨i + 1, by omega, ho3, by simp at hz3; omega, hb3⟩, rfl⟩)
      case measure => simp [sliceLen]; omega
    · have hlt' : ¬ (L : Int) < 60 + (x : Int) := by omega
      have hL60 : 60 ≤ L := by omega
      have hall := more_ok HBK.out hj (c := (c : Int)) (by omega) (by omega) i
      obtain ⟨t, ht⟩ : ∃ t, decide (L ≤ 64) = t := ⟨_, rfl⟩
      have hrt : rightB (more zs c i) = t := by
        rw [← ht]
        simp only [rightB, hall, Bool.and_true, HLEN.out]
        exact decide_eq_decide.2 ⟨fun h => h.2, fun h => ⟨by omega, h⟩⟩
      have HR := Lib.hid (right_any (some ⟨g, 0, none⟩) L cap (more zs c i) wr HLEN.out HOWN.out.rd (by omega))
      rw [hrt] at HR
      obtain ⟨y, hy, _, _⟩ := HBK.out.house 0 (by omega)
      have hy0 : (more zs c i)[0]? = some ⟨0, y, 0⟩ := by rw [more, List.getElem?_append_left (by rw [HZL.out]; omega)]; exact hy
      obtain ⟨ys, hys⟩ : ∃ ys, (more zs c i).take 60 = ys := ⟨_, rfl⟩
      have hy1 : ys[0]? = some ⟨0, y, 0⟩ := by rw [← hys, List.getElem?_take, if_pos (by omega)]; exact hy0
      have hyl : ys.length = 60 := by rw [← hys, List.length_take, HLEN.out]; omega
      have hya : allOk 0 ys = true := by rw [← hys]; exact allOk_take hall 60
      have hfr := HOWN.out.front HLEN.out.symm 60 hL60
      rw [hys] at hfr
      have hbad : rightB (ys.set 0 ⟨0, -1125899906842625, 0⟩) = false := by
        rw [rightB_mid (by rw [List.length_set, hyl]; omega), allOk_first hya hy1]; decide
      have hgood : rightB (ys.set 0 ⟨0, -1125899906842624, 0⟩) = true := by
        rw [rightB_mid (by rw [List.length_set, hyl]; omega), allOk_first hya hy1]; decide
      have hf60 : ∀ W : World, (Instr.sliceAt 28 (.slice (some ⟨g, 0, none⟩) L cap) none (some (.int .i64 60)) none).run Try.prog W = .ok (.slice (some ⟨g, 0, none⟩) 60 cap) W := fun W => run_frontAcc W _ L cap 60 (by omega)
      have HFR := Lib.hid hfr
      have HY1 := Lib.hid hy1
      have HYL := Lib.hid hyl
      have HBAD := Lib.hid hbad
      have HGOOD := Lib.hid hgood
      have HT := Lib.hid ht
      clear hfr hy1 hyl hya hys hy0 hy hbad hgood hall hrt ht
      have htd : decide ((L : Int) ≤ 64) = t := by rw [← HT.out]; exact decide_eq_decide.2 (by omega)
      have step : ∀ (w3 : World), Below wr.heap.size wr w3 → ∃ y1 : Value, w3.cell? ⟨g, 1, none⟩ = some y1 ∧ w3.frozen? ⟨g, 1, none⟩ = false ∧ OwnA (w3.setCell ⟨g, 1, none⟩ (.int .i64 (-1125899906842625))) B (.slice (some ⟨g, 0, none⟩) 60 cap) (ys.set 0 ⟨0, -1125899906842625, 0⟩) := fun w3 hb3 => by
        have h3 := HFR.out.below hb3
        exact ⟨_, (h3.at_ HY1.out).2.1, h3.unfrozen HYL.out.symm 1, (h3.set HYL.out.symm HY1.out _).2.1⟩
      have HSTEP := Lib.hid step
      clear step
      cases t with
      | true =>
        have h64 : (L : Int) ≤ 64 := of_decide_eq_true htd
        clear htd
        go_wp2_with fail
        refine HR.out.mono ?_
        rintro e w3 ⟨rfl, hb3⟩
        obtain ⟨y1, d1, f1, ho4⟩ := HSTEP.out w3 hb3
        have HO4 := Lib.hid ho4
        have HB3 := Lib.hid (HBEL.out.trans (hb3.mono HBEL.out.size))
        clear ho4 hb3
        go_wp2_with fail
        have hb4 : Below w.heap.size w (w3.setCell ⟨g, 1, none⟩ (.int .i64 (-1125899906842625))) := HB3.out.setCell (p := ⟨g, 1, none⟩) hgw _
        have HB4 := Lib.hid hb4
        clear hb4
        generalize (w3.setCell ⟨g, 1, none⟩ (.int .i64 (-1125899906842625))) = w4 at *
        have HR4 := Lib.hid (right_any (some ⟨g, 0, none⟩) 60 cap _ w4 (by rw [List.length_set]; exact HYL.out) HO4.out.rd (by omega))
        rw [HBAD.out] at HR4
        refine HR4.out.mono ?_
        rintro e w5 ⟨rfl, hb5⟩
        have ho5 := HO4.out.below hb5
        have hg5 : (ys.set 0 ⟨0, -1125899906842625, 0⟩)[0]? = some ⟨0, -1125899906842625, 0⟩ := List.getElem?_set_self (by rw [HYL.out]; omega)
        have e1 : w5.cell? ⟨g, 1, none⟩ = some (.int .i64 (-1125899906842625)) := (ho5.at_ hg5).2.1
        have e2 : w5.frozen? ⟨g, 1, none⟩ = false := ho5.unfrozen (by rw [List.length_set]; exact HYL.out.symm) 1
        have ho6 := (ho5.set (by rw [List.length_set]; exact HYL.out.symm) hg5 (-1125899906842624)).2.1
        rw [List.set_set] at ho6
        have HO6 : Hid (OwnA (w5.setCell ⟨g, 1, none⟩ (.int .i64 (-1125899906842624))) B (.slice (some ⟨g, 0, none⟩) 60 cap) (ys.set 0 ⟨0, -1125899906842624, 0⟩)) := Lib.hid ho6
        have HB5 := Lib.hid (HB4.out.trans (hb5.mono HB4.out.size))
        clear ho5 hg5 ho6 hb5 d1 f1
        go_wp2_with fail
        have HB6 := Lib.hid (HB5.out.setCell (p := ⟨g, 1, none⟩) hgw (.int .i64 (-1125899906842624)))
        generalize (w5.setCell ⟨g, 1, none⟩ (.int .i64 (-1125899906842624))) = w6 at *
        have HR6 := Lib.hid (right_any (some ⟨g, 0, none⟩) 60 cap _ w6 (by rw [List.length_set]; exact HYL.out) HO6.out.rd (by omega))
        rw [HGOOD.out] at HR6
        refine HR6.out.mono ?_
        rintro e w7 ⟨rfl, hb7⟩
        have HB7 := Lib.hid (HB6.out.trans (hb7.mono HB6.out.size))
        clear hb7
        go_wp2
        go_ret
        exact ⟨rfl, HB7.out⟩
      | false =>
        have h64 : ¬ (L : Int) ≤ 64 := of_decide_eq_false htd
        clear htd
        go_wp2_with fail
        refine HR.out.mono ?_
        rintro e w3 ⟨rfl, hb3⟩
        obtain ⟨y1, d1, f1, ho4⟩ := HSTEP.out w3 hb3
        have HO4 := Lib.hid ho4
        have HB3 := Lib.hid (HBEL.out.trans (hb3.mono HBEL.out.size))
        clear ho4 hb3
        go_wp2_with fail
        have hb4 : Below w.heap.size w (w3.setCell ⟨g, 1, none⟩ (.int .i64 (-1125899906842625))) := HB3.out.setCell (p := ⟨g, 1, none⟩) hgw _
        have HB4 := Lib.hid hb4
        clear hb4
        generalize (w3.setCell ⟨g, 1, none⟩ (.int .i64 (-1125899906842625))) = w4 at *
        have HR4 := Lib.hid (right_any (some ⟨g, 0, none⟩) 60 cap _ w4 (by rw [List.length_set]; exact HYL.out) HO4.out.rd (by omega))
        rw [HBAD.out] at HR4
        refine HR4.out.mono ?_
        rintro e w5 ⟨rfl, hb5⟩
        have ho5 := HO4.out.below hb5
        have hg5 : (ys.set 0 ⟨0, -1125899906842625, 0⟩)[0]? = some ⟨0, -1125899906842625, 0⟩ := List.getElem?_set_self (by rw [HYL.out]; omega)
        have e1 : w5.cell? ⟨g, 1, none⟩ = some (.int .i64 (-1125899906842625)) := (ho5.at_ hg5).2.1
        have e2 : w5.frozen? ⟨g, 1, none⟩ = false := ho5.unfrozen (by rw [List.length_set]; exact HYL.out.symm) 1
        have ho6 := (ho5.set (by rw [List.length_set]; exact HYL.out.symm) hg5 (-1125899906842624)).2.1
        rw [List.set_set] at ho6
        have HO6 : Hid (OwnA (w5.setCell ⟨g, 1, none⟩ (.int .i64 (-1125899906842624))) B (.slice (some ⟨g, 0, none⟩) 60 cap) (ys.set 0 ⟨0, -1125899906842624, 0⟩)) := Lib.hid ho6
        have HB5 := Lib.hid (HB4.out.trans (hb5.mono HB4.out.size))
        clear ho5 hg5 ho6 hb5 d1 f1
        go_wp2_with fail
        have HB6 := Lib.hid (HB5.out.setCell (p := ⟨g, 1, none⟩) hgw (.int .i64 (-1125899906842624)))
        generalize (w5.setCell ⟨g, 1, none⟩ (.int .i64 (-1125899906842624))) = w6 at *
        have HR6 := Lib.hid (right_any (some ⟨g, 0, none⟩) 60 cap _ w6 (by rw [List.length_set]; exact HYL.out) HO6.out.rd (by omega))
        rw [HGOOD.out] at HR6
        refine HR6.out.mono ?_
        rintro e w7 ⟨rfl, hb7⟩
        have HB7 := Lib.hid (HB6.out.trans (hb7.mono HB6.out.size))
        clear hb7
        go_wp2
        go_ret
        exact ⟨rfl, HB7.out⟩
end Go.Proofs.Ytpcpocgagfpbhaa
