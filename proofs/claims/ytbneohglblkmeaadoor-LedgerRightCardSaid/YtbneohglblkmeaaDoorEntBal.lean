/-
  entry.Balanced by its contract.
-/
import Derived.Test.YtbneohglblkmeaaDoorEntSmall
import Derived.Test.YtbneohglblkmeaaDoorArrSame
import Derived.RegionTactic
import Derived.BigRegion
namespace Go.Proofs.YtbneohglblkmeaaDoor
open Go Go.RowKit
set_option linter.unusedVariables false

theorem may_yes (n : Int) (w : World) (h : -1125899906842624 ≤ n ∧ n ≤ 1125899906842624) : Calls Tryd.prog 37 #[.int .i64 n] w fun e w' => e = .returned (.bool true) ∧ w = w' := by
  have := may_any n w
  rw [decide_eq_true h] at this
  exact this
theorem may_no (n : Int) (w : World) (h : ¬ (-1125899906842624 ≤ n ∧ n ≤ 1125899906842624)) : Calls Tryd.prog 37 #[.int .i64 n] w fun e w' => e = .returned (.bool false) ∧ w = w' := by
  have := may_any n w
  rw [decide_eq_false h] at this
  exact this
theorem entCur_no (c : Int) (w : World) (h : ¬ (0 ≤ c ∧ c < 3)) : Calls Tryd.prog 38 #[.int .i64 c] w fun e w' => e = .returned (.bool false) ∧ w = w' := by
  have := entCur_any c w
  rw [decide_eq_false h] at this
  exact this
theorem add_okS (a b : Int) (w : World) (h1 : -1125899906842624 ≤ a) (h2 : a ≤ 1125899906842624) (h3 : -1125899906842624 ≤ b) (h4 : b ≤ 1125899906842624) (h5 : -1125899906842624 ≤ a + b) (h6 : a + b ≤ 1125899906842624) :
    Calls Tryd.prog 24 #[.int .i64 a, .int .i64 b] w fun e w' => e = .returned (.tuple #[.int .i64 (a + b), .nilIface]) ∧ w = w' :=
  (add_ok a b w h1 h2 h3 h4 h5 h6).mono fun _ _ ⟨h, k⟩ => ⟨h, k.symm⟩
theorem add_noS (a b : Int) (w : World) (h : ¬ (-1125899906842624 ≤ a ∧ a ≤ 1125899906842624 ∧ -1125899906842624 ≤ b ∧ b ≤ 1125899906842624 ∧ -1125899906842624 ≤ a + b ∧ a + b ≤ 1125899906842624)) :
    Calls Tryd.prog 24 #[.int .i64 a, .int .i64 b] w fun e w' => e = .returned (.tuple #[.int .i64 0, eno 4]) ∧ w = w' :=
  (add_no a b w h).mono fun _ _ ⟨h, k⟩ => ⟨h, k.symm⟩

set_option maxRecDepth 100000 in
set_option maxHeartbeats 8000000 in
theorem balanced_any (A B : Option Addr) (n m cap capb : Nat) (zs : List Ac) (es : List En) (w : World) (hl : zs.length = n) (hr : RdA w A zs) (hle : es.length = m) (hre : RdE w B es) (hn : n ≤ 9223372036854775807) (hm : m ≤ 9223372036854775807) :
    Calls Tryd.prog 22 #[.slice A n cap, .slice B m capb] w fun e w' => e = .returned (.bool (balB zs es)) ∧ Below w.heap.size w w' := by
  have HR := Lib.hid hr
  have HL := Lib.hid hl
  have HRE := Lib.hid hre
  have HLE := Lib.hid hle
  obtain ⟨r, hres⟩ : ∃ r, balB zs es = r := ⟨_, rfl⟩
  rw [hres]
  have HRES : Hid (balGo zs ⟨0, 0, 0⟩ (es.drop 0) = r) := Lib.hid (by rw [List.drop_zero]; exact hres)
  clear hr hl hre hle hres
  have HEQ := Lib.hid arr_cmp
  go_enter Tryd.func22, Tryd.ntmps22
  go_wp2
  have h1 := heap_alloc_new w (.cells #[.int .i64 0, .int .i64 0, .int .i64 0] 58)
  have H1 := Lib.hid h1
  have HB := Lib.hid ((Below.refl w.heap.size w).alloc (Nat.le_refl _) (.cells #[.int .i64 0, .int .i64 0, .int .i64 0] 58))
  clear h1
  go_loopw [13] (fun i wr => ∃ (k : Nat) (s : S3), k ≤ m ∧ i = .int .i64 (k : Int) ∧ wr.heap[w.heap.size]? = some (.cells #[.int .i64 s.a, .int .i64 s.b, .int .i64 s.c] 58 (0, 0)) ∧
    isMay s.a ∧ isMay s.b ∧ isMay s.c ∧ balGo zs s (es.drop k) = r ∧ Below w.heap.size w wr) (fun i _ => m - (intOf i).toNat)
  case atStart => exact ⟨0, ⟨0, 0, 0⟩, Nat.zero_le _, rfl, H1.out, by dsimp only [isMay]; omega, by dsimp only [isMay]; omega, by dsimp only [isMay]; omega, HRES.out, HB.out⟩
  case round =>
    obtain ⟨k, ⟨sa, sb, sc⟩, hk, rfl, h1, ma, mb, mc, hrest, hbel⟩ := hrel
    dsimp only at h1 ma mb mc
    unfold isMay at ma mb mc
    obtain ⟨ma1, ma2⟩ := ma
    obtain ⟨mb1, mb2⟩ := mb
    obtain ⟨mc1, mc2⟩ := mc
    have H1 := Lib.hid h1
    have HREST := Lib.hid hrest
    have HBEL := Lib.hid hbel
    have hsz := hbel.size
    have hlt1 : w.heap.size < wr.heap.size := (Array.getElem?_eq_some_iff.1 h1).1
    have hne1 : ¬ w.heap.size = wr.heap.size := by omega
    clear h1 hrest hbel
    have hcc : ∀ j (u : Value), (#[.int .i64 sa, .int .i64 sb, .int .i64 sc] : Array Value)[j]? = some u → wr.cell? ⟨w.heap.size, j, none⟩ = some u := fun j u hu => by
      rw [cell_of_row wr w.heap.size j _ _ (0, 0) H1.out]; exact hu
    have hff : ∀ j, wr.frozen? ⟨w.heap.size, j, none⟩ = false := fun j => frozen_of_row wr w.heap.size j _ _ H1.out
    by_cases hlt : k < m
    · obtain ⟨⟨P, x⟩, he⟩ : ∃ e, es[k]? = some e := ⟨_, List.getElem?_eq_getElem (by rw [HLE.out]; exact hlt)⟩
      obtain ⟨ae, rfl, hae⟩ := (HRE.out.below HBEL.out).at_ he
      obtain ⟨e0, e1⟩ := hae
      rw [add_next ae (k * 2) 1 (by omega)] at e1
      dsimp only at e0 e1
      have HYES := Lib.hid (fun (hg : goes zs ⟨sa, sb, sc⟩ ⟨P, x⟩) => balGo_yes he hg)
      have HNO1 := Lib.hid (fun (hg : ¬ goes zs ⟨sa, sb, sc⟩ ⟨P, x⟩) => balGo_no he hg)
      clear he
      by_cases hP : 0 ≤ P ∧ P < (n : Int)
      rotate_left
      · obtain rfl : r = false := by
          rw [← HREST.out]
          refine HNO1.out fun h => ?_
          have := h.1
          dsimp only at this
          rw [curOf_out (by rw [HL.out]; exact hP)] at this
          omega
        clear hcc hff
        go_wp2_with (first | (go_at_call 29; refine (exists_no _ _ _ _ _ (by omega)).mono ?_; rintro e w1 ⟨rfl, rfl⟩))
        go_ret
        exact ⟨rfl, HBEL.out.alloc hsz _⟩
      obtain ⟨p, rfl⟩ : ∃ p : Nat, P = (p : Int) := ⟨P.toNat, by omega⟩
      obtain ⟨_, hp⟩ := hP
      obtain ⟨⟨c, ab, al⟩, ha⟩ : ∃ a, zs[p]? = some a := ⟨_, List.getElem?_eq_getElem (by rw [HL.out]; omega)⟩
      obtain ⟨ad, rfl, hat⟩ := (HR.out.below HBEL.out).at_ ha
      have c0 := hat.c0
      have HCO := Lib.hid (curOf_at ha)
      dsimp only at c0 HCO
      have hab1 := World.block_lt_of_cell? _ _ c0
      have hab2 : ad.block < wr.heap.size := by rw [add_block] at hab1; exact hab1
      clear hat ha
      by_cases hx : -1125899906842624 ≤ x ∧ x ≤ 1125899906842624
      rotate_left
      · obtain rfl : r = false := by
          rw [← HREST.out]
          refine HNO1.out fun h => hx h.2.1
        clear hcc hff
        go_wp2_with (first
          | (go_at_call 29; refine (exists_yes _ _ _ _ _ (by omega)).mono ?_; rintro e w1 ⟨rfl, rfl⟩)
          | (go_at_call 37; refine (may_no _ _ (by omega)).mono ?_; rintro e w1 ⟨rfl, rfl⟩))
        go_ret
        exact ⟨rfl, HBEL.out.alloc hsz _⟩
      obtain ⟨hx1, hx2⟩ := hx
      by_cases hin : 0 ≤ c ∧ c < 3
      rotate_left
      · obtain rfl : r = false := by
          rw [← HREST.out]
          refine HNO1.out fun h => hin ?_
          have := h.1
          dsimp only at this
          rw [HCO.out] at this
          exact this
        clear hcc hff
        go_wp2_with (first
          | (go_at_call 29; refine (exists_yes _ _ _ _ _ (by omega)).mono ?_; rintro e w1 ⟨rfl, rfl⟩)
          | (go_at_call 37; refine (may_yes _ _ (by omega)).mono ?_; rintro e w1 ⟨rfl, rfl⟩)
          | (go_at_call 38; refine (entCur_no _ _ (by omega)).mono ?_; rintro e w1 ⟨rfl, rfl⟩))
        go_ret
        exact ⟨rfl, HBEL.out.alloc hsz _⟩
      have h3 : c = 0 ∨ c = 1 ∨ c = 2 := by omega
      clear hin
      rcases h3 with rfl | rfl | rfl
      · by_cases hmay : -1125899906842624 ≤ x ∧ x ≤ 1125899906842624 ∧ isMay (sa + x)
        · obtain ⟨a1, a2, a3⟩ := hmay
          have HGY := Lib.hid (HYES.out ⟨⟨by simp only [HCO.out]; omega, by simp only [HCO.out]; omega⟩, ⟨a1, a2⟩, by simp only [HCO.out]; exact a3⟩)
          have hgo : gone zs ⟨sa, sb, sc⟩ ⟨(p : Int), x⟩ = ⟨sa + x, sb, sc⟩ := by simp [gone, HCO.out, S3.get, S3.put]
          rw [hgo] at HGY
          have HADD := Lib.hid (fun W => add_okS sa x W (by omega) (by omega) a1 a2 a3.1 a3.2)
          have d0 := hcc 0 _ rfl
          have f0 := hff 0
          obtain ⟨a31, a32⟩ := a3
          clear hcc hff hgo
          go_wp2_with (first
            | (go_at_call 29; refine (exists_yes _ _ _ _ _ (by omega)).mono ?_; rintro e w1 ⟨rfl, rfl⟩)
            | (go_at_call 37; refine (may_yes _ _ (by omega)).mono ?_; rintro e w1 ⟨rfl, rfl⟩)
            | (go_at_call 38; refine (entCur_yes _ _ (by omega)).mono ?_; rintro e w1 ⟨rfl, rfl⟩))
          go_quiet (first | (go_at_call 24; exact quiet_same (HADD.out _)))
          go_wp2
          go_roundw
          case rel =>
            refine ⟨k + 1, ⟨sa + x, sb, sc⟩, by omega, by go_num, ?_, by dsimp only [isMay]; omega, by dsimp only [isMay]; omega, by dsimp only [isMay]; omega, (HGY.out.symm.trans HREST.out), ?_⟩
            · exact heap_setCell_same _ w.heap.size 0 _ _ _ ((Below.heap_alloc _ _ _ (by omega)).trans H1.out)
            · exact ((below_drewN (HBEL.out.alloc hsz _) _).setCell (by simp) _)
          case measure => simp [intOf]; omega
        · have HNO := Lib.hid (HNO1.out (fun h => hmay (by have h2 := h.2; simp only [HCO.out] at h2; exact ⟨h2.1.1, h2.1.2, by simpa [S3.get] using h2.2⟩)))
          obtain rfl : r = false := by rw [← HREST.out]; exact HNO.out
          have HADD := Lib.hid (fun W => add_noS sa x W (fun h => hmay ⟨h.2.2.1, h.2.2.2.1, h.2.2.2.2⟩))
          have d0 := hcc 0 _ rfl
          clear hcc hff
          go_wp2_with (first
            | (go_at_call 29; refine (exists_yes _ _ _ _ _ (by omega)).mono ?_; rintro e w1 ⟨rfl, rfl⟩)
            | (go_at_call 37; refine (may_yes _ _ (by omega)).mono ?_; rintro e w1 ⟨rfl, rfl⟩)
            | (go_at_call 38; refine (entCur_yes _ _ (by omega)).mono ?_; rintro e w1 ⟨rfl, rfl⟩))
          go_quiet (first | (go_at_call 24; exact quiet_same (HADD.out _)))
          go_wp2
          go_ret
          exact ⟨rfl, below_drewN (HBEL.out.alloc hsz _) _⟩
      · by_cases hmay : -1125899906842624 ≤ x ∧ x ≤ 1125899906842624 ∧ isMay (sb + x)
        · obtain ⟨a1, a2, a3⟩ := hmay
          have HGY := Lib.hid (HYES.out ⟨⟨by simp only [HCO.out]; omega, by simp only [HCO.out]; omega⟩, ⟨a1, a2⟩, by simp only [HCO.out]; exact a3⟩)
          have hgo : gone zs ⟨sa, sb, sc⟩ ⟨(p : Int), x⟩ = ⟨sa, sb + x, sc⟩ := by simp [gone, HCO.out, S3.get, S3.put]
          rw [hgo] at HGY
          have HADD := Lib.hid (fun W => add_okS sb x W (by omega) (by omega) a1 a2 a3.1 a3.2)
          have d0 := hcc 1 _ rfl
          have f0 := hff 1
          obtain ⟨a31, a32⟩ := a3
          clear hcc hff hgo
          go_wp2_with (first
            | (go_at_call 29; refine (exists_yes _ _ _ _ _ (by omega)).mono ?_; rintro e w1 ⟨rfl, rfl⟩)
            | (go_at_call 37; refine (may_yes _ _ (by omega)).mono ?_; rintro e w1 ⟨rfl, rfl⟩)
            | (go_at_call 38; refine (entCur_yes _ _ (by omega)).mono ?_; rintro e w1 ⟨rfl, rfl⟩))
          go_quiet (first | (go_at_call 24; exact quiet_same (HADD.out _)))
          go_wp2
          go_roundw
          case rel =>
            refine ⟨k + 1, ⟨sa, sb + x, sc⟩, by omega, by go_num, ?_, by dsimp only [isMay]; omega, by dsimp only [isMay]; omega, by dsimp only [isMay]; omega, (HGY.out.symm.trans HREST.out), ?_⟩
            · exact heap_setCell_same _ w.heap.size 1 _ _ _ ((Below.heap_alloc _ _ _ (by omega)).trans H1.out)
            · exact ((below_drewN (HBEL.out.alloc hsz _) _).setCell (by simp) _)
          case measure => simp [intOf]; omega
        · have HNO := Lib.hid (HNO1.out (fun h => hmay (by have h2 := h.2; simp only [HCO.out] at h2; exact ⟨h2.1.1, h2.1.2, by simpa [S3.get] using h2.2⟩)))
          obtain rfl : r = false := by rw [← HREST.out]; exact HNO.out
          have HADD := Lib.hid (fun W => add_noS sb x W (fun h => hmay ⟨h.2.2.1, h.2.2.2.1, h.2.2.2.2⟩))
          have d0 := hcc 1 _ rfl
          clear hcc hff
          go_wp2_with (first
            | (go_at_call 29; refine (exists_yes _ _ _ _ _ (by omega)).mono ?_; rintro e w1 ⟨rfl, rfl⟩)
            | (go_at_call 37; refine (may_yes _ _ (by omega)).mono ?_; rintro e w1 ⟨rfl, rfl⟩)
            | (go_at_call 38; refine (entCur_yes _ _ (by omega)).mono ?_; rintro e w1 ⟨rfl, rfl⟩))
          go_quiet (first | (go_at_call 24; exact quiet_same (HADD.out _)))
          go_wp2
          go_ret
          exact ⟨rfl, below_drewN (HBEL.out.alloc hsz _) _⟩
      · by_cases hmay : -1125899906842624 ≤ x ∧ x ≤ 1125899906842624 ∧ isMay (sc + x)
        · obtain ⟨a1, a2, a3⟩ := hmay
          have HGY := Lib.hid (HYES.out ⟨⟨by simp only [HCO.out]; omega, by simp only [HCO.out]; omega⟩, ⟨a1, a2⟩, by simp only [HCO.out]; exact a3⟩)
          have hgo : gone zs ⟨sa, sb, sc⟩ ⟨(p : Int), x⟩ = ⟨sa, sb, sc + x⟩ := by simp [gone, HCO.out, S3.get, S3.put]
          rw [hgo] at HGY
          have HADD := Lib.hid (fun W => add_okS sc x W (by omega) (by omega) a1 a2 a3.1 a3.2)
          have d0 := hcc 2 _ rfl
          have f0 := hff 2
          obtain ⟨a31, a32⟩ := a3
          clear hcc hff hgo
          go_wp2_with (first
            | (go_at_call 29; refine (exists_yes _ _ _ _ _ (by omega)).mono ?_; rintro e w1 ⟨rfl, rfl⟩)
            | (go_at_call 37; refine (may_yes _ _ (by omega)).mono ?_; rintro e w1 ⟨rfl, rfl⟩)
            | (go_at_call 38; refine (entCur_yes _ _ (by omega)).mono ?_; rintro e w1 ⟨rfl, rfl⟩))
          go_quiet (first | (go_at_call 24; exact quiet_same (HADD.out _)))
          go_wp2
          go_roundw
          case rel =>
            refine ⟨k + 1, ⟨sa, sb, sc + x⟩, by omega, by go_num, ?_, by dsimp only [isMay]; omega, by dsimp only [isMay]; omega, by dsimp only [isMay]; omega, (HGY.out.symm.trans HREST.out), ?_⟩
            · exact heap_setCell_same _ w.heap.size 2 _ _ _ ((Below.heap_alloc _ _ _ (by omega)).trans H1.out)
            · exact ((below_drewN (HBEL.out.alloc hsz _) _).setCell (by simp) _)
          case measure => simp [intOf]; omega
        · have HNO := Lib.hid (HNO1.out (fun h => hmay (by have h2 := h.2; simp only [HCO.out] at h2; exact ⟨h2.1.1, h2.1.2, by simpa [S3.get] using h2.2⟩)))
          obtain rfl : r = false := by rw [← HREST.out]; exact HNO.out
          have HADD := Lib.hid (fun W => add_noS sc x W (fun h => hmay ⟨h.2.2.1, h.2.2.2.1, h.2.2.2.2⟩))
          have d0 := hcc 2 _ rfl
          clear hcc hff
          go_wp2_with (first
            | (go_at_call 29; refine (exists_yes _ _ _ _ _ (by omega)).mono ?_; rintro e w1 ⟨rfl, rfl⟩)
            | (go_at_call 37; refine (may_yes _ _ (by omega)).mono ?_; rintro e w1 ⟨rfl, rfl⟩)
            | (go_at_call 38; refine (entCur_yes _ _ (by omega)).mono ?_; rintro e w1 ⟨rfl, rfl⟩))
          go_quiet (first | (go_at_call 24; exact quiet_same (HADD.out _)))
          go_wp2
          go_ret
          exact ⟨rfl, below_drewN (HBEL.out.alloc hsz _) _⟩
    · obtain rfl : k = m := by omega
      have HR2 := HREST.out
      rw [balGo_end (by rw [HLE.out]; omega)] at HR2
      dsimp only at HR2
      have g0 := hcc 0 _ rfl
      have g1 := hcc 1 _ rfl
      have g2 := hcc 2 _ rfl
      have hq := HEQ.out sa sb sc
      rw [HR2] at hq
      clear hcc hff HR2
      go_wp2
      go_ret
      exact ⟨rfl, HBEL.out⟩
end Go.Proofs.YtbneohglblkmeaaDoor
