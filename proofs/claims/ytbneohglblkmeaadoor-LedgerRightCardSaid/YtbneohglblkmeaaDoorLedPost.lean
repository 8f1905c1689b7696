/-
  ledger.Post by its contract.
-/
import Derived.Test.YtbneohglblkmeaaDoorLedHold
import Derived.Test.YtbneohglblkmeaaDoorEntBal
namespace Go.Proofs.YtbneohglblkmeaaDoor
open Go Go.RowKit
set_option linter.unusedVariables false

theorem led_no1 {zs : List Ac} {es : List En} (h : balB zs es = false) : postE zs es = 13 ∧ postL zs es = [] := by
  simp [postE, postL, h]
theorem led_no2 {zs : List Ac} {es : List En} (h : balB zs es = true) (hg : postGo zs es = none) : postE zs es = 4 ∧ postL zs es = [] := by
  simp [postE, postL, h, hg, postE1, postL1]
theorem led_no3 {zs ys : List Ac} {es : List En} (h : balB zs es = true) (hg : postGo zs es = some ys) (hs : shortB ys = true) : postE zs es = 3 ∧ postL zs es = [] := by
  simp [postE, postL, h, hg, postE1, postL1, hs]

set_option maxRecDepth 100000 in
set_option maxHeartbeats 8000000 in
theorem post_any (A B : Option Addr) (n m cap capb : Nat) (zs : List Ac) (es : List En) (w : World) (hl : zs.length = n) (hr : RdA w A zs) (hle : es.length = m) (hre : RdE w B es) (hn : n ≤ 5864062014805) (hm : m ≤ 9223372036854775807) (hnil : A = none → n = 0 ∧ cap = 0) :
    Calls Tryd.prog 11 #[.slice A n cap, .slice B m capb] w (LedRes (postE zs es) (postL zs es) w) := by
  have HR := Lib.hid hr
  have HL := Lib.hid hl
  have HRE := Lib.hid hre
  have HLE := Lib.hid hle
  have HNIL := Lib.hid hnil
  have HBAL := Lib.hid (balanced_any A B n m cap capb zs es w hl hr hle hre (by omega) hm)
  clear hr hl hre hle hnil
  cases hb : balB zs es with
  | false =>
    rw [hb] at HBAL
    obtain ⟨h1, h2⟩ := led_no1 hb
    have H1 := Lib.hid h1
    have H2 := Lib.hid h2
    clear h1 h2 hb
    go_enter Tryd.func11, Tryd.ntmps11
    go_wp2_with (first
      | (go_at_call 22; refine HBAL.out.mono ?_; rintro e w1 ⟨rfl, hb1⟩))
    go_ret2
    exact ledRes_no H1.out (by omega) H2.out hb1
  | true =>
    rw [hb] at HBAL
    have HB := Lib.hid hb
    obtain ⟨R, hR⟩ : ∃ R, postGo zs es = R := ⟨_, rfl⟩
    have HRES := Lib.hid hR
    clear hb hR
    go_enter Tryd.func11, Tryd.ntmps11
    go_wp2_with (first
      | (go_at_call 22; refine HBAL.out.mono ?_; rintro e w1 ⟨rfl, hb1⟩))
    have HB1 := Lib.hid hb1
    clear hb1 HBAL
    refine (clone_acc A n cap zs w1 HL.out (HR.out.below HB1.out) hn HNIL.out).mono ?_
    rintro e w2 ⟨rfl, ho, hb2⟩
    obtain ⟨g, hg⟩ : ∃ g, w1.heap.size = g := ⟨_, rfl⟩
    have hgw : w.heap.size ≤ g := by rw [← hg]; exact HB1.out.size
    rw [hg] at ho ⊢
    have HO : Hid (OwnA w2 w.heap.size (.slice (some ⟨g, 0, none⟩) n n) zs) := Lib.hid (ho.less hgw)
    have HB2 := Lib.hid (HB1.out.trans (hb2.mono HB1.out.size))
    clear ho hb2 hg
    go_wp2
    go_loopw [20] (fun i wr => ∃ (k : Nat) (ys : List Ac), k ≤ m ∧ i = .int .i64 (k : Int) ∧ OwnA wr w.heap.size (.slice (some ⟨g, 0, none⟩) n n) ys ∧ ys.length = n ∧ postGo ys (es.drop k) = R ∧ Below w.heap.size w wr) (fun i _ => m - (intOf i).toNat)
    case atStart => exact ⟨0, zs, Nat.zero_le _, rfl, HO.out, HL.out, by rw [List.drop_zero]; exact HRES.out, HB2.out⟩
    case round =>
      clear HO HB2
      obtain ⟨k, ys, hk, rfl, hown, hyl, hrest, hbel⟩ := hrel
      have hsz := hbel.size
      by_cases hlt : k < m
      · obtain ⟨⟨P, x⟩, he⟩ : ∃ e, es[k]? = some e := ⟨_, List.getElem?_eq_getElem (by rw [HLE.out]; exact hlt)⟩
        obtain ⟨ae, rfl, hae⟩ := (HRE.out.below hbel).at_ he
        obtain ⟨e0, e1⟩ := hae
        rw [add_next ae (k * 2) 1 (by omega)] at e1
        dsimp only at e0 e1
        obtain ⟨⟨hP0, hP1⟩, _⟩ := bal_in HB.out _ (List.mem_of_getElem? he)
        dsimp only at hP0 hP1
        rw [HL.out] at hP1
        obtain ⟨p, rfl⟩ : ∃ p : Nat, P = (p : Int) := ⟨P.toNat, by omega⟩
        have hpn : p < n := by omega
        obtain ⟨⟨c, b, l⟩, ha⟩ : ∃ a, ys[p]? = some a := ⟨_, List.getElem?_eq_getElem (by omega)⟩
        obtain ⟨_, d1, _⟩ := hown.at_ ha
        have hf := hown.unfrozen hyl.symm (p * 3 + 1)
        have hgs := World.block_lt_of_cell? _ _ d1
        have hgne : ¬ g = wr.heap.size := by dsimp only at hgs; omega
        dsimp only at d1 hgs
        have HREST := Lib.hid hrest
        have HYL := Lib.hid hyl
        by_cases hok : addOk b x
        · have HNX := Lib.hid ((postGo_yes he (putE_yes ha hok)).symm.trans hrest)
          have HADD := Lib.hid (fun W => add_okS b x W hok.1 hok.2.1 hok.2.2.1 hok.2.2.2.1 hok.2.2.2.2.1 hok.2.2.2.2.2)
          have HSET := Lib.hid ((((hown.alloc (.cells #[.int .i64 (p : Int), .int .i64 x] 33)).drewN 0).set hyl.symm ha (b + x)).2.1)
          have HSETF := Lib.hid (fun j => ((((hown.alloc (.cells #[.int .i64 (p : Int), .int .i64 x] 33)).drewN j).set hyl.symm ha (b + x)).2.1))
          have HBEL := Lib.hid hbel
          clear hown hyl hrest hbel he ha hok HSET
          go_wp2
          go_quiet (first | (go_at_call 24; exact quiet_same (HADD.out _)))
          go_wp2
          go_roundw
          case rel => exact ⟨k + 1, _, by omega, by go_num, HSETF.out _, by rw [List.length_set]; exact HYL.out, HNX.out, (below_drewN (HBEL.out.alloc hsz _) _).setCell (by simpa using hgw) _⟩
          case measure => simp [intOf]; omega
        · have hnone : R = none := by rw [← hrest]; exact postGo_no he (putE_no ha hok)
          obtain ⟨h1, h2⟩ := led_no2 HB.out (HRES.out.trans hnone)
          have H1 := Lib.hid h1
          have H2 := Lib.hid h2
          have HADD := Lib.hid (fun W => add_noS b x W hok)
          have HBEL := Lib.hid hbel
          clear hown hyl hrest hbel he ha hok h1 h2 hnone
          go_wp2
          go_quiet (first | (go_at_call 24; exact quiet_same (HADD.out _)))
          go_wp2
          go_ret2
          exact ledRes_no H1.out (by omega) H2.out (below_drewN (HBEL.out.alloc hsz _) _)
      · obtain rfl : k = m := by omega
        rw [postGo_end (by rw [HLE.out]; exact Nat.le_refl _)] at hrest
        have HS := Lib.hid (short_any (some ⟨g, 0, none⟩) n n ys wr hyl hown.rd (by omega))
        have HOWN := Lib.hid hown
        have HG := Lib.hid (HRES.out.trans hrest.symm)
        have HBEL := Lib.hid hbel
        clear hown hyl hrest hbel
        cases hs : shortB ys with
        | true =>
          rw [hs] at HS
          obtain ⟨h1, h2⟩ := led_no3 HB.out HG.out hs
          have H1 := Lib.hid h1
          have H2 := Lib.hid h2
          clear h1 h2 hs
          go_wp2_with (first | (go_at_call 25; refine HS.out.mono ?_; rintro e w3 ⟨rfl, hb3⟩))
          go_ret2
          exact ledRes_no H1.out (by omega) H2.out (HBEL.out.trans (hb3.mono HBEL.out.size))
        | false =>
          rw [hs] at HS
          obtain ⟨h1, h2⟩ := postE_of HB.out HG.out hs
          have H1 := Lib.hid h1
          have H2 := Lib.hid h2
          clear h1 h2 hs
          go_wp2_with (first | (go_at_call 25; refine HS.out.mono ?_; rintro e w3 ⟨rfl, hb3⟩))
          go_ret2
          refine ledRes_ok H1.out ?_ (HBEL.out.trans (hb3.mono HBEL.out.size))
          rw [H2.out]
          exact HOWN.out.below hb3
end Go.Proofs.YtbneohglblkmeaaDoor
