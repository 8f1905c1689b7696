/-
  The law's post by its contract: the same as Post tells.
-/
import Derived.Test.YtbneohglblkmeaaDoorLedPost
namespace Go.Proofs.YtbneohglblkmeaaDoor
open Go Go.RowKit
set_option linter.unusedVariables false

theorem RdA.cells {w : World} {ad : Addr} {zs : List Ac} (hr : RdA w (some ad) zs) (j : Nat) (v : Value) (hv : (acells zs)[j]? = some v) : w.cell? (ad.add j) = some v := by
  have hj : j < zs.length * 3 := by have := (List.getElem?_eq_some_iff.1 hv).1; rw [acells_len] at this; exact this
  obtain ⟨ad', he, hc⟩ := hr (by omega)
  injection he with he
  subst he
  have hz : zs[j / 3]? = some zs[j / 3] := List.getElem?_eq_getElem (by omega)
  obtain ⟨k0, k1, k2⟩ := acells_get hz
  have hat := hc (j / 3) _ hz
  have h3 : j % 3 = 0 ∨ j % 3 = 1 ∨ j % 3 = 2 := by omega
  rcases h3 with h3 | h3 | h3
  · have e : j / 3 * 3 = j := by omega
    rw [e, hv] at k0
    have := hat.c0
    rw [e, ← k0] at this
    exact this
  · have e : j / 3 * 3 + 1 = j := by omega
    rw [e, hv] at k1
    have := hat.c1
    rw [e, ← k1] at this
    exact this
  · have e : j / 3 * 3 + 2 = j := by omega
    rw [e, hv] at k2
    have := hat.c2
    rw [e, ← k2] at this
    exact this

set_option maxRecDepth 100000 in
/-- Accounts behind others. -/
theorem wpList_append_accs {ops : Array Oper} {rest : List Oper} {o : Oper} {a : Act} {Q : Exit → Act → World → Prop} (w : World) (hgd : o.guard = none) (s x : Operand)
    (ho : o.op = .call { callee := .builtin .append, args := #[s, x], argTypes := #[29, 29] })
    (base : Nat) (v : Value) (zs bs : List Ac) (hs : a.eval s = v) (hown : OwnA w base v zs) (ad : Addr) (m c : Nat) (hx : a.eval x = .slice (some ad) m c) (hm : bs.length = m) (hc : RdA w (some ad) bs) (hl : zs.length ≤ 1000000) (hml : m ≤ 1000000) (hbase : base ≤ w.heap.size)
    (h : ∀ v' w', OwnA w' base v' (zs ++ bs) → w.grownBy w' v.ownBlock → wpList Tryd.prog ops Q rest (a.put o.dst v') w') : wpList Tryd.prog ops Q (o :: rest) a w :=
  wpList_plain hgd fun _ hK => by
    obtain ⟨i0, hi, hz0, hz1, hz2⟩ := info_parts info_acc
    obtain ⟨v', w', hrun, h2, h3, _⟩ := run_append_own (P := Tryd.prog) w base 29 o.type 48 i0 _ 3 24 Tryd.underlying29 hi hz0 hz1 hz2 rfl (by omega) v zs.length (acells zs) hown ad m c (acells bs) (by rw [acells_len, hm])
      (fun j u hu => hc.cells j u hu) (acells_one _) (by simp only [maxLen]; omega) (by omega) hbase
    unfold Oper.wp execOp
    simp only [ho, resolve, invoke, builtin, Sem.run_bind, Sem.run_pure, Result.andThen_ok, List.map_toArray, List.map_cons, List.map_nil, hs, hx, hrun]
    refine hK _ _ (h v' w' ?_ h3)
    unfold OwnA
    rw [List.length_append, acells_append, hm]
    exact h2

/-- What the law's post hands back: accounts, and an error's number. -/
def LawRes (E : Int) (L : List Ac) (w : World) (e : Ending) (w' : World) : Prop :=
  ∃ v, e = .returned (.tuple #[v, .int .i64 E]) ∧ OwnA w' w.heap.size v L ∧ Below w.heap.size w w'
theorem lawRes_no {E F : Int} {L : List Ac} {w w' : World} (hE : E = F) (hL : L = []) (hb : Below w.heap.size w w') : LawRes E L w (.returned (.tuple #[.slice none 0 0, .int .i64 F])) w' := by
  subst hL hE
  exact ⟨.slice none 0 0, rfl, OwnA.nil, hb⟩

set_option maxRecDepth 100000 in
set_option maxHeartbeats 8000000 in
theorem lawpost_any (A B : Option Addr) (n m cap capb : Nat) (zs : List Ac) (es : List En) (w : World) (hl : zs.length = n) (hr : RdA w A zs) (hle : es.length = m) (hre : RdE w B es) (hn0 : 0 < n) (hn : n ≤ 1000000) (hm : m ≤ 9223372036854775807) :
    Calls Tryd.prog 12 #[.slice A n cap, .slice B m capb] w (LawRes (postE zs es) (postL zs es) w) := by
  obtain ⟨a0, rfl, hat0⟩ := hr.at_ (j := 0) (a := zs[0]) (List.getElem?_eq_getElem (by omega))
  clear hat0
  have HR := Lib.hid hr
  have HL := Lib.hid hl
  have HRE := Lib.hid hre
  have HLE := Lib.hid hle
  have HBAL := Lib.hid (balanced_any (some a0) B n m cap capb zs es w hl hr hle hre (by omega) hm)
  clear hr hl hre hle
  cases hb : balB zs es with
  | false =>
    rw [hb] at HBAL
    obtain ⟨h1, h2⟩ := led_no1 hb
    have H1 := Lib.hid h1
    have H2 := Lib.hid h2
    clear h1 h2 hb
    go_enter Tryd.func12, Tryd.ntmps12
    go_wp2_with (first
      | (go_at_call 22; refine HBAL.out.mono ?_; rintro e w1 ⟨rfl, hb1⟩))
    go_ret2
    exact lawRes_no H1.out H2.out hb1
  | true =>
    rw [hb] at HBAL
    have HB := Lib.hid hb
    obtain ⟨R, hR⟩ : ∃ R, postGo zs es = R := ⟨_, rfl⟩
    have HRES := Lib.hid hR
    clear hb hR
    go_enter Tryd.func12, Tryd.ntmps12
    go_wp2_with (first
      | (go_at_call 22; refine HBAL.out.mono ?_; rintro e w1 ⟨rfl, hb1⟩)
      | (at_builtin; refine wpList_append_accs _ rfl (.const (.slice none 0 0)) (.tmp 16) rfl w.heap.size (.slice none 0 0) [] zs rfl OwnA.nil a0 n cap rfl HL.out (HR.out.below hb1) (by simp) (by omega) hb1.size ?_; intro v2 w2 ho hgr))
    have hb2 : Below w.heap.size w w2 := Below.grown hb1 hgr hb1.size (fun j hj => by cases hj)
    rw [List.nil_append] at ho
    have hzl := HL.out
    obtain ⟨g, cap2, hv2, hgw, hg2, hnc2, hcm2⟩ := ho.open_ (by omega)
    rw [hzl] at hv2
    subst hv2
    have HO := Lib.hid ho
    have HB2 := Lib.hid hb2
    clear ho hb2 hgr hb1 HBAL hzl hg2
    go_wp2
    go_loopw [20] (fun i wr => ∃ (k : Nat) (ys : List Ac), k ≤ m ∧ i = .int .i64 (k : Int) ∧ OwnA wr w.heap.size (.slice (some ⟨g, 0, none⟩) n cap2) ys ∧ ys.length = n ∧ postGo ys (es.drop k) = R ∧ Below w.heap.size w wr) (fun i _ => m - (intOf i).toNat)
    case atStart => exact ⟨0, zs, Nat.zero_le _, rfl, HO.out, HL.out, by rw [List.drop_zero]; exact HRES.out, HB2.out⟩
    case round =>
      clear HO HB2
      obtain ⟨k, ys, hk, rfl, hown, hyl, hrest, hbel⟩ := hrel
      have hsz := hbel.size
      by_cases hlt : k < m
      · obtain ⟨⟨P, x⟩, he⟩ : ∃ e, es[k]? = some e := ⟨_, List.getElem?_eq_getElem (by rw [HLE.out]; exact hlt)⟩
        obtain ⟨ae, rfl, hae⟩ := (HRE.out.below hbel).at_ he
        obtain ⟨e0, e1⟩ := hae
        rw [add_next ae (k * 2) 1 (by omega)] at e1
        dsimp only at e0 e1
        obtain ⟨⟨hP0, hP1⟩, _⟩ := bal_in HB.out _ (List.mem_of_getElem? he)
        dsimp only at hP0 hP1
        rw [HL.out] at hP1
        obtain ⟨p, rfl⟩ : ∃ p : Nat, P = (p : Int) := ⟨P.toNat, by omega⟩
        have hpn : p < n := by omega
        obtain ⟨⟨c, b, l⟩, ha⟩ : ∃ a, ys[p]? = some a := ⟨_, List.getElem?_eq_getElem (by omega)⟩
        obtain ⟨_, d1, _⟩ := hown.at_ ha
        have hf := hown.unfrozen hyl.symm (p * 3 + 1)
        have hgs := World.block_lt_of_cell? _ _ d1
        have hgne : ¬ g = wr.heap.size := by dsimp only at hgs; omega
        dsimp only at d1 hgs
        have HREST := Lib.hid hrest
        have HYL := Lib.hid hyl
        by_cases hok : addOk b x
        · have HNX := Lib.hid ((postGo_yes he (putE_yes ha hok)).symm.trans hrest)
          have HADD := Lib.hid (fun W => add_okS b x W hok.1 hok.2.1 hok.2.2.1 hok.2.2.2.1 hok.2.2.2.2.1 hok.2.2.2.2.2)
          have HSETF := Lib.hid (fun j => ((((hown.alloc (.cells #[.int .i64 (p : Int), .int .i64 x] 33)).drewN j).set hyl.symm ha (b + x)).2.1))
          have HBEL := Lib.hid hbel
          clear hown hyl hrest hbel he ha hok
          go_wp2
          go_quiet (first | (go_at_call 24; exact quiet_same (HADD.out _)))
          go_wp2
          go_roundw
          case rel => exact ⟨k + 1, _, by omega, by go_num, HSETF.out _, by rw [List.length_set]; exact HYL.out, HNX.out, (below_drewN (HBEL.out.alloc hsz _) _).setCell (by simpa using hgw) _⟩
          case measure => simp [intOf]; omega
        · have hnone : R = none := by rw [← hrest]; exact postGo_no he (putE_no ha hok)
          obtain ⟨h1, h2⟩ := led_no2 HB.out (HRES.out.trans hnone)
          have H1 := Lib.hid h1
          have H2 := Lib.hid h2
          have HADD := Lib.hid (fun W => add_noS b x W hok)
          have HBEL := Lib.hid hbel
          clear hown hyl hrest hbel he ha hok h1 h2 hnone
          go_wp2
          go_quiet (first | (go_at_call 24; exact quiet_same (HADD.out _)))
          go_wp2
          go_ret2
          exact lawRes_no H1.out H2.out (below_drewN (HBEL.out.alloc hsz _) _)
      · obtain rfl : k = m := by omega
        rw [postGo_end (by rw [HLE.out]; exact Nat.le_refl _)] at hrest
        have HOWN := Lib.hid hown
        have HYL := Lib.hid hyl
        have HG := Lib.hid (HRES.out.trans hrest.symm)
        have HBEL := Lib.hid hbel
        obtain ⟨S, hS⟩ : ∃ S, shortB ys = S := ⟨_, rfl⟩
        have HS := Lib.hid hS
        clear hown hyl hrest hbel hlt hS
        go_wp2
        go_loopw [11] (fun i wq => ∃ j : Nat, 9 ≤ j ∧ j ≤ max n 9 ∧ i = .int .i64 (j : Int) ∧ shortGo (ys.drop j) = S ∧ OwnA wq w.heap.size (.slice (some ⟨g, 0, none⟩) n cap2) ys ∧ Below w.heap.size w wq) (fun i _ => n - (intOf i).toNat)
        case atStart => exact ⟨9, Nat.le_refl _, by omega, rfl, HS.out, HOWN.out, HBEL.out⟩
        case round =>
          obtain ⟨j, hj9, hjn, rfl, hrest, hown, hbel⟩ := hrel
          by_cases hlt : j < n
          · obtain ⟨⟨c, b, l⟩, ha⟩ : ∃ a, ys[j]? = some a := ⟨_, List.getElem?_eq_getElem (by rw [HYL.out]; exact hlt)⟩
            obtain ⟨_, d1, d2⟩ := hown.at_ ha
            rw [shortGo_at ha] at hrest
            dsimp only at d1 d2
            obtain ⟨f, hf⟩ : ∃ f, wrap64 (b - l) = f := ⟨_, rfl⟩
            have hsa : shortA ⟨c, b, l⟩ = decide (f < 0) := by rw [← hf]; rfl
            rw [hsa] at hrest
            have HOWN := Lib.hid hown
            have HBEL := Lib.hid hbel
            by_cases hneg : f < 0
            · rw [decide_eq_true hneg, Bool.true_or] at hrest
              obtain ⟨h1, h2⟩ := led_no3 HB.out HG.out (HS.out.trans hrest.symm)
              have H1 := Lib.hid h1
              have H2 := Lib.hid h2
              clear hown hbel ha hrest hsa h1 h2
              go_wp2
              go_quiet (fail)
              go_wp2
              go_ret2
              exact lawRes_no H1.out H2.out (below_drewN HBEL.out _)
            · rw [decide_eq_false hneg, Bool.false_or] at hrest
              have HREST := Lib.hid hrest
              clear hown hbel ha hrest hsa
              go_wp2
              go_quiet (fail)
              go_wp2
              go_roundw
              case rel => exact ⟨j + 1, by omega, by omega, by go_num, HREST.out, HOWN.out.drewN _, below_drewN HBEL.out _⟩
              case measure => simp [intOf]; omega
          · rw [shortGo_end (by rw [HYL.out]; omega)] at hrest
            obtain ⟨h1, h2⟩ := postE_of HB.out HG.out (HS.out.trans hrest.symm)
            have H1 := Lib.hid h1
            have H2 := Lib.hid h2
            have HOWN := Lib.hid hown
            have HBEL := Lib.hid hbel
            clear hown hbel hrest h1 h2
            go_wp2
            go_ret2
            rw [H1.out, H2.out]
            exact ⟨_, rfl, HOWN.out, HBEL.out⟩
end Go.Proofs.YtbneohglblkmeaaDoor
