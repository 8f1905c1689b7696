/-
  The statement EntryMoves by its walk.
-/
import Derived.Test.YtpgjifbeckmieaaEntAwake
import Derived.Test.YtpgjifbeckmieaaBookAny
import Derived.Test.YtpgjifbeckmieaaArgNat
import Derived.Test.YtpgjifbeckmieaaAfter
import Derived.Test.YtpgjifbeckmieaaEntLawBal
namespace Go.Proofs.Ytpgjifbeckmieaa
open Go Go.RowKit
set_option linter.unusedVariables false

/-- What entries come to for an account. -/
def asum (j : Int) : List En → Int
  | [] => 0
  | e :: r => (if e.acct = j then e.amt else 0) + asum j r
theorem asum_snoc (j : Int) (e : En) : ∀ x : List En, asum j (x ++ [e]) = asum j x + (if e.acct = j then e.amt else 0)
  | [] => by simp [asum]
  | a :: r => by simp only [List.cons_append, asum, asum_snoc j e r]; omega
theorem asum_take {es : List En} {k : Nat} {e : En} (h : es[k]? = some e) (j : Int) : asum j (es.take (k + 1)) = if j = e.acct then asum e.acct (es.take k) + e.amt else asum j (es.take k) := by
  obtain ⟨hk, rfl⟩ := List.getElem?_eq_some_iff.1 h
  rw [List.take_succ_eq_append_getElem hk, asum_snoc]
  by_cases hj : j = es[k].acct
  · rw [if_pos hj, if_pos hj.symm, hj]
  · rw [if_neg hj, if_neg (Ne.symm hj)]; omega
theorem asum_small (j : Int) : ∀ es : List En, (∀ e ∈ es, -20000000 ≤ e.amt ∧ e.amt ≤ 20000000) → -(es.length * 20000000 : Int) ≤ asum j es ∧ asum j es ≤ es.length * 20000000
  | [], _ => by simp [asum]
  | e :: r, h => by
    have h1 := asum_small j r fun x hx => h x (by simp [hx])
    have h2 := h e (by simp)
    simp only [asum, List.length_cons]
    push_cast
    split <;> omega
theorem asum_four (j : Int) {es : List En} {k : Nat} (hl : es.length ≤ 4) (h : ∀ e ∈ es, -20000000 ≤ e.amt ∧ e.amt ≤ 20000000) : -100000000 ≤ asum j (es.take k) ∧ asum j (es.take k) ≤ 100000000 := by
  have h1 := asum_small j (es.take k) fun e he => h e (List.mem_of_mem_take he)
  have h2 : ((es.take k).length : Int) ≤ 4 := by rw [List.length_take]; omega
  omega
/-- What a move takes, and gives. -/
theorem move_asum {zs : List Ac} (hz : ∀ j, j < 9 → ∃ b : Int, zs[j]? = some ⟨(j : Int) / 3, b, 0⟩) (hcu : Curs zs) {f t x : Int} (h : moveE zs f t x = 0) :
    (curOf zs f = curOf zs t ∧ asum t (moveL zs f t x) = x ∧ asum f (moveL zs f t x) = -x) ∨ (curOf zs f ≠ curOf zs t ∧ asum f (moveL zs f t x) = -x) ∨ (curOf zs f ≠ curOf zs t ∧ exch (curOf zs f) = f ∧ asum f (moveL zs f t x) = 0) := by
  obtain ⟨hf, ht, hft, _⟩ := moveE_ok h
  have ha := curOf_in hcu hf
  have hb := curOf_in hcu ht
  unfold moveL
  rw [if_pos h]
  unfold moveOk
  by_cases hab : curOf zs f = curOf zs t
  · refine .inl ⟨hab, ?_, ?_⟩
    · rw [if_pos hab]
      simp only [asum, hft, if_false, if_true]
      omega
    · rw [if_pos hab]
      simp only [asum, Ne.symm hft, if_false, if_true]
      omega
  · have h1 : exch (curOf zs t) ≠ f := fun e => hab (by rw [← curOf_exch hz _ hb, e])
    rw [if_neg hab]
    by_cases hef : exch (curOf zs f) = f
    · refine .inr (.inr ⟨hab, hef, ?_⟩)
      simp only [asum, hef, h1, Ne.symm hft, if_false, if_true]
      omega
    · refine .inr (.inl ⟨hab, ?_⟩)
      simp only [asum, hef, h1, Ne.symm hft, if_false, if_true]
      omega

set_option maxRecDepth 100000 in
set_option maxHeartbeats 8000000 in
theorem entryMoves_walk (w : World) (v : Value) (hv : BookAt w v) (F : Int) (wF : (Lit.int .u8 F).wf = true) (T : Int) (wT : (Lit.int .u8 T).wf = true) (X : Int) (wX : (Lit.int .u16 X).wf = true) :
    Calls Try.prog 4 #[v, .int .u8 F, .int .u8 T, .int .u16 X] w fun e w' => e = .returned (.bool true) ∧ Below w.heap.size w w' := by
  obtain ⟨CA, HA, LA, cl, cc, hl, hc, ll, lc, cs, hs, ls, rfl, _⟩ := hv.form
  obtain ⟨F, rfl, hF⟩ := u8_nat wF
  obtain ⟨T, rfl, hT⟩ := u8_nat wT
  obtain ⟨X, rfl, hX⟩ := u16_nat wX
  have HV := Lib.hid hv
  have hmm := @run_makeMap Try.prog
  clear hv wF wT wX
  go_enter Try.func4, Try.ntmps4
  go_wp2_with fail
  have hb0 := (Below.refl w.heap.size w).alloc (Nat.le_refl _) (.cells #[.slice CA cl cc, .slice HA hl hc, .slice LA ll lc] 25)
  refine (awake_ok _).mono ?_
  rintro e w1 ⟨rfl, hb1⟩
  have k0 : w1.cell? ⟨w.heap.size, 0, none⟩ = some (.slice CA cl cc) := by rw [hb1.cell (by simp)]; simp
  have k1 : w1.cell? ⟨w.heap.size, 1, none⟩ = some (.slice HA hl hc) := by rw [hb1.cell (by simp)]; simp
  have k2 : w1.cell? ⟨w.heap.size, 2, none⟩ = some (.slice LA ll lc) := by rw [hb1.cell (by simp)]; simp
  have HB1 := Lib.hid (hb0.trans (hb1.mono (by simp)))
  clear hb0 hb1
  go_wp2_with fail
  refine (book_any HV.out HB1.out).mono ?_
  rintro e w2 ⟨v2, zs, j, rfl, ho, hj, hbk, hb2⟩
  have hzl := hbk.len
  obtain ⟨n, hn⟩ : ∃ n, zs.length = n := ⟨_, rfl⟩
  obtain ⟨g, cap, hv2, hg1, hg2, hnc, hcm⟩ := ho.open_ (by omega)
  rw [hn] at hv2
  subst hv2
  have hn17 : n ≤ 17 := by omega
  have hn9 : 9 ≤ n := by omega
  obtain ⟨f, hf⟩ : ∃ f : Nat, F % n = f := ⟨_, rfl⟩
  obtain ⟨t, ht⟩ : ∃ t : Nat, T % n = t := ⟨_, rfl⟩
  have hfn : f < n := by rw [← hf]; exact Nat.mod_lt _ (by omega)
  have htn : t < n := by rw [← ht]; exact Nat.mod_lt _ (by omega)
  have hf1 : (F : Int) % (n : Int) = (f : Int) := by rw [← hf]; rfl
  have ht1 : (T : Int) % (n : Int) = (t : Int) := by rw [← ht]; rfl
  have hf2 : (F : Int).tmod (n : Int) = (f : Int) := by rw [Int.tmod_eq_emod_of_nonneg (by omega)]; exact hf1
  have ht2 : (T : Int).tmod (n : Int) = (t : Int) := by rw [Int.tmod_eq_emod_of_nonneg (by omega)]; exact ht1
  have HCU := Lib.hid (Curs.of_book hbk)
  have HZ := Lib.hid hbk.house_
  obtain ⟨⟨fc, fb, fl⟩, hfa⟩ : ∃ a, zs[f]? = some a := ⟨_, List.getElem?_eq_getElem (by omega)⟩
  obtain ⟨⟨tc, tb, tl⟩, hta⟩ : ∃ a, zs[t]? = some a := ⟨_, List.getElem?_eq_getElem (by omega)⟩
  have hcf := curOf_at hfa
  have hct := curOf_at hta
  have hfc := HCU.out _ _ hfa
  dsimp only at hcf hct hfc
  obtain ⟨x0, x1, x2⟩ := ho.at_ hfa
  obtain ⟨y0, y1, y2⟩ := ho.at_ hta
  dsimp only at x0 y0
  have X0 := Lib.hid x0
  have Y0 := Lib.hid y0
  have HCF := Lib.hid hcf
  have HCT := Lib.hid hct
  have HM := Lib.hid (fun W (hbw : Below w2.heap.size w2 W) => move_any (some ⟨g, 0, none⟩) n cap zs (f : Int) (t : Int) (X : Int) W hn (ho.below hbw).rd (Curs.of_book hbk) (by omega))
  have HB2 := Lib.hid (HB1.out.trans (hb2.mono HB1.out.size))
  have HN := Lib.hid hn
  have HO := Lib.hid ho
  have hn0 : ¬ (n : Int) = 0 := by omega
  clear ho hbk hb2 hn hzl k0 k1 k2 hj hnc hcm hg1 hf ht hfa hta x1 x2 y1 y2 hcf hct x0 y0
  have H2 := Lib.hid (Below.refl w2.heap.size w2)
  go_wp2
  go_quiet (fail)
  go_wp2_with fail
  refine (HM.out _ (below_drewN H2.out _)).mono ?_
  rintro e w3 ⟨v3, rfl, ho3, hb3⟩
  obtain ⟨E, hE⟩ : ∃ E, moveE zs (f : Int) (t : Int) (X : Int) = E := ⟨_, rfl⟩
  have x0 : w3.cell? ⟨g, f * 3, none⟩ = some (.int .i64 fc) := by rw [hb3.cell (p := ⟨g, f * 3, none⟩) (by simpa using hg2)]; exact X0.out
  have y0 : w3.cell? ⟨g, t * 3, none⟩ = some (.int .i64 tc) := by rw [hb3.cell (p := ⟨g, t * 3, none⟩) (by simpa using hg2)]; exact Y0.out
  have HB23 := Lib.hid ((below_drewN (Below.refl w2.heap.size w2) _).trans (hb3.mono (by simp)))
  have HB3 := Lib.hid (HB2.out.trans (HB23.out.mono HB2.out.size))
  have hgz : g < w3.heap.size := World.block_lt_of_cell? _ _ x0
  clear HM hb3
  by_cases hE0 : E = 0
  · rw [hE, hE0, errV, if_pos rfl]
    have hE1 := hE.trans hE0
    have hbal := move_bal HZ.out HCU.out hE1 (by omega)
    have htame := move_tame HZ.out HCU.out hE1 (by omega)
    have hlen := moveL_len zs (f : Int) (t : Int) (X : Int)
    have hway := move_asum HZ.out HCU.out hE1
    rw [HCF.out, HCT.out] at hway
    obtain ⟨es, hes⟩ : ∃ es, moveL zs (f : Int) (t : Int) (X : Int) = es := ⟨_, rfl⟩
    rw [hes] at ho3 hbal htame hlen hway
    have hsm : ∀ e ∈ es, -20000000 ≤ e.amt ∧ e.amt ≤ 20000000 := fun e he => (htame e he).2
    have HSM := Lib.hid (fun j k => asum_four j (k := k) hlen hsm)
    obtain ⟨L, hL⟩ : ∃ L, es.length = L := ⟨_, rfl⟩
    rw [hL] at hlen
    obtain ⟨A3, cap3, rfl, hrd3, hc3, hcm3, hnil3⟩ := ho3.form
    rw [hL]
    have HL := Lib.hid hL
    have HR3 := Lib.hid hrd3
    have HBAL := Lib.hid hbal
    have HWAY := Lib.hid hway
    have hinn : ∀ e ∈ es, 0 ≤ e.acct ∧ e.acct < 64 := fun e he => by
      have h := (htame e he).1
      refine Decidable.byContradiction fun hn => ?_
      by_cases hh : 0 ≤ e.acct ∧ e.acct < (zs.length : Int)
      · rw [HN.out] at hh; omega
      · rw [curOf_out hh] at h; omega
    have HINN := Lib.hid hinn
    have HIM := Lib.hid (IM.made w3)
    have HBM := Lib.hid ((Below.refl w3.heap.size w3).alloc (Nat.le_refl _) (.map #[] 0))
    have X3 := Lib.hid x0
    have Y3 := Lib.hid y0
    clear hE hE0 hE1 hes hbal htame hway hsm hinn hL hrd3 hc3 hcm3 hnil3 ho3 x0 y0
    go_wp2
    clear hmm
    go_loopw [70] (fun i wr => ∃ k : Nat, k ≤ L ∧ i = .int .i64 (k : Int) ∧ IM wr w3.heap.size k (fun j => asum j (es.take k)) ∧ Below w3.heap.size w3 wr) (fun i _ => L - (intOf i).toNat)
    case atStart => exact ⟨0, Nat.zero_le _, rfl, HIM.out.congr (fun k => by simp [asum]), HBM.out⟩
    case round =>
      obtain ⟨k, hk, rfl, him, hbel⟩ := hrel
      have HM1 := Lib.hid him
      have HBEL := Lib.hid hbel
      have hsz := hbel.size
      clear him hbel
      by_cases hlt : k < L
      · obtain ⟨⟨P, x⟩, he⟩ : ∃ e, es[k]? = some e := ⟨_, List.getElem?_eq_getElem (by rw [HL.out]; exact hlt)⟩
        obtain ⟨ae, rfl, hae⟩ := (HR3.out.below HBEL.out).at_ he
        obtain ⟨e0, e1⟩ := hae
        rw [add_next ae (k * 2) 1 (by omega)] at e1
        have hin := HINN.out _ (List.mem_of_getElem? he)
        have HNX := Lib.hid (asum_take he)
        have hs1 := HSM.out P k
        have hs2 := HSM.out P (k + 1)
        rw [HNX.out P, if_pos rfl] at hs2
        dsimp only at e0 e1 hin hs2
        obtain ⟨s, hs⟩ : ∃ s, asum P (es.take k) = s := ⟨_, rfl⟩
        rw [hs] at hs1 hs2
        obtain ⟨s1, s2⟩ := hs1
        obtain ⟨s3, s4⟩ := hs2
        obtain ⟨p1, p2⟩ := hin
        have hlook : (Instr.lookup 44 (.map (some w3.heap.size)) (.int .i64 P) false).run Try.prog (wr.alloc (.cells #[.int .i64 P, .int .i64 x] 35)) = .ok (.int .i64 s) (wr.alloc (.cells #[.int .i64 P, .int .i64 x] 35)) := by
          have := (HM1.out.alloc (.cells #[.int .i64 P, .int .i64 x] 35)).look (k := P) (wf_of (by omega) (by omega))
          rw [hs] at this
          exact this
        have HS := Lib.hid hs
        clear he hs
        go_wp2_with (first
          | (at_mapUpdate; refine wpList_im_store _ rfl _ _ _ rfl w3.heap.size k _ rfl (HM1.out.alloc _) (by omega) P (s + x) rfl rfl (wf_of (by omega) (by omega)) (wf_of (by omega) (by omega)) ?_; intro w5 him5 hgr))
        go_roundw
        case rel =>
          refine ⟨k + 1, by omega, by go_num, him5.congr (fun j => ?_), Below.grown (HBEL.out.alloc hsz _) hgr (by simp; omega) (fun j hj => by cases hj; exact Nat.le_refl _)⟩
          rw [HNX.out j]
          dsimp only
          rw [HS.out]
        case measure => simp [intOf]; omega
      · obtain rfl : k = L := by omega
        rw [List.take_of_length_le (by rw [HL.out]; omega)] at HM1
        have hsf := HSM.out (f : Int) k
        have hst := HSM.out (t : Int) k
        rw [List.take_of_length_le (by rw [HL.out]; omega)] at hsf hst
        obtain ⟨sf, hsf1⟩ : ∃ s, asum (f : Int) es = s := ⟨_, rfl⟩
        obtain ⟨st, hst1⟩ : ∃ s, asum (t : Int) es = s := ⟨_, rfl⟩
        rw [hsf1] at hsf
        rw [hst1] at hst
        rw [hsf1, hst1] at HWAY
        obtain ⟨q1, q2⟩ := hsf
        obtain ⟨q3, q4⟩ := hst
        have x0 : ∀ p : After wr, p.world.cell? ⟨g, f * 3, none⟩ = some (.int .i64 fc) := fun p => by
          rw [(HBEL.out.trans (p.below.mono HBEL.out.size)).cell (p := ⟨g, f * 3, none⟩) hgz]; exact X3.out
        have y0 : ∀ p : After wr, p.world.cell? ⟨g, t * 3, none⟩ = some (.int .i64 tc) := fun p => by
          rw [(HBEL.out.trans (p.below.mono HBEL.out.size)).cell (p := ⟨g, t * 3, none⟩) hgz]; exact Y3.out
        have lt : ∀ p : After wr, (Instr.lookup 44 (.map (some w3.heap.size)) (.int .i64 (t : Int)) false).run Try.prog p.world = .ok (.int .i64 st) p.world := fun p => by
          have := (HM1.out.below p.below).look (k := (t : Int)) (wf_of (by omega) (by omega))
          rw [hst1] at this
          exact this
        have lf : ∀ p : After wr, (Instr.lookup 44 (.map (some w3.heap.size)) (.int .i64 (f : Int)) false).run Try.prog p.world = .ok (.int .i64 sf) p.world := fun p => by
          have := (HM1.out.below p.below).look (k := (f : Int)) (wf_of (by omega) (by omega))
          rw [hsf1] at this
          exact this
        have HC := Lib.hid (fun p : After wr => by
          have := balanced_any (some ⟨g, 0, none⟩) A3 n k cap cap3 zs es p.world HN.out (HO.out.below (HB23.out.trans ((HBEL.out.trans (p.below.mono HBEL.out.size)).mono HB23.out.size))).rd HL.out (HR3.out.below (HBEL.out.trans (p.below.mono HBEL.out.size))) (by omega) (by omega)
          rw [HBAL.out] at this
          exact this)
        have HX1 := Lib.hid (fun W => exch_any fc W hfc)
        clear hsf1 hst1
        obtain ⟨way, hw⟩ : ∃ way, Hid way ∧ way = ((fc = tc ∧ st = (X : Int) ∧ sf = -(X : Int)) ∨ (fc ≠ tc ∧ sf = -(X : Int)) ∨ (fc ≠ tc ∧ exch fc = (f : Int) ∧ sf = 0)) := ⟨_, HWAY, rfl⟩
        have hw2 := hw.2 ▸ hw.1.out
        clear hw way
        rcases hw2 with ⟨r1, r2, r3⟩ | ⟨r1, r2⟩ | ⟨r1, r2, r3⟩
        · subst r1 r2 r3
          go_wp2
          refine wp_region_after (by kernel_rfl) (by kernel_rfl) ?_
          repeat (go_big_quiet_step (first | (go_at_call 10; exact after_call _ (HC.out _))))
          refine wpQuiet_nil ?_
          intro _ hw'
          obtain ⟨p, rfl⟩ := hw'
          have hlf := lf p
          have HB6 := Lib.hid (HB3.out.trans ((HBEL.out.trans (p.below.mono HBEL.out.size)).mono HB3.out.size))
          clear x0 y0 lt lf
          go_wp2
          go_ret
          exact ⟨rfl, HB6.out⟩
        · subst r2
          have fne := eqF r1
          go_wp2
          refine wp_region_after (by kernel_rfl) (by kernel_rfl) ?_
          repeat (go_big_quiet_step (first | (go_at_call 10; exact after_call _ (HC.out _))))
          refine wpQuiet_nil ?_
          intro _ hw'
          obtain ⟨p, rfl⟩ := hw'
          have hlf := lf p
          have HB6 := Lib.hid (HB3.out.trans ((HBEL.out.trans (p.below.mono HBEL.out.size)).mono HB3.out.size))
          clear x0 y0 lt lf
          go_wp2
          go_ret
          exact ⟨rfl, HB6.out⟩
        · subst r3
          have fne := eqF r1
          rw [r2] at HX1
          go_wp2
          refine wp_region_after (by kernel_rfl) (by kernel_rfl) ?_
          repeat (go_big_quiet_step (first | (go_at_call 10; exact after_call _ (HC.out _))))
          refine wpQuiet_nil ?_
          intro _ hw'
          obtain ⟨p, rfl⟩ := hw'
          have hlf := lf p
          have hxf := x0 p
          have HB6 := Lib.hid (HB3.out.trans ((HBEL.out.trans (p.below.mono HBEL.out.size)).mono HB3.out.size))
          clear x0 y0 lt lf
          have hz0 : ((0 : Int) == -(X : Int)) = false ∨ X = 0 := by
            by_cases h : X = 0
            · exact .inr h
            · exact .inl (by simp; omega)
          rcases hz0 with hz0 | hz0
          · go_wp2_with (first | (go_at_call 13; refine (HX1.out _).mono ?_; rintro e w8 ⟨rfl, rfl⟩))
            go_ret
            exact ⟨rfl, HB6.out⟩
          · subst hz0
            go_wp2_with (first | (go_at_call 13; refine (HX1.out _).mono ?_; rintro e w8 ⟨rfl, rfl⟩))
            go_ret
            exact ⟨rfl, HB6.out⟩
  · rw [hE, errV, if_neg hE0]
    unfold moveL at ho3
    rw [hE, if_neg hE0] at ho3
    have hwhy : X = 0 ∨ f = t ∨ fc ≠ tc := by
      refine Decidable.byContradiction fun hn => hE0 ?_
      rw [← hE]
      unfold moveE
      rw [if_neg (by rw [HN.out]; omega), if_neg (by omega), HCF.out, HCT.out, if_pos (by omega)]
    obtain ⟨A3, cap3, rfl, _⟩ := ho3.form
    rw [show ([] : List En).length = 0 from rfl]
    clear hmm hE ho3
    by_cases hx : X = 0
    · subst hx
      clear hwhy
      go_wp2
      go_quiet (fail)
      go_wp2
      go_ret
      exact ⟨rfl, below_drewN HB3.out _⟩
    · have hx0 : ((X : Int) == 0) = false := by simp; omega
      by_cases hft : f = t
      · subst hft
        clear hwhy
        go_wp2
        go_quiet (fail)
        go_wp2
        go_ret
        exact ⟨rfl, below_drewN HB3.out _⟩
      · have hft0 : ((f : Int) == (t : Int)) = false := by simp; omega
        have hne : fc ≠ tc := by rcases hwhy with h | h | h; exact absurd h hx; exact absurd h hft; exact h
        have hne1 : (fc != tc) = true := by simpa using hne
        clear hwhy
        go_wp2
        go_quiet (fail)
        go_wp2
        go_ret
        exact ⟨rfl, below_drewN HB3.out _⟩
end Go.Proofs.Ytpgjifbeckmieaa
