/-
  The statement EntryBalanced by its walk.
-/
import Derived.Test.YtpgjifbeckmieaaEntAwake
import Derived.Test.YtpgjifbeckmieaaEntLawBal
import Derived.Test.YtpgjifbeckmieaaEntries
import Derived.Test.YtpgjifbeckmieaaBookAny
import Derived.Test.YtpgjifbeckmieaaArgNat
namespace Go.Proofs.Ytpgjifbeckmieaa
open Go Go.RowKit
set_option linter.unusedVariables false

theorem entries_turn {zs : List Ac} {es : List En} (ht : Tame zs 300000 es) (hl : es.length ≤ 9) (hs : ∀ c, 0 ≤ c → c < 3 → esum zs c es = 0) {i : Nat} {e : En} (he : es[i]? = some e) (b : Int) (hb : -128 ≤ b ∧ b ≤ 127) :
    balB zs (es.set i ⟨e.acct, e.amt + b⟩) = decide (b = 0) := by
  have hmem : e ∈ es := List.mem_of_getElem? he
  obtain ⟨hc, h1, h2⟩ := ht e hmem
  rw [balB_tame zs 300128 (by omega) (by omega) _ (fun x hx => by
    rcases List.mem_or_eq_of_mem_set hx with hx | rfl
    · obtain ⟨k1, k2, k3⟩ := ht x hx
      exact ⟨k1, by omega, by omega⟩
    · exact ⟨hc, by dsimp only; omega, by dsimp only; omega⟩) (by rw [List.length_set]; omega)]
  rw [esum_set zs 0 _ he, esum_set zs 1 _ he, esum_set zs 2 _ he, hs 0 (by omega) (by omega), hs 1 (by omega) (by omega), hs 2 (by omega) (by omega)]
  congr 1
  apply propext
  dsimp only
  have h3 : curOf zs e.acct = 0 ∨ curOf zs e.acct = 1 ∨ curOf zs e.acct = 2 := by omega
  rcases h3 with h3 | h3 | h3 <;> (rw [h3]; simp; omega)

theorem i8_bounds {b : Int} (h : (Lit.int .i8 b).wf = true) : -128 ≤ b ∧ b ≤ 127 := by
  simp only [Lit.wf, Bool.and_eq_true, decide_eq_true_eq] at h
  have e1 : IntKind.i8.min = -128 := rfl
  have e2 : IntKind.i8.max = 127 := rfl
  omega

set_option maxRecDepth 100000 in
set_option maxHeartbeats 8000000 in
theorem entryBalanced_walk (w : World) (v : Value) (hv : BookAt w v) (PA : Option Addr) (pl pc : Nat) (hp : IsPairs w PA pl pc) (a : Int) (wa : (Lit.int .u8 a).wf = true) (b : Int) (wb : (Lit.int .i8 b).wf = true) (A : Option Addr) (len cap0 : Nat) (hA : IsEnts w A len cap0) (hsz : cap0 * 16 ≤ 140737488351232) :
    Calls Try.prog 3 #[v, .slice PA pl pc, .int .u8 a, .int .i8 b, .slice A len cap0] w fun e w' => e = .returned (.bool true) ∧ Below w.heap.size w w' := by
  obtain ⟨CA, HA, LA, cl, cc, hl, hc, ll, lc, cs, hs, ls, rfl, _⟩ := hv.form
  obtain ⟨raw, hrl, hraw, _, hlc, hcm0, _⟩ := ents_list hA
  obtain ⟨ps, hpl, hps, hpf, hplc, hpcm⟩ := pairs_list hp
  obtain ⟨a, rfl, ha⟩ := u8_nat wa
  have hb := i8_bounds wb
  have hlen : len ≤ 9223372036854775807 := by unfold maxLen at hcm0; omega
  have hpl2 : pl ≤ 9223372036854775807 := by unfold maxLen at hpcm; omega
  have hlen2 : len ≤ 4611686018427387904 := by omega
  have HV := Lib.hid hv
  have HRL := Lib.hid hrl
  have HRAW := Lib.hid hraw
  have HPL := Lib.hid hpl
  have HPS := Lib.hid hps
  have HPF := Lib.hid hpf
  clear hv hA hrl hraw hlc hcm0 hp hpl hps hpf hplc hpcm wa wb hsz
  go_enter Try.func3, Try.ntmps3
  go_wp2_with fail
  have hb0 := (Below.refl w.heap.size w).alloc (Nat.le_refl _) (.cells #[.slice CA cl cc, .slice HA hl hc, .slice LA ll lc] 25)
  refine (awake_ok _).mono ?_
  rintro e w1 ⟨rfl, hb1⟩
  have k0 : w1.cell? ⟨w.heap.size, 0, none⟩ = some (.slice CA cl cc) := by rw [hb1.cell (by simp)]; simp
  have k1 : w1.cell? ⟨w.heap.size, 1, none⟩ = some (.slice HA hl hc) := by rw [hb1.cell (by simp)]; simp
  have k2 : w1.cell? ⟨w.heap.size, 2, none⟩ = some (.slice LA ll lc) := by rw [hb1.cell (by simp)]; simp
  have HB1 := Lib.hid (hb0.trans (hb1.mono (by simp)))
  clear hb0 hb1
  go_wp2_with fail
  refine (book_any HV.out HB1.out).mono ?_
  rintro e w2 ⟨v2, zs, j, rfl, ho, hj, hbk, hb2⟩
  have hzl := hbk.len
  obtain ⟨n, hn⟩ : ∃ n, zs.length = n := ⟨_, rfl⟩
  obtain ⟨g, cap, hv2, hg1, hg2, hnc, hcm⟩ := ho.open_ (by omega)
  rw [hn] at hv2
  subst hv2
  have hn17 : n ≤ 17 := by omega
  have hn9 : 9 ≤ n := by omega
  have HB2 := Lib.hid (HB1.out.trans (hb2.mono HB1.out.size))
  have HO := Lib.hid ho
  have HN := Lib.hid hn
  have HZ := Lib.hid hbk.house_
  have HCU := Lib.hid (Curs.of_book hbk)
  have HEN := Lib.hid (entries_any (some ⟨g, 0, none⟩) PA n pl cap pc zs ps w2 hn ho.rd (Curs.of_book hbk) (by omega) (by omega) HPL.out (HPS.out.below HB2.out) HPF.out hpl2)
  have HG2 := Lib.hid hg2
  clear ho hbk hb2 hn hzl k0 k1 k2 hj hnc hcm hg1 hg2
  go_wp2_with fail
  refine HEN.out.mono ?_
  rintro e w3 ⟨v3, rfl, ho3, hb3⟩
  clear HEN
  have hbal := entriesL_bal HZ.out HCU.out (by rw [HN.out]; exact hn9) ps
  have htame := entriesL_tame HZ.out HCU.out (by rw [HN.out]; exact hn9) ps
  have hsum := entriesL_sum HZ.out ps
  have hel := entriesL_len zs ps
  obtain ⟨es, hes⟩ : ∃ es, entriesL zs ps = es := ⟨_, rfl⟩
  rw [hes] at ho3 hbal htame hsum hel
  obtain ⟨L, hL⟩ : ∃ L, es.length = L := ⟨_, rfl⟩
  obtain ⟨A3, cap3, rfl, hrd3, hc3, hcm3, hnil3⟩ := ho3.form
  rw [hL] at hc3 hnil3 hel ho3
  rw [hL]
  have hz2 := HB2.out.size
  have HB3 := Lib.hid (HB2.out.trans (hb3.mono hz2))
  have HO2 := Lib.hid (HO.out.below hb3)
  have HO3 := Lib.hid ho3
  have HBAL := Lib.hid hbal
  have HTAME := Lib.hid htame
  have HSUM := Lib.hid hsum
  have HLL := Lib.hid hL
  have HR3 := Lib.hid hrd3
  obtain ⟨r, hr⟩ : ∃ r, balB zs raw = r := ⟨_, rfl⟩
  have HC1 := Lib.hid (balanced_any (some ⟨g, 0, none⟩) A3 n L cap cap3 zs es w3 HN.out HO2.out.rd hL hrd3 (by omega) (by omega))
  rw [hbal] at HC1
  have HC2 := Lib.hid (fun W (hbw : Below w3.heap.size w3 W) => balanced_any (some ⟨g, 0, none⟩) A n len cap cap0 zs raw W HN.out (HO2.out.below hbw).rd HRL.out (HRAW.out.below (HB3.out.trans (hbw.mono HB3.out.size))) (by omega) hlen)
  have HC3 := Lib.hid (fun W (hbw : Below w3.heap.size w3 W) => lawbal_any (some ⟨g, 0, none⟩) A n len cap cap0 zs raw W HN.out (HO2.out.below hbw).rd HRL.out (HRAW.out.below (HB3.out.trans (hbw.mono HB3.out.size))) (by omega) hlen2)
  rw [hr] at HC2 HC3
  clear ho3 hbal htame hsum hL hes hb3 hrd3 hr HO hcm3 hz2
  go_wp2_with fail
  refine HC1.out.mono ?_
  rintro e w4 ⟨rfl, hb4⟩
  have HB4 := Lib.hid hb4
  clear hb4 HC1
  go_wp2_with fail
  refine (HC2.out _ HB4.out).mono ?_
  rintro e w5 ⟨rfl, hb5⟩
  have HB5 := Lib.hid (HB4.out.trans (hb5.mono HB4.out.size))
  clear hb5
  go_wp2_with fail
  refine (HC3.out _ HB5.out).mono ?_
  rintro e w6 ⟨rfl, hb6⟩
  have HB6 := Lib.hid (HB5.out.trans (hb6.mono HB5.out.size))
  clear hb6 HC2 HC3 HB4 HB5
  have hrr : (r != r) = false := by simp
  by_cases hL0 : L = 0
  · subst hL0
    go_wp2
    go_ret
    exact ⟨rfl, HB3.out.trans (HB6.out.mono HB3.out.size)⟩
  · obtain ⟨g3, c3, hv3, hg31, hg32, hnc3, hcm3⟩ := HO3.out.open_ (by rw [HLL.out]; omega)
    rw [HLL.out] at hv3
    injection hv3 with e1 e2 e3
    subst e1 e3
    obtain ⟨i, hi⟩ : ∃ i : Nat, (a : Int) % (L : Int) = (i : Int) := ⟨a % L, by omega⟩
    have hiL : i < L := by
      have h1 : a % L < L := Nat.mod_lt _ (by omega)
      have h2 : ((a % L : Nat) : Int) = (i : Int) := by rw [← hi]; omega
      omega
    have hi2 : (a : Int).tmod (L : Int) = (i : Int) := by rw [Int.tmod_eq_emod_of_nonneg (by omega)]; exact hi
    obtain ⟨⟨p, x⟩, he⟩ : ∃ e, es[i]? = some e := ⟨_, List.getElem?_eq_getElem (by rw [HLL.out]; exact hiL)⟩
    have ho6 := HO3.out.below HB6.out
    obtain ⟨c0, c1⟩ := ho6.at_ he
    have f1 := ho6.unfrozen HLL.out.symm (i * 2 + 1)
    have hmem := List.mem_of_getElem? he
    obtain ⟨_, x1, x2⟩ := HTAME.out _ hmem
    dsimp only at c0 c1 x1 x2
    obtain ⟨b1, b2⟩ := hb
    have hput := (ho6.set HLL.out.symm he (x + b)).2
    dsimp only at hput
    have hturn := entries_turn HTAME.out (by rw [HLL.out]; exact hel) (fun c c0 c1 => HSUM.out c ⟨c0, c1⟩) he b ⟨b1, b2⟩
    dsimp only at hturn
    have hgz : g3 < w6.heap.size := World.block_lt_of_cell? _ _ c1
    have hz3 := HB3.out.size
    have hb7 : Below w.heap.size w (w6.setCell ⟨g3, i * 2 + 1, none⟩ (.int .i64 (x + b))) := (HB3.out.trans (HB6.out.mono HB3.out.size)).setCell (by have := HB2.out.size; dsimp only; omega) _
    have HC4 := Lib.hid (balanced_any (some ⟨g, 0, none⟩) (some ⟨g3, 0, none⟩) n L cap cap3 zs (es.set i ⟨p, x + b⟩) (w6.setCell ⟨g3, i * 2 + 1, none⟩ (.int .i64 (x + b))) HN.out ((HO2.out.below HB6.out).setOther (fun g' hg' => by
        injection hg' with hg'
        subst hg'
        have := HG2.out
        dsimp only
        omega)).rd (by rw [List.length_set]; exact HLL.out) hput.rd (by omega) (by omega))
    rw [hturn] at HC4
    have HB7 := Lib.hid hb7
    clear hput hturn hb7 he ho6 hmem c0
    have hn0 : ¬ (L : Int) = 0 := by omega
    go_wp2_with fail
    refine HC4.out.mono ?_
    rintro e w8 ⟨rfl, hb8⟩
    by_cases hb0 : b = 0
    · subst hb0
      go_wp2
      go_ret
      exact ⟨rfl, HB7.out.trans (hb8.mono HB7.out.size)⟩
    · have f0 := eqF hb0
      have hd : decide (b = 0) = false := decide_eq_false hb0
      go_wp2
      go_ret
      exact ⟨rfl, HB7.out.trans (hb8.mono HB7.out.size)⟩
end Go.Proofs.Ytpgjifbeckmieaa
