/-
  The statement EntryBack by its walk.
-/
import Derived.Test.YtpgjifbeckmieaaEntAwake
import Derived.Test.YtpgjifbeckmieaaEntBack
import Derived.Test.YtpgjifbeckmieaaEntSame
import Derived.Test.YtpgjifbeckmieaaEntries
import Derived.Test.YtpgjifbeckmieaaBookAny
namespace Go.Proofs.Ytpgjifbeckmieaa
open Go Go.RowKit
set_option linter.unusedVariables false

theorem back_bal {zs : List Ac} {es : List En} (ht : Tame zs 300000 es) (hl : es.length ≤ 9) (hs : ∀ c, 0 ≤ c ∧ c < 3 → esum zs c es = 0) : balB zs (backE es) = true := by
  rw [balB_tame zs 300000 (by omega) (by omega) _ (tame_back (by omega) ht) (by rw [backE_len]; omega)]
  rw [esum_back zs 0 (by omega) es ht, esum_back zs 1 (by omega) es ht, esum_back zs 2 (by omega) es ht, hs 0 (by omega), hs 1 (by omega), hs 2 (by omega)]
  simp

set_option maxRecDepth 100000 in
set_option maxHeartbeats 8000000 in
theorem entryBack_walk (w : World) (A : Option Addr) (len cap0 : Nat) (hA : IsEnts w A len cap0) (hsz : cap0 * 16 ≤ 140737488351232) (v : Value) (hv : BookAt w v) (PA : Option Addr) (pl pc : Nat) (hp : IsPairs w PA pl pc) :
    Calls Try.prog 5 #[.slice A len cap0, v, .slice PA pl pc] w fun e w' => e = .returned (.bool true) ∧ Below w.heap.size w w' := by
  obtain ⟨CA, HA, LA, cl, cc, hl, hc, ll, lc, cs, hs, ls, rfl, _⟩ := hv.form
  obtain ⟨raw, hrl, hraw, hfit, hlc, hcm0, hnil⟩ := ents_list hA
  obtain ⟨ps, hpl, hps, hpf, hplc, hpcm⟩ := pairs_list hp
  have hlen : len ≤ 8796093022207 := by omega
  have hpl2 : pl ≤ 9223372036854775807 := by unfold maxLen at hpcm; omega
  have hbb : backE (backE raw) = raw := backE_backE fun e he => by
    obtain ⟨j, hj, rfl⟩ := List.mem_iff_getElem.1 he
    exact (hfit j _ (List.getElem?_eq_getElem hj)).2
  have HV := Lib.hid hv
  have HRL := Lib.hid hrl
  have HRAW := Lib.hid hraw
  have HPL := Lib.hid hpl
  have HPS := Lib.hid hps
  have HPF := Lib.hid hpf
  have HBBB := Lib.hid hbb
  clear hv hA hrl hraw hlc hcm0 hp hpl hps hpf hplc hpcm hsz hfit hnil hbb
  go_enter Try.func5, Try.ntmps5
  go_wp2_with fail
  have hb0 := (Below.refl w.heap.size w).alloc (Nat.le_refl _) (.cells #[.slice CA cl cc, .slice HA hl hc, .slice LA ll lc] 25)
  refine (awake_ok _).mono ?_
  rintro e w1 ⟨rfl, hb1⟩
  have K0 : Hid (w1.cell? ⟨w.heap.size, 0, none⟩ = some (.slice CA cl cc)) := Lib.hid (by rw [hb1.cell (by simp)]; simp)
  have K1 : Hid (w1.cell? ⟨w.heap.size, 1, none⟩ = some (.slice HA hl hc)) := Lib.hid (by rw [hb1.cell (by simp)]; simp)
  have K2 : Hid (w1.cell? ⟨w.heap.size, 2, none⟩ = some (.slice LA ll lc)) := Lib.hid (by rw [hb1.cell (by simp)]; simp)
  have hz1 : w.heap.size < w1.heap.size := by have := hb1.size; simp at this; omega
  have HB1 := Lib.hid (hb0.trans (hb1.mono (by simp)))
  clear hb0 hb1
  go_wp2_with fail
  refine (back_any A len cap0 raw w1 HRL.out (HRAW.out.below HB1.out) hlen).mono ?_
  rintro e w2 ⟨rfl, ho2, hb2⟩
  obtain ⟨G, hG⟩ : ∃ G, w1.heap.size = G := ⟨_, rfl⟩
  rw [hG] at ho2 ⊢
  have HO2 := Lib.hid ho2
  have HB2 := Lib.hid hb2
  have hz2 := hb2.size
  rw [hG] at hz1 hz2
  have HG := Lib.hid hG
  clear ho2 hb2 hG
  have hll : ((len : Int) != (len : Int)) = false := by simp
  go_wp2
  clear hll
  go_loopw [8, 21] (fun _ i wr => ∃ k : Nat, k ≤ len ∧ i = .int .i64 (k : Int) ∧ Below w2.heap.size w2 wr) (fun _ i _ => len - (intOf i).toNat)
  case atStart => exact ⟨0, Nat.zero_le _, rfl, Below.refl _ _⟩
  case round =>
    obtain ⟨k, hk, rfl, hbel⟩ := hrel
    by_cases hlt : k < len
    · obtain ⟨j, hj⟩ : ∃ j : Nat, (len : Int) - 1 - (k : Int) = (j : Int) := ⟨len - 1 - k, by omega⟩
      have hjm : j < len := by omega
      obtain ⟨e, he⟩ : ∃ e, raw[j]? = some e := ⟨_, List.getElem?_eq_getElem (by rw [HRL.out]; exact hjm)⟩
      have hbw := HB1.out.trans ((HB2.out.trans (hbel.mono HB2.out.size)).mono HB1.out.size)
      obtain ⟨ae, rfl, hae⟩ := (HRAW.out.below hbw).at_ he
      have hx := backE_at (k := k) he (by rw [HRL.out]; omega)
      obtain ⟨c0, c1⟩ := (HO2.out.below hbel).at_ hx
      obtain ⟨e0, e1⟩ := hae
      rw [add_next ae (j * 2) 1 (by omega)] at e1
      obtain ⟨P, x⟩ := e
      simp only [negE] at c0 c1
      dsimp only at e0 e1
      obtain ⟨q, hq⟩ : ∃ q, wrap64 (-x) = q := ⟨_, rfl⟩
      rw [hq] at c1
      have HBEL := Lib.hid hbel
      have hPP : (P != P) = false := by simp
      have hqq : (q != q) = false := by simp
      clear he hbw hx hbel
      go_wp2
      go_quiet (fail)
      go_wp2
      go_roundw
      case rel => exact ⟨k + 1, by omega, by go_num, below_drewN HBEL.out _⟩
      case measure => simp [intOf]; omega
    · obtain rfl : k = len := by omega
      have HB3 := Lib.hid (HB2.out.trans (hbel.mono HB2.out.size))
      have ho3 := HO2.out.below hbel
      have k0 : wr.cell? ⟨w.heap.size, 0, none⟩ = some (.slice CA cl cc) := by rw [HB3.out.cell (p := ⟨w.heap.size, 0, none⟩) (by rw [HG.out]; exact hz1)]; exact K0.out
      have k1 : wr.cell? ⟨w.heap.size, 1, none⟩ = some (.slice HA hl hc) := by rw [HB3.out.cell (p := ⟨w.heap.size, 1, none⟩) (by rw [HG.out]; exact hz1)]; exact K1.out
      have k2 : wr.cell? ⟨w.heap.size, 2, none⟩ = some (.slice LA ll lc) := by rw [HB3.out.cell (p := ⟨w.heap.size, 2, none⟩) (by rw [HG.out]; exact hz1)]; exact K2.out
      have HO3 := Lib.hid ho3
      have HB4 := Lib.hid (HB1.out.trans (HB3.out.mono HB1.out.size))
      have hGr : w1.heap.size = G := HG.out
      have HGR := Lib.hid hGr
      clear hbel ho3 hGr
      go_wp2_with fail
      refine (book_any HV.out HB4.out).mono ?_
      rintro e w5 ⟨v5, zs, j, rfl, ho, hj, hbk, hb5⟩
      have hzl := hbk.len
      obtain ⟨n, hn⟩ : ∃ n, zs.length = n := ⟨_, rfl⟩
      obtain ⟨g, cap, hv5, hg1, hg2, hnc, hcm⟩ := ho.open_ (by omega)
      rw [hn] at hv5
      subst hv5
      have hn17 : n ≤ 17 := by omega
      have hn9 : 9 ≤ n := by omega
      have HB5 := Lib.hid (HB4.out.trans (hb5.mono HB4.out.size))
      have HO := Lib.hid ho
      have HN := Lib.hid hn
      have HZ := Lib.hid hbk.house_
      have HCU := Lib.hid (Curs.of_book hbk)
      have HO5 := Lib.hid (HO3.out.below hb5)
      clear ho hbk hb5 hn hzl k0 k1 k2 hj hnc hcm hg1 hg2 HO3
      go_wp2_with fail
      refine (back_any (some ⟨G, 0, none⟩) k k (backE raw) w5 (by rw [backE_len]; exact HRL.out) HO5.out.rd hlen).mono ?_
      rintro e w6 ⟨rfl, ho6, hb6⟩
      rw [HBBB.out] at ho6
      obtain ⟨G6, hG6⟩ : ∃ G, w5.heap.size = G := ⟨_, rfl⟩
      rw [hG6] at ho6 ⊢
      have HB6 := Lib.hid hb6
      have HS := Lib.hid (esame_any (some ⟨G6, 0, none⟩) A k k k cap0 raw raw w6 HRL.out HRL.out ho6.rd (HRAW.out.below (HB5.out.trans (hb6.mono HB5.out.size))) (by omega) (by omega))
      rw [show decide (raw = raw) = true from decide_eq_true rfl] at HS
      clear ho6 hb6 hG6
      go_wp2_with fail
      refine HS.out.mono ?_
      rintro e w7 ⟨rfl, hb7⟩
      have HB7 := Lib.hid (HB6.out.trans (hb7.mono HB6.out.size))
      clear hb7 HS
      have HEN := Lib.hid (entries_any (some ⟨g, 0, none⟩) PA n pl cap pc zs ps w7 HN.out (HO.out.below HB7.out).rd HCU.out (by omega) (by omega) HPL.out (HPS.out.below (HB5.out.trans (HB7.out.mono HB5.out.size))) HPF.out hpl2)
      go_wp2_with fail
      refine HEN.out.mono ?_
      rintro e w8 ⟨v8, rfl, ho8, hb8⟩
      have htame := entriesL_tame HZ.out HCU.out (by rw [HN.out]; exact hn9) ps
      have hsum := entriesL_sum HZ.out ps
      have hel := entriesL_len zs ps
      have hbal := back_bal htame hel hsum
      obtain ⟨es, hes⟩ : ∃ es, entriesL zs ps = es := ⟨_, rfl⟩
      rw [hes] at ho8 hbal hel
      obtain ⟨L, hL⟩ : ∃ L, es.length = L := ⟨_, rfl⟩
      obtain ⟨A8, cap8, rfl, hrd8, hc8, hcm8, hnil8⟩ := ho8.form
      rw [hL] at hel
      rw [hL]
      have HBAL := Lib.hid hbal
      have HLL := Lib.hid hL
      have HR8 := Lib.hid hrd8
      have HB8 := Lib.hid (HB7.out.trans (hb8.mono HB7.out.size))
      clear htame hsum hbal hes hL hrd8 hc8 hcm8 hnil8 ho8 hb8 HEN
      go_wp2_with fail
      refine (back_any A8 L cap8 es w8 HLL.out HR8.out (by omega)).mono ?_
      rintro e w9 ⟨rfl, ho9, hb9⟩
      obtain ⟨G9, hG9⟩ : ∃ G, w8.heap.size = G := ⟨_, rfl⟩
      rw [hG9] at ho9 ⊢
      have HB9 := Lib.hid (HB8.out.trans (hb9.mono HB8.out.size))
      have HC := Lib.hid (balanced_any (some ⟨g, 0, none⟩) (some ⟨G9, 0, none⟩) n L cap L zs (backE es) w9 HN.out (HO.out.below HB9.out).rd (by rw [backE_len]; exact HLL.out) ho9.rd (by omega) (by omega))
      rw [HBAL.out] at HC
      clear ho9 hb9 hG9
      go_wp2_with fail
      refine HC.out.mono ?_
      rintro e w10 ⟨rfl, hb10⟩
      go_wp2
      go_ret
      exact ⟨rfl, HB5.out.trans ((HB9.out.trans (hb10.mono HB9.out.size)).mono HB5.out.size)⟩
end Go.Proofs.Ytpgjifbeckmieaa
