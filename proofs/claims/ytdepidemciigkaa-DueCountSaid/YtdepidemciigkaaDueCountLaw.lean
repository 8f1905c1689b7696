/-
  The statement DueCount by its walk, of what due answers.
-/
import Derived.Test.YtdepidemciigkaaDueTimeLaw
import Derived.Test.YtdepidemciigkaaDueLawAll
import Derived.Test.YtdepidemciigkaaIntSet
namespace Go.Proofs.Ytdepidemciigkaa
open Go Go.RowKit
set_option linter.unusedVariables false

theorem Own.same {e : TypeId} {k : IntKind} {w w' : World} {base n : Nat} {v : Value} {zs : List Int} (h : Own e k w base v n zs) (hs : ∀ g, v.ownBlock = some g → w'.heap[g]? = w.heap[g]?) : Own e k w' base v n zs := by
  refine ⟨h.1, ?_⟩
  rcases h.2 with h | ⟨g, cap, cur, hv, hg, hh, r⟩
  · exact .inl h
  · exact .inr ⟨g, cap, cur, hv, hg, by rw [hs g (by rw [hv]; rfl)]; exact hh, r⟩
theorem DueIs.count {ps : List Py} {out : List Int} (h : DueIs ps out) : (openTo ps ps.length).length = out.length := by
  have hn : (openTo ps ps.length).Nodup := by
    unfold openTo
    exact List.pairwise_map.2 ((List.nodup_range.filter _).imp fun {a b} h e => h (by omega))
  refine ((List.perm_ext_iff_of_nodup hn h.once).2 fun a => ?_).length_eq
  rw [h.mem]
  unfold openTo isOpen
  rw [List.mem_map]
  constructor
  · rintro ⟨k, hk, rfl⟩
    rw [List.mem_filter, List.mem_range] at hk
    exact ⟨k, hk.1, rfl, by simpa using hk.2⟩
  · rintro ⟨k, hk, rfl, hs⟩
    exact ⟨k, List.mem_filter.2 ⟨List.mem_range.2 hk, by simpa using hs⟩, rfl⟩
theorem wf_small {x : Int} (h : 0 ≤ x) (h' : x ≤ 1000000) : (Lit.int .i64 x).wf = true := by
  simp only [Lit.wf, Bool.and_eq_true, decide_eq_true_eq]
  have e1 : IntKind.i64.min = -9223372036854775808 := rfl
  have e2 : IntKind.i64.max = 9223372036854775807 := rfl
  omega

set_option maxRecDepth 100000 in
set_option maxHeartbeats 1000000 in
theorem dueCount_of (H : DueFns) (w : World) (A1 : Option Addr) (n1 cap1 : Nat) (i1 : IsRecs paids Pd.fits w A1 n1 cap1) :
    Calls Try.prog 8 #[.slice A1 n1 cap1] w fun e w' => e = .returned (.bool true) ∧ Below w.heap.size w w' := by
  obtain ⟨zs, hl1, hr1, hf1, hnc1, hcm1, _⟩ := recs_list i1
  have hmm := @run_makeMap Try.prog
  have HR1 := Lib.hid hr1
  have HF1 := Lib.hid hf1
  have HL1 := Lib.hid hl1
  have HH := Lib.hid H
  have HC := Lib.hid (And.intro hnc1 hcm1)
  clear i1 hr1 hf1 hl1 H hnc1 hcm1
  go_enter Try.func8, Try.ntmps8
  go_wp2_with fail
  refine (dawake_ok HH.out w).mono ?_
  rintro _ w1 ⟨rfl, hb1⟩
  have HB1 := Lib.hid hb1
  have HP := Lib.hid (payments_any A1 n1 cap1 zs w1 HL1.out (HR1.out.below hb1) HF1.out HC.out.1 HC.out.2)
  clear hb1
  go_wp2_with fail
  refine HP.out.mono ?_
  rintro _ w2 ⟨vx, rfl, hox, hb2⟩
  obtain ⟨xs, hxs⟩ : ∃ xs, (zs.take 300).map Pd.pay = xs := ⟨_, rfl⟩
  have HTX := Lib.hid (show Tils xs from hxs ▸ Tils.of (pays_fit HF1.out 300))
  have hxl : xs.length ≤ 300 := by rw [← hxs, List.length_map, List.length_take]; omega
  rw [hxs] at hox
  obtain ⟨Ax, cx, hvx, hrx, _, _, _⟩ := hox.form
  obtain ⟨n, hn⟩ : ∃ n, xs.length = n := ⟨_, rfl⟩
  rw [hn] at hvx hxl
  subst hvx
  have HRX := Lib.hid hrx
  have HB2 := Lib.hid (HB1.out.trans (hb2.mono HB1.out.size))
  have HA := Lib.hid (HH.out.all Ax n cx xs (w2.alloc (.map #[] 0)) hn (hrx.alloc _) (by omega) HTX.out)
  have HSM := Lib.hid (SM.made w2)
  have HN := Lib.hid hn
  clear hox hb2 hrx hxs hn HP HB1 HR1 HF1 HL1
  go_wp2_with fail
  refine HA.out.mono ?_
  rintro _ w4 ⟨v4, out, rfl, hd4, ho4, hb4⟩
  rw [alloc_size] at ho4
  obtain ⟨A4, c4, hv4, _, _, _, _⟩ := ho4.form
  obtain ⟨l, hl⟩ : ∃ l, out.length = l := ⟨_, rfl⟩
  rw [hl] at hv4 ho4
  subst hv4
  have hle := hd4.len
  rw [hl, HN.out] at hle
  have HSM4 := Lib.hid (HSM.out.below hb4)
  have HD := Lib.hid hd4
  have HO4 := Lib.hid ho4
  have HLL := Lib.hid hl
  have HB4 := Lib.hid (((Below.refl w2.heap.size w2).alloc (Nat.le_refl _) (.map #[] 0)).trans (hb4.mono (by rw [alloc_size]; omega)))
  have hz4 : w2.heap.size < w4.heap.size := by have := hb4.size; rw [alloc_size] at this; omega
  clear hd4 ho4 hb4 hl HA HSM
  go_wp2
  go_loopw [18] (fun i wr => ∃ j : Nat, j ≤ l ∧ i = .int .i64 (j : Int) ∧ SM wr w2.heap.size (out.take j) ∧ Own 3 .i64 wr (w2.heap.size + 1) (.slice A4 l c4) l out ∧ Below w2.heap.size w2 wr ∧ w2.heap.size < wr.heap.size) (fun i _ => l - (intOf i).toNat)
  case atStart => exact ⟨0, Nat.zero_le _, rfl, HSM4.out, HO4.out, HB4.out, hz4⟩
  case round =>
    obtain ⟨j, hj, rfl, hsm, hown, hbel, hszr⟩ := hrel
    have HSM := Lib.hid hsm
    have HOWN := Lib.hid hown
    have HBEL := Lib.hid hbel
    clear hsm hown hbel
    by_cases hlt : j < l
    · obtain ⟨_, _, e4, _, _, hrd, _⟩ := HOWN.out.form
      injection e4 with e4 e5 e6
      subst e4 e6
      obtain ⟨ad, rfl, d4⟩ := hrd.at_ hlt
      obtain ⟨a, ha⟩ : ∃ a, out[j]? = some a := ⟨_, List.getElem?_eq_getElem (by rw [HLL.out]; exact hlt)⟩
      rw [show out.getD j 0 = a by simp [List.getD, ha]] at d4
      obtain ⟨q, hq, rfl, hst⟩ := (HD.out.mem a).1 (List.mem_of_getElem? ha)
      have hno : (q : Int) ∉ out.take j := by
        have h1 := HD.out.once
        rw [← List.take_append_drop j out, List.drop_eq_getElem_cons (by rw [HLL.out]; exact hlt)] at h1
        have h2 := (List.nodup_append.1 h1).2.2
        intro hin
        have h3 : out[j]'(by rw [HLL.out]; exact hlt) = (q : Int) := by
          have := List.getElem?_eq_getElem (l := out) (i := j) (by rw [HLL.out]; exact hlt)
          rw [ha] at this
          exact (Option.some.inj this).symm
        exact h2 _ hin _ (List.mem_cons_self ..) h3.symm
      rw [HN.out] at hq
      obtain ⟨p, hp⟩ : ∃ p, xs[q]? = some p := ⟨_, List.getElem?_eq_getElem (by rw [HN.out]; exact hq)⟩
      rw [getD_of hp] at hst
      obtain ⟨adx, rfl, hat⟩ := (HRX.out.below HBEL.out).at_ hp
      obtain ⟨_, _, _, _, _, _, _, t7⟩ := pay_cells hat
      rw [hst] at t7
      have hlook := HSM.out.look (k := (q : Int)) (wf_small (by omega) (by omega))
      rw [decide_eq_false hno] at hlook
      have q1 : decide ((q : Int) < 0) = false := decide_eq_false (by omega)
      have q2 : decide ((n : Int) ≤ (q : Int)) = false := decide_eq_false (by omega)
      have q3 : decide (n ≤ q) = false := decide_eq_false (by omega)
      have HNX := Lib.hid (take_more ha)
      have HNO := Lib.hid hno
      have HTL := Lib.hid (show (out.take j).length < 4611686018427387904 by rw [List.length_take]; omega)
      clear hrd ha hno hp hst hat e5
      go_wp2_with (at_mapUpdate; refine wpList_sm_store _ rfl _ _ _ rfl w2.heap.size (out.take j) rfl HSM.out HTL.out (q : Int) rfl rfl (wf_small (by omega) (by omega)) HNO.out ?_; intro w5 hsm5 hg5)
      have HSM5 := Lib.hid hsm5
      have HG5 := Lib.hid hg5
      clear hsm5 hg5
      go_wp2
      go_roundw
      case rel =>
        refine ⟨j + 1, by omega, by go_num, by rw [HNX.out]; exact HSM5.out, HOWN.out.same fun g hg => ?_, HBEL.out.grown HG5.out (by omega) (fun g hg => by injection hg with hg; omega), by have := HG5.out.size; omega⟩
        have hlt2 := World.ownsRow.lt HOWN.out g hg
        exact HG5.out.block g hlt2.2 (fun e => by injection e with e; omega)
      case measure => simp [intOf]; omega
    · obtain rfl : j = l := by omega
      have HSM6 := Lib.hid (show SM wr w2.heap.size out by have h := HSM.out; rw [List.take_of_length_le (by rw [HLL.out]; exact Nat.le_refl _)] at h; exact h)
      have HRX6 := Lib.hid (HRX.out.below HBEL.out)
      have HBW := Lib.hid (HB2.out.trans (HBEL.out.mono HB2.out.size))
      clear HSM HOWN HBEL
      obtain ⟨w5, hw5⟩ : ∃ w5, wr = w5 := ⟨_, rfl⟩
      rw [hw5] at HSM6 HRX6 HBW
      rw [hw5]
      clear hw5 hszr
      go_wp2
      go_loopw [7, 48] (fun c i wr => ∃ k : Nat, k ≤ n ∧ i = .int .i64 (k : Int) ∧ c = .int .i64 ((openTo xs k).length : Int) ∧ Below w5.heap.size w5 wr) (fun _ i _ => n - (intOf i).toNat)
      case atStart => exact ⟨0, Nat.zero_le _, rfl, rfl, Below.refl _ _⟩
      case round =>
        obtain ⟨k, hk, rfl, rfl, hbel⟩ := hrel
        have HBEL := Lib.hid hbel
        have hsz := hbel.size
        clear hbel
        by_cases hkn : k < n
        · obtain ⟨p, hp⟩ : ∃ p, xs[k]? = some p := ⟨_, List.getElem?_eq_getElem (by rw [HN.out]; exact hkn)⟩
          obtain ⟨adx, rfl, hat⟩ := (HRX6.out.below HBEL.out).at_ hp
          obtain ⟨c0, c1, c2, c3, c4, c5, c6, c7⟩ := pay_cells hat
          have HNX := Lib.hid (show (openTo xs (k + 1)).length = (openTo xs k).length + (if p.stg = 0 then 1 else 0) by rw [openTo_succ, getD_of hp])
          have hcl := openTo_le xs k
          obtain ⟨c, hc⟩ : ∃ c, (openTo xs k).length = c := ⟨_, rfl⟩
          rw [hc] at HNX hcl ⊢
          clear hat hp hc
          obtain ⟨pf, pd, pa, pc, pr, pg, pt, ps'⟩ := p
          dsimp only at c0 c1 c2 c3 c4 c5 c6 c7 HNX
          by_cases hs : ps' = 0
          · have q1 := eqT hs
            rw [if_pos hs] at HNX
            clear hs
            go_wp2
            go_roundw
            case rel => exact ⟨k + 1, by omega, by go_num, by rw [HNX.out]; go_num, HBEL.out.alloc hsz _⟩
            case measure => simp [intOf]; omega
          · have q1 := eqF hs
            rw [if_neg hs] at HNX
            clear hs
            go_wp2
            go_roundw
            case rel => exact ⟨k + 1, by omega, by go_num, by rw [HNX.out]; rfl, HBEL.out.alloc hsz _⟩
            case measure => simp [intOf]; omega
        · obtain rfl : k = n := by omega
          have hcnt := HD.out.count
          rw [HN.out, HLL.out] at hcnt
          rw [hcnt]
          have hlen := (HSM6.out.below HBEL.out).len 3
          rw [HLL.out] at hlen
          have HB7 := Lib.hid (HBW.out.trans (HBEL.out.mono HBW.out.size))
          clear hcnt HBEL
          go_wp2
          go_ret
          exact ⟨rfl, HB7.out⟩
end Go.Proofs.Ytdepidemciigkaa
