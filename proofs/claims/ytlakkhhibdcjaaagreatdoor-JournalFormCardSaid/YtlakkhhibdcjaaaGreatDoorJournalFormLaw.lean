/-
  JournalForm walked: a snapshot that is none is told; one that is has its turn, and its base.
-/
import Derived.Test.YtlakkhhibdcjaaaGreatDoorJourB
import Derived.Test.YtlakkhhibdcjaaaGreatDoorNumber
import Derived.BigQuiet
import Derived.Deep.QuietTactic
namespace Go.Proofs.YtlakkhhibdcjaaaGreatDoor
open Go Go.RowKit Go.Maps
set_option linter.unusedVariables false

theorem i64_in {x : Int} (h : (Lit.int .i64 x).wf = true) : -9223372036854775808 ≤ x ∧ x ≤ 9223372036854775807 := by
  have e1 : IntKind.i64.min = -9223372036854775808 := rfl
  have e2 : IntKind.i64.max = 9223372036854775807 := rfl
  simp only [Lit.wf, Bool.and_eq_true, decide_eq_true_eq] at h
  omega
theorem i64_wf {x : Int} (h : -9223372036854775808 ≤ x ∧ x ≤ 9223372036854775807) : (Lit.int .i64 x).wf = true := by
  have e1 : IntKind.i64.min = -9223372036854775808 := rfl
  have e2 : IntKind.i64.max = 9223372036854775807 := rfl
  simp only [Lit.wf, Bool.and_eq_true, decide_eq_true_eq]
  omega
theorem snapB_some {xs r : List Nat} {u k : Nat} (hf : fone xs = some r) (hl : 6 + r.length = xs.length) (hr : rd r = some (u, k)) (hu : ¬ unp u < 1) : snapB xs = some (unp u, r.drop k) := by
  unfold snapB
  rw [hf]
  simp only
  rw [if_pos hl, hr]
  simp only
  rw [if_neg hu]

section
variable {S : Nat → Prop} {w : World} {base sb : Nat}
/-- Open, of a disk that has one file, a snapshot's. -/
theorem open_snap {xs b : List Nat} {t : Int} (hd : DiskQ w S base sb 262144 [(0, xs, 0)] calm) (hl : xs.length ≤ 300000) (hbase : base ≤ w.heap.size) (hs : snapB xs = some (t, b)) (ht : t ≤ 9223372036854775807) :
    Calls Tryz.prog 9 #[.pointer (some ⟨sb, 0, none⟩)] w fun e w' => ∃ jb T', e = .returned (.tuple #[.pointer (some ⟨jb, 0, none⟩), .nilIface]) ∧ JAt w' T' base jb sb t b [] false ∧ Fr S w w' := by
  have h1 := (snapB_in hs).1
  obtain ⟨k, hk⟩ : ∃ k, IntKind.i64.wrap (2 + t) = k := ⟨_, rfl⟩
  have hk' := hk
  rw [IntKind.wrap_i64] at hk'
  have hkw : (Lit.int .i64 k).wf = true := i64_wf (by omega)
  have hk0 : ((0 : Int) == k) = false := by simp; omega
  have hf : [((0 : Int), xs, 0)].filter (kept k) = [((0 : Int), xs, 0)] := by simp [kept]
  have hg : (pget ([((0 : Int), xs, 0)].filter (kept k)) k).getD ([], 0) = ([], 0) := by rw [hf]; simp [pget, hk0]
  refine (open_any hd (fun p hp => by simp at hp; subst hp; exact ⟨hl, wf0⟩) (by simp) hbase (t := t) (b := b) (by simpa [pget, snapOf] using hs) hk hkw hg).mono ?_
  rintro e w' ⟨rs, jb, S', T', hsc, he, hj, hf, hw, hT⟩
  have hrs : rs = [] := hsc.none_ (fone_short (by simp))
  subst hrs
  exact ⟨jb, T', he, hj.jat, hf⟩
end

set_option maxRecDepth 100000 in
set_option maxHeartbeats 4000000 in
theorem journalForm_walk (w : World) (b : Option Addr) (lb cb : Nat) (zb : List Int) (hb : IsRow .u8 w b lb cb zb) (turn : Int) (hturn : (Lit.int .i64 turn).wf = true) (a : Option Addr) (la ca : Nat) (za : List Int) (ha : IsRow .u8 w a la ca za) (extra : Bool) (hh : HasErr w) :
    Calls Tryz.prog 5 #[.slice b lb cb, .int .i64 turn, .slice a la ca, .bool extra] w fun e w' => e = .returned (.bool true) ∧ Below w.heap.size w w' := by
  have htn := i64_in hturn
  obtain ⟨xs0, hra0, hxl0, hxw0, hna, hca⟩ := row_bytes ha
  obtain ⟨ys0, hrb0, hyl0, hyw0, hnb, hcb⟩ := row_bytes hb
  obtain ⟨m, hm⟩ : ∃ m, m = min lb 500 := ⟨_, rfl⟩
  obtain ⟨m2, hm2⟩ : ∃ m2, m2 = min la 500 := ⟨_, rfl⟩
  have hmin := min2_ok (P := Tryz.prog) lb 500 m (lb : Int) 500 rfl rfl hm
  have hmin2 := min2_ok (P := Tryz.prog) la 500 m2 (la : Int) 500 rfl rfl hm2
  have hf1 := fun W => run_front W b lb cb m (by omega)
  have hf2 := fun W => run_front W a la ca m2 (by omega)
  have hrb := hrb0.front (j := m) (by omega)
  have hra := hra0.front (j := m2) (by omega)
  rw [ints_take] at hra hrb
  obtain ⟨ys, hys⟩ : ∃ ys, ys = ys0.take m := ⟨_, rfl⟩
  obtain ⟨qs, hqs⟩ : ∃ qs, qs = xs0.take m2 := ⟨_, rfl⟩
  rw [← hys] at hrb
  rw [← hqs] at hra
  have hyw : ∀ x ∈ ys, x < 256 := fun x hx => hyw0 x (by rw [hys] at hx; exact List.mem_of_mem_take hx)
  have hqw : ∀ x ∈ qs, x < 256 := fun x hx => hxw0 x (by rw [hqs] at hx; exact List.mem_of_mem_take hx)
  have hyl : ys.length = m := by rw [hys, List.length_take]; omega
  have hql : qs.length = m2 := by rw [hqs, List.length_take]; omega
  have hm5 : m ≤ 500 := by omega
  have hm25 : m2 ≤ 500 := by omega
  have hmc : m ≤ cb := by omega
  have hmc2 : m2 ≤ ca := by omega
  have HRB := Lib.hid hrb
  have HRA := Lib.hid hra
  have HYW := Lib.hid hyw
  have HQW := Lib.hid hqw
  have HYL := Lib.hid hyl
  have HQL := Lib.hid hql
  have HH := Lib.hid hh
  have HCB := Lib.hid hcb
  unfold maxLen at hcb hca
  clear ha hb hra0 hrb0 hxw0 hyw0 hxl0 hyl0 hra hrb hyw hqw hyl hql hh hys hqs hm hm2 hturn
  go_enter Tryz.func5, Tryz.ntmps5
  go_wp2_with fail
  refine (awake_ok w).mono ?_
  rintro e w1 ⟨rfl, hb1⟩
  have HB1 := Lib.hid hb1
  have hz1 := hb1.size
  clear hb1
  go_wp2
  go_quiet (fail)
  have hbq : Below w1.heap.size w1 (w1.drewN nq) := ⟨rfl, rfl, rfl, Nat.le_refl _, fun _ _ => rfl⟩
  generalize w1.drewN nq = wq at *
  have HBQ := Lib.hid (HB1.out.trans (hbq.mono hz1))
  have hzq := HBQ.out.size
  clear hbq hmin hmin2 hf1 hf2
  go_wp2_with fail
  refine (of_q 262144 262144 262144 wq rfl rfl).mono ?_
  rintro e w2 ⟨rfl, hd2, hb2⟩
  have hz2 := hb2.size
  have hsb2 := (hd2.low wq.heap.size rfl).2
  have HD2 := Lib.hid hd2
  have HB2 := Lib.hid (HBQ.out.trans (hb2.mono hzq))
  clear hd2 hb2
  cases extra with
  | false =>
    obtain ⟨X, hX⟩ : ∃ X, X = b := ⟨_, rfl⟩
    obtain ⟨xs, hxs⟩ : ∃ xs, xs = ys := ⟨_, rfl⟩
    obtain ⟨xl, hxl⟩ : ∃ xl, xl = m := ⟨_, rfl⟩
    obtain ⟨xc, hxc⟩ : ∃ xc, xc = cb := ⟨_, rfl⟩
    obtain ⟨w3, hw3⟩ : ∃ w3, w3 = w2 := ⟨_, rfl⟩
    have hr3 : Rd .u8 w3 X xl (ints xs) := by rw [hw3, hX, hxs, hxl]; exact HRB.out.below HB2.out
    have hto3 : RowTo (fun i => i ≠ wq.heap.size) (.slice X xl xc) := by rw [hX, hxl]; exact HRB.out.to.wide fun i hi => by omega
    have hxw : ∀ x ∈ xs, x < 256 := by rw [hxs]; exact HYW.out
    have hxlen : xs.length = xl := by rw [hxs, hxl]; exact HYL.out
    have hxm : xl ≤ 600 := by omega
    have hxlc : xl ≤ xc := by omega
    have hxcm : xc ≤ 9223372036854775807 := by omega
    have HD3 := Lib.hid (show DiskQ w3 (fun i => i = wq.heap.size) wq.heap.size wq.heap.size 262144 [] calm by rw [hw3]; exact HD2.out)
    have HB3 := Lib.hid (show Below w.heap.size w w3 by rw [hw3]; exact HB2.out)
    have hz3 : wq.heap.size ≤ w3.heap.size := by rw [hw3]; exact hz2
    rw [← hX, ← hxl, ← hxc, ← hw3]
    have HR3 := Lib.hid hr3
    have HTO := Lib.hid hto3
    have HXW := Lib.hid hxw
    have HXL := Lib.hid hxlen
    clear hX hxs hxl hxc hw3 hr3 hto3 hxw hxlen
    go_wp2_with fail
    refine (append_q HD3.out rfl (by show 0 ≤ _; omega) wf0 X xl xc xs HR3.out HXW.out (zs := []) (n := 0) rfl (by omega) (by simp [ptotal]; omega) (by simp) hz3).mono ?_
    rintro e w7 ⟨rfl, S7, hd7, hf7, hw7⟩
    have hd7' : DiskQ w7 S7 wq.heap.size wq.heap.size 262144 [(0, xs, 0)] calm := hd7
    have hr7 : Rd .u8 w7 X xl (ints xs) := HR3.out.same fun ad ha hn => hf7.block _ (by have := HR3.out.to X xl xc ad rfl hn ha; exact this) (HTO.out X xl xc ad rfl hn ha)
    have hb7 : Below wq.heap.size w3 w7 := hf7.below (fun i hi => by omega) hz3
    have HD7 := Lib.hid hd7'
    have HR7 := Lib.hid hr7
    have HB7 := Lib.hid (HB3.out.trans (hb7.mono hzq))
    have hz7 : wq.heap.size ≤ w7.heap.size := Nat.le_trans hz3 hf7.size
    have hz7w := HB7.out.size
    clear hd7 hd7' hf7 hw7 hr7 hb7
    obtain ⟨f, hf⟩ : ∃ f, fone xs = f := ⟨_, rfl⟩
    have HF := Lib.hid hf
    clear hf
    have hce : calm.err = .nilIface := rfl
    rw [hce]
    clear hce
    go_wp2_with fail
    refine (one_any X xl xc xs w7 HR7.out HXW.out hxlc hxcm f HF.out).mono ?_
    rintro e w8 ⟨hb8, hres⟩
    have HD8 := Lib.hid (HD7.out.below hb8)
    have HB8 := Lib.hid (HB7.out.trans (hb8.mono hz7w))
    have hz8 : wq.heap.size ≤ w8.heap.size := Nat.le_trans hz7 hb8.size
    have hz8w := HB8.out.size
    clear hb8
    have hxl3 : ∀ p ∈ [((0 : Int), xs, 0)], p.2.1.length ≤ 300000 := by
      intro p hp
      simp at hp
      subst hp
      simp only [HXL.out]
      omega
    have HX3 := Lib.hid hxl3
    clear hxl3
    cases f with
    | none =>
      obtain rfl := hres
      have hsn : snapB xs = none := by unfold snapB; rw [HF.out]
      have HSN := Lib.hid (show snapOf (pget [((0 : Int), xs, 0)] 0) = none from by simpa [pget, snapOf] using hsn)
      clear hsn
      go_wp2_with fail
      refine (open_bad HD8.out HX3.out HSN.out).mono ?_
      rintro e w9 ⟨rfl, hb9⟩
      have HB9 := Lib.hid (HB8.out.trans (hb9.mono hz8w))
      have hz9 := HB9.out.size
      clear hb9
      go_wp2_with fail
      refine (number_err 11 w9 (HH.out.below HB9.out)).mono ?_
      rintro e w10 ⟨rfl, hb10⟩
      have HB10 := Lib.hid (HB9.out.trans (hb10.mono hz9))
      clear hb10
      go_wp2
      go_ret
      exact ⟨rfl, HB10.out⟩
    | some r =>
      obtain ⟨Y, yc, rfl, hy1, hy2, hry, hyn⟩ := hres
      have hrs := (fone_some HF.out).2.1
      rw [HXL.out] at hrs
      have hrl : ∀ x ∈ r, x < 256 := fun x hx => by
        have h4 := (fone_some HF.out).2.2.2.1
        rw [h4] at hx
        exact HXW.out x (List.mem_of_mem_drop (List.mem_of_mem_take hx))
      obtain ⟨yl, hyle⟩ : ∃ yl, yl = r.length := ⟨_, rfl⟩
      rw [← hyle] at hrs hy1 hry ⊢
      have HYLE := Lib.hid hyle
      have HRL := Lib.hid hrl
      have HRY := Lib.hid hry
      have HYN := Lib.hid hyn
      clear hyle hrl hry hyn
      by_cases hsz : 6 + yl = xl
      · have t1 := eqT (show 6 + (yl : Int) = (xl : Int) by omega)
        have hsz' : 6 + r.length = xs.length := by rw [← HYLE.out, HXL.out]; exact hsz
        have HSZ := Lib.hid hsz'
        clear hsz'
        cases hrr : rd r with
        | none =>
          have hsn : snapB xs = none := by unfold snapB; rw [HF.out]; simp only; rw [hrr]; simp
          have HSN := Lib.hid (show snapOf (pget [((0 : Int), xs, 0)] 0) = none from by simpa [pget, snapOf] using hsn)
          have HRR := Lib.hid hrr
          clear hsn hrr
          go_wp2_with fail
          refine (open_bad HD8.out HX3.out HSN.out).mono ?_
          rintro e w9 ⟨rfl, hb9⟩
          have HB9 := Lib.hid (HB8.out.trans (hb9.mono hz8w))
          have HRY9 := Lib.hid (HRY.out.below hb9)
          have hz9 := HB9.out.size
          clear hb9
          go_wp2_with fail
          refine (get_none Y yl yc r w9 HRY9.out HRL.out hy1 hy2 HRR.out).mono ?_
          rintro e w9' ⟨rfl, rfl⟩
          go_wp2_with fail
          refine (number_err 11 w9 (HH.out.below HB9.out)).mono ?_
          rintro e w10 ⟨rfl, hb10⟩
          have HB10 := Lib.hid (HB9.out.trans (hb10.mono hz9))
          clear hb10
          go_wp2
          go_ret
          exact ⟨rfl, HB10.out⟩
        | some us =>
          obtain ⟨u, k⟩ := us
          have HRR := Lib.hid hrr
          clear hrr
          have hub := rd_some HRL.out HRR.out
          obtain ⟨x9, hx9⟩ : ∃ x9, x9 = unp u := ⟨_, rfl⟩
          by_cases hu : x9 < 1
          · have hsn : snapB xs = none := by unfold snapB; rw [HF.out]; simp only; rw [HRR.out]; simp only [← hx9, if_pos hu]; simp
            have HSN := Lib.hid (show snapOf (pget [((0 : Int), xs, 0)] 0) = none from by simpa [pget, snapOf] using hsn)
            clear hsn hub
            go_wp2_with fail
            refine (open_bad HD8.out HX3.out HSN.out).mono ?_
            rintro e w9 ⟨rfl, hb9⟩
            have HB9 := Lib.hid (HB8.out.trans (hb9.mono hz8w))
            have HRY9 := Lib.hid (HRY.out.below hb9)
            have hz9 := HB9.out.size
            clear hb9
            go_wp2_with fail
            refine (get_some Y yl yc r w9 u k HRY9.out HRL.out hy1 hy2 (by omega) HRR.out).mono ?_
            rintro e w10 ⟨v10, rfl, ho10, hb10⟩
            obtain ⟨A10, c10, rfl, _, _, _, _⟩ := ho10.form
            have HB10 := Lib.hid (HB9.out.trans (hb10.mono hz9))
            have hz10 := HB10.out.size
            rw [← hx9]
            obtain ⟨l10, hl10⟩ : ∃ l10, l10 = (r.drop k).length := ⟨_, rfl⟩
            rw [← hl10]
            clear ho10 hb10 hx9 hl10
            go_wp2_with fail
            refine (number_err 11 w10 (HH.out.below HB10.out)).mono ?_
            rintro e w11 ⟨rfl, hb11⟩
            have HB11 := Lib.hid (HB10.out.trans (hb11.mono hz10))
            clear hb11
            go_wp2
            go_ret
            exact ⟨rfl, HB11.out⟩
          · have hsn := snapB_some HF.out HSZ.out HRR.out (by rw [← hx9]; exact hu)
            have hubd : x9 ≤ 9223372036854775807 := by rw [hx9]; exact (unp_bd hub.1).2
            rw [← hx9] at hsn
            have HSN := Lib.hid hsn
            have HX9 := Lib.hid hx9
            clear hsn hub hx9
            go_wp2_with fail
            refine (open_snap HD8.out (by rw [HXL.out]; omega) hz8 HSN.out hubd).mono ?_
            rintro e w9 ⟨jb, T9, rfl, hj9, hf9⟩
            have hb9 : Below wq.heap.size w8 w9 := hf9.below (fun i hi => (HD8.out.low i hi).1) hz8
            have HB9 := Lib.hid (HB8.out.trans (hb9.mono hzq))
            have hry9 : Rd .u8 w9 Y yl (ints r) := HRY.out.same fun ad ha hn => hf9.block _ (by have := HRY.out.to Y yl yc ad rfl hn ha; exact this) (fun hS => by have h1 := (HD7.out.low _ hS).2; have h2 := HYN.out ad ha; omega)
            have HRY9 := Lib.hid hry9
            have HJ9 := Lib.hid hj9
            have hz9 := HB9.out.size
            clear hb9 hf9 hj9 hry9
            go_wp2_with fail
            refine (get_some Y yl yc r w9 u k HRY9.out HRL.out hy1 hy2 (by omega) HRR.out).mono ?_
            rintro e w10 ⟨v10, rfl, ho10, hb10⟩
            obtain ⟨A10, c10, rfl, _, _, hr10, _⟩ := ho10.form
            have HB10 := Lib.hid (HB9.out.trans (hb10.mono hz9))
            have HJ10 := Lib.hid (HJ9.out.below hb10)
            have hz10 := HB10.out.size
            rw [← HX9.out]
            have d10 := str_of w10 A10 (r.drop k).length c10 (r.drop k) hr10
            have hsh := shows_any HJ10.out (r.drop k) (fun x hx => HRL.out x (List.mem_of_mem_drop hx)) none 0 0 [] rfl RdStrs.nil (by simp) (by omega) x9 true (by simp)
            obtain ⟨l10, hl10⟩ : ∃ l10, l10 = (r.drop k).length := ⟨_, rfl⟩
            rw [← hl10] at d10 ⊢
            have HSH := Lib.hid hsh
            clear ho10 hb10 hr10 hl10 hsh
            go_wp2_with fail
            refine HSH.out.mono ?_
            rintro e w11 ⟨rfl, hb11⟩
            have HB11 := Lib.hid (HB10.out.trans (hb11.mono hz10))
            clear hb11
            go_wp2
            go_ret
            exact ⟨rfl, HB11.out⟩
      · have t1 := eqF (show 6 + (yl : Int) ≠ (xl : Int) by omega)
        have hsn : snapB xs = none := by unfold snapB; rw [HF.out]; simp only; rw [if_neg (by rw [← HYLE.out, HXL.out]; exact hsz)]
        have HSN := Lib.hid (show snapOf (pget [((0 : Int), xs, 0)] 0) = none from by simpa [pget, snapOf] using hsn)
        clear hsn
        go_wp2_with fail
        refine (open_bad HD8.out HX3.out HSN.out).mono ?_
        rintro e w9 ⟨rfl, hb9⟩
        have HB9 := Lib.hid (HB8.out.trans (hb9.mono hz8w))
        have hz9 := HB9.out.size
        clear hb9
        go_wp2_with fail
        refine (number_err 11 w9 (HH.out.below HB9.out)).mono ?_
        rintro e w10 ⟨rfl, hb10⟩
        have HB10 := Lib.hid (HB9.out.trans (hb10.mono hz9))
        clear hb10
        go_wp2
        go_ret
        exact ⟨rfl, HB10.out⟩
  | true =>
    have hne := enc_len_ten (pairN_lt htn.1 htn.2)
    go_wp2_with fail
    refine (all_any (some ⟨w2.heap.size, 0, none⟩) 1 1 [turn] _ (Rd.oneInt turn) (by intro x hx; simp at hx; subst hx; omega) (by omega)).mono ?_
    rintro e w4 ⟨v, rfl, ho, hb4⟩
    rw [encs_one] at ho
    have hb4' : Below w2.heap.size w2 w4 := ((Below.refl _ w2).alloc (Nat.le_refl _) _).trans (hb4.mono (by simp))
    have hz4 := hb4'.size
    obtain ⟨x, hx⟩ : ∃ x, x = (enc (pairN turn)).length := ⟨_, rfl⟩
    rw [← hx] at ho hne
    have HO := Lib.hid (ho.less (b := w2.heap.size) (by simp))
    have HB4 := Lib.hid hb4'
    have HX := Lib.hid hx
    have HRA4 := Lib.hid ((HRA.out.below HB2.out).below hb4')
    clear ho hb4 hb4' hx
    go_wp2_with (at_builtin; refine wpList_append_ints _ rfl (.tmp 37) (.tmp 38) 34 rfl .u8 1 w2.heap.size 5 Tryz.underlying34 info_byte _ x _ rfl HO.out a m2 ca _ rfl HRA4.out (by omega) (by omega) (by omega) ?_; intro v' w5 ho' hg)
    have hb5 : Below w2.heap.size w2 w5 := HB4.out.grown hg hz4 HO.out.rowLt
    rw [← ints_append] at ho'
    obtain ⟨B, d, rfl, _, _, hrd, _⟩ := ho'.form
    have hln : (snapRec turn qs).length = x + m2 := by rw [snapRec, List.length_append, ← HX.out, HQL.out]
    have hz5 := hb5.size
    have HB5 := Lib.hid hb5
    have HRD := Lib.hid (show Rd .u8 w5 B (x + m2) (ints (snapRec turn qs)) from hrd)
    clear hg ho' hrd hb5
    refine (make_any B (x + m2) d (snapRec turn qs) w5 HRD.out (snapRec_lt HQW.out) (by omega)).mono ?_
    rintro e w3 ⟨X, xc, rfl, hm1, hm2, hrd3, hb6⟩
    have hnew : RowTo (fun i => i ≠ wq.heap.size) (.slice X (fmk (snapRec turn qs)).length xc) := fun A' n' c' ad e hn ha => by
      injection e with e1 e2 e3
      subst e1 e2
      obtain ⟨ad', ha', hc⟩ := hrd3.2 hn
      rw [ha] at ha'
      injection ha' with ha'
      subst ha'
      obtain ⟨mv, fs, hd, _⟩ := HD2.out.below (HB5.out.trans (hb6.mono hz5))
      have := hd.ne_u8 (hc 0 hn)
      rwa [add_block] at this
    obtain ⟨xs, hxs⟩ : ∃ xs, xs = fmk (snapRec turn qs) := ⟨_, rfl⟩
    have hxw : ∀ y ∈ xs, y < 256 := by rw [hxs]; exact fmk_lt (snapRec_lt HQW.out)
    rw [← hxs] at hnew hm1 hrd3 ⊢
    have hxlen0 : xs.length = 6 + (x + m2) := by rw [hxs, fmk_length, hln]
    obtain ⟨xl, hxl⟩ : ∃ xl, xs.length = xl := ⟨_, rfl⟩
    rw [hxl] at hnew hm1 hrd3 hxlen0 ⊢
    have hxm : xl ≤ 600 := by omega
    have hxlc : xl ≤ xc := hm1
    have hxcm : xc ≤ 9223372036854775807 := by unfold maxLen at hm2; omega
    have hb3 : Below w2.heap.size w2 w3 := HB5.out.trans (hb6.mono hz5)
    have HD3 := Lib.hid (show DiskQ w3 (fun i => i = wq.heap.size) wq.heap.size wq.heap.size 262144 [] calm from HD2.out.below hb3)
    have HB3 := Lib.hid (HB2.out.trans (hb3.mono (by omega)))
    have hz3 : wq.heap.size ≤ w3.heap.size := by have := hb3.size; omega
    have HR3 := Lib.hid hrd3
    have HTO := Lib.hid hnew
    have HXW := Lib.hid hxw
    have HXL := Lib.hid hxl
    clear hxs hrd3 hnew hxw hxl hb6 hb3 hm1 hm2 hxlen0 hln hne
    go_wp2_with fail
    refine (append_q HD3.out rfl (by show 0 ≤ _; omega) wf0 X xl xc xs HR3.out HXW.out (zs := []) (n := 0) rfl (by omega) (by simp [ptotal]; omega) (by simp) hz3).mono ?_
    rintro e w7 ⟨rfl, S7, hd7, hf7, hw7⟩
    have hd7' : DiskQ w7 S7 wq.heap.size wq.heap.size 262144 [(0, xs, 0)] calm := hd7
    have hr7 : Rd .u8 w7 X xl (ints xs) := HR3.out.same fun ad ha hn => hf7.block _ (by have := HR3.out.to X xl xc ad rfl hn ha; exact this) (HTO.out X xl xc ad rfl hn ha)
    have hb7 : Below wq.heap.size w3 w7 := hf7.below (fun i hi => by omega) hz3
    have HD7 := Lib.hid hd7'
    have HR7 := Lib.hid hr7
    have HB7 := Lib.hid (HB3.out.trans (hb7.mono hzq))
    have hz7 : wq.heap.size ≤ w7.heap.size := Nat.le_trans hz3 hf7.size
    have hz7w := HB7.out.size
    clear hd7 hd7' hf7 hw7 hr7 hb7
    obtain ⟨f, hf⟩ : ∃ f, fone xs = f := ⟨_, rfl⟩
    have HF := Lib.hid hf
    clear hf
    have hce : calm.err = .nilIface := rfl
    rw [hce]
    clear hce
    go_wp2_with fail
    refine (one_any X xl xc xs w7 HR7.out HXW.out hxlc hxcm f HF.out).mono ?_
    rintro e w8 ⟨hb8, hres⟩
    have HD8 := Lib.hid (HD7.out.below hb8)
    have HB8 := Lib.hid (HB7.out.trans (hb8.mono hz7w))
    have hz8 : wq.heap.size ≤ w8.heap.size := Nat.le_trans hz7 hb8.size
    have hz8w := HB8.out.size
    clear hb8
    have hxl3 : ∀ p ∈ [((0 : Int), xs, 0)], p.2.1.length ≤ 300000 := by
      intro p hp
      simp at hp
      subst hp
      simp only [HXL.out]
      omega
    have HX3 := Lib.hid hxl3
    clear hxl3
    cases f with
    | none =>
      obtain rfl := hres
      have hsn : snapB xs = none := by unfold snapB; rw [HF.out]
      have HSN := Lib.hid (show snapOf (pget [((0 : Int), xs, 0)] 0) = none from by simpa [pget, snapOf] using hsn)
      clear hsn
      go_wp2_with fail
      refine (open_bad HD8.out HX3.out HSN.out).mono ?_
      rintro e w9 ⟨rfl, hb9⟩
      have HB9 := Lib.hid (HB8.out.trans (hb9.mono hz8w))
      have hz9 := HB9.out.size
      clear hb9
      go_wp2_with fail
      refine (number_err 11 w9 (HH.out.below HB9.out)).mono ?_
      rintro e w10 ⟨rfl, hb10⟩
      have HB10 := Lib.hid (HB9.out.trans (hb10.mono hz9))
      clear hb10
      go_wp2
      go_ret
      exact ⟨rfl, HB10.out⟩
    | some r =>
      obtain ⟨Y, yc, rfl, hy1, hy2, hry, hyn⟩ := hres
      have hrs := (fone_some HF.out).2.1
      rw [HXL.out] at hrs
      have hrl : ∀ x ∈ r, x < 256 := fun x hx => by
        have h4 := (fone_some HF.out).2.2.2.1
        rw [h4] at hx
        exact HXW.out x (List.mem_of_mem_drop (List.mem_of_mem_take hx))
      obtain ⟨yl, hyle⟩ : ∃ yl, yl = r.length := ⟨_, rfl⟩
      rw [← hyle] at hrs hy1 hry ⊢
      have HYLE := Lib.hid hyle
      have HRL := Lib.hid hrl
      have HRY := Lib.hid hry
      have HYN := Lib.hid hyn
      clear hyle hrl hry hyn
      by_cases hsz : 6 + yl = xl
      · have t1 := eqT (show 6 + (yl : Int) = (xl : Int) by omega)
        have hsz' : 6 + r.length = xs.length := by rw [← HYLE.out, HXL.out]; exact hsz
        have HSZ := Lib.hid hsz'
        clear hsz'
        cases hrr : rd r with
        | none =>
          have hsn : snapB xs = none := by unfold snapB; rw [HF.out]; simp only; rw [hrr]; simp
          have HSN := Lib.hid (show snapOf (pget [((0 : Int), xs, 0)] 0) = none from by simpa [pget, snapOf] using hsn)
          have HRR := Lib.hid hrr
          clear hsn hrr
          go_wp2_with fail
          refine (open_bad HD8.out HX3.out HSN.out).mono ?_
          rintro e w9 ⟨rfl, hb9⟩
          have HB9 := Lib.hid (HB8.out.trans (hb9.mono hz8w))
          have HRY9 := Lib.hid (HRY.out.below hb9)
          have hz9 := HB9.out.size
          clear hb9
          go_wp2_with fail
          refine (get_none Y yl yc r w9 HRY9.out HRL.out hy1 hy2 HRR.out).mono ?_
          rintro e w9' ⟨rfl, rfl⟩
          go_wp2_with fail
          refine (number_err 11 w9 (HH.out.below HB9.out)).mono ?_
          rintro e w10 ⟨rfl, hb10⟩
          have HB10 := Lib.hid (HB9.out.trans (hb10.mono hz9))
          clear hb10
          go_wp2
          go_ret
          exact ⟨rfl, HB10.out⟩
        | some us =>
          obtain ⟨u, k⟩ := us
          have HRR := Lib.hid hrr
          clear hrr
          have hub := rd_some HRL.out HRR.out
          obtain ⟨x9, hx9⟩ : ∃ x9, x9 = unp u := ⟨_, rfl⟩
          by_cases hu : x9 < 1
          · have hsn : snapB xs = none := by unfold snapB; rw [HF.out]; simp only; rw [HRR.out]; simp only [← hx9, if_pos hu]; simp
            have HSN := Lib.hid (show snapOf (pget [((0 : Int), xs, 0)] 0) = none from by simpa [pget, snapOf] using hsn)
            clear hsn hub
            go_wp2_with fail
            refine (open_bad HD8.out HX3.out HSN.out).mono ?_
            rintro e w9 ⟨rfl, hb9⟩
            have HB9 := Lib.hid (HB8.out.trans (hb9.mono hz8w))
            have HRY9 := Lib.hid (HRY.out.below hb9)
            have hz9 := HB9.out.size
            clear hb9
            go_wp2_with fail
            refine (get_some Y yl yc r w9 u k HRY9.out HRL.out hy1 hy2 (by omega) HRR.out).mono ?_
            rintro e w10 ⟨v10, rfl, ho10, hb10⟩
            obtain ⟨A10, c10, rfl, _, _, _, _⟩ := ho10.form
            have HB10 := Lib.hid (HB9.out.trans (hb10.mono hz9))
            have hz10 := HB10.out.size
            rw [← hx9]
            obtain ⟨l10, hl10⟩ : ∃ l10, l10 = (r.drop k).length := ⟨_, rfl⟩
            rw [← hl10]
            clear ho10 hb10 hx9 hl10
            go_wp2_with fail
            refine (number_err 11 w10 (HH.out.below HB10.out)).mono ?_
            rintro e w11 ⟨rfl, hb11⟩
            have HB11 := Lib.hid (HB10.out.trans (hb11.mono hz10))
            clear hb11
            go_wp2
            go_ret
            exact ⟨rfl, HB11.out⟩
          · have hsn := snapB_some HF.out HSZ.out HRR.out (by rw [← hx9]; exact hu)
            have hubd : x9 ≤ 9223372036854775807 := by rw [hx9]; exact (unp_bd hub.1).2
            rw [← hx9] at hsn
            have HSN := Lib.hid hsn
            have HX9 := Lib.hid hx9
            clear hsn hub hx9
            go_wp2_with fail
            refine (open_snap HD8.out (by rw [HXL.out]; omega) hz8 HSN.out hubd).mono ?_
            rintro e w9 ⟨jb, T9, rfl, hj9, hf9⟩
            have hb9 : Below wq.heap.size w8 w9 := hf9.below (fun i hi => (HD8.out.low i hi).1) hz8
            have HB9 := Lib.hid (HB8.out.trans (hb9.mono hzq))
            have hry9 : Rd .u8 w9 Y yl (ints r) := HRY.out.same fun ad ha hn => hf9.block _ (by have := HRY.out.to Y yl yc ad rfl hn ha; exact this) (fun hS => by have h1 := (HD7.out.low _ hS).2; have h2 := HYN.out ad ha; omega)
            have HRY9 := Lib.hid hry9
            have HJ9 := Lib.hid hj9
            have hz9 := HB9.out.size
            clear hb9 hf9 hj9 hry9
            go_wp2_with fail
            refine (get_some Y yl yc r w9 u k HRY9.out HRL.out hy1 hy2 (by omega) HRR.out).mono ?_
            rintro e w10 ⟨v10, rfl, ho10, hb10⟩
            obtain ⟨A10, c10, rfl, _, _, hr10, _⟩ := ho10.form
            have HB10 := Lib.hid (HB9.out.trans (hb10.mono hz9))
            have HJ10 := Lib.hid (HJ9.out.below hb10)
            have hz10 := HB10.out.size
            rw [← HX9.out]
            have d10 := str_of w10 A10 (r.drop k).length c10 (r.drop k) hr10
            have hsh := shows_any HJ10.out (r.drop k) (fun x hx => HRL.out x (List.mem_of_mem_drop hx)) none 0 0 [] rfl RdStrs.nil (by simp) (by omega) x9 true (by simp)
            obtain ⟨l10, hl10⟩ : ∃ l10, l10 = (r.drop k).length := ⟨_, rfl⟩
            rw [← hl10] at d10 ⊢
            have HSH := Lib.hid hsh
            clear ho10 hb10 hr10 hl10 hsh
            go_wp2_with fail
            refine HSH.out.mono ?_
            rintro e w11 ⟨rfl, hb11⟩
            have HB11 := Lib.hid (HB10.out.trans (hb11.mono hz10))
            clear hb11
            go_wp2
            go_ret
            exact ⟨rfl, HB11.out⟩
      · have t1 := eqF (show 6 + (yl : Int) ≠ (xl : Int) by omega)
        have hsn : snapB xs = none := by unfold snapB; rw [HF.out]; simp only; rw [if_neg (by rw [← HYLE.out, HXL.out]; exact hsz)]
        have HSN := Lib.hid (show snapOf (pget [((0 : Int), xs, 0)] 0) = none from by simpa [pget, snapOf] using hsn)
        clear hsn
        go_wp2_with fail
        refine (open_bad HD8.out HX3.out HSN.out).mono ?_
        rintro e w9 ⟨rfl, hb9⟩
        have HB9 := Lib.hid (HB8.out.trans (hb9.mono hz8w))
        have hz9 := HB9.out.size
        clear hb9
        go_wp2_with fail
        refine (number_err 11 w9 (HH.out.below HB9.out)).mono ?_
        rintro e w10 ⟨rfl, hb10⟩
        have HB10 := Lib.hid (HB9.out.trans (hb10.mono hz9))
        clear hb10
        go_wp2
        go_ret
        exact ⟨rfl, HB10.out⟩
end Go.Proofs.YtlakkhhibdcjaaaGreatDoor
