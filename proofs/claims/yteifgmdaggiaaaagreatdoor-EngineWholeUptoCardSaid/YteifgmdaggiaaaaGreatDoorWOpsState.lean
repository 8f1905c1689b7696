/-
  The law's State by its contract: a right state of numbers.
-/
import Derived.Test.YteifgmdaggiaaaaGreatDoorWGrH
import Derived.Test.YteifgmdaggiaaaaGreatDoorWGrG
import Derived.Test.YteifgmdaggiaaaaGreatDoorWGrD
import Derived.Test.YteifgmdaggiaaaaGreatDoorWGrA
import Derived.Deep.AppendLies
import Derived.LoopTactic
import Derived.Deep.CutRange
import Derived.Deep.QuietTactic
import Derived.IntWalk
import Derived.WalkSpells
namespace Go.Proofs.YteifgmdaggiaaaaGreatDoor
open Go Go.RowKit
set_option linter.unusedVariables false
theorem u8s_slice : Tryz.prog.underlying 22 = some (.slice (Tryz.prog.elem 22)) := by kernel_rfl
theorem u8s_size (W : World) : (sizeOf (Tryz.prog.elem 22)).run Tryz.prog W = .ok 1 W := by kernel_rfl
theorem run_front8 (W : World) (A : Option Addr) (n c k : Nat) (hk : k ≤ c) : (Instr.sliceAt 22 (.slice A n c) none (some (.int .i64 (k : Int))) none).run Tryz.prog W = .ok (.slice A k c) W := by
 rw [run_sliceAt_slice _ _ _ _ _ _ u8s_slice, run_slice_h W _ _ _ _ u8s_slice _ _ (by omega) (by omega), u8s_size]
 have e : (A.map fun x => x.add 0) = A := by cases A <;> simp [Addr.add]
 simp [Result.andThen, sliced, e]
/-- The currencies that State lays. -/
def curs6 (cs : List Nat) (k : Nat) : List Nat := (cs.take k ++ [0, 1, 2, 0, 1, 0]).take 6
theorem curs6_ok {cs : List Nat} (h : ∀ x ∈ cs, x < 256) (k : Nat) : ∀ x ∈ curs6 cs k, x < 256 := fun x hx => by
 have h1 := List.mem_of_mem_take hx
 rcases List.mem_append.1 h1 with h2 | h2
 · exact h x (List.mem_of_mem_take h2)
 · simp at h2
   omega
theorem Own.kept_ {e : TypeId} {k : IntKind} {w w' : World} {base n : Nat} {v : Value} {zs : List Int} (h : Own e k w base v n zs) (hs : ∀ g, v.ownBlock = some g → w'.heap[g]? = w.heap[g]?) : Own e k w' base v n zs := by
 refine ⟨h.1, ?_⟩
 rcases h.2 with h | ⟨g, cap, cur, hv, hg, hh, r⟩
 · exact .inl h
 · exact .inr ⟨g, cap, cur, hv, hg, by rw [hs g (by rw [hv]; rfl)]; exact hh, r⟩
theorem Own.rd_ {e : TypeId} {k : IntKind} {w : World} {base n cap : Nat} {A : Option Addr} {zs : List Int} (h : Own e k w base (.slice A n cap) n zs) : Rd k w A n zs := by
 obtain ⟨A', c', e, _, _, hr, _⟩ := h.form
 injection e with e1 _ _
 subst e1
 exact hr
theorem lit6 (w : World) : Rd .u8 (w.alloc (.cells #[.int .u8 0, .int .u8 1, .int .u8 2, .int .u8 0, .int .u8 1, .int .u8 0] 5)) (some ⟨w.heap.size, 0, none⟩) 6 [0, 1, 2, 0, 1, 0] := by
 refine ⟨rfl, fun _ => ⟨_, rfl, fun j hj => ?_⟩⟩
 have hb := Blk.new w 5 #[.int .u8 0, .int .u8 1, .int .u8 2, .int .u8 0, .int .u8 1, .int .u8 0]
 have hadd : (⟨w.heap.size, 0, none⟩ : Addr).add j = ⟨w.heap.size, j, none⟩ := by unfold Addr.add; split <;> simp_all
 rw [hadd]
 match j, hj with
 | 0, _ => exact hb.cell 0 rfl
 | 1, _ => exact hb.cell 1 rfl
 | 2, _ => exact hb.cell 2 rfl
 | 3, _ => exact hb.cell 3 rfl
 | 4, _ => exact hb.cell 4 rfl
 | 5, _ => exact hb.cell 5 rfl
set_option maxRecDepth 100000 in
set_option maxHeartbeats 1000000 in
theorem state_is {w0 : World} (CA HA LA : Option Addr) (cl cc hl' hc ll lc : Nat) (cs hs : List Nat) (h1 : Rd .u8 w0 CA cl (ints cs)) (h2 : Rd .u32 w0 HA hl' (ints hs)) (h4 : ∀ x ∈ cs, x < 256) (h5 : ∀ x ∈ hs, x < 4294967296) (h8 : hl' ≤ 9223372036854775807) (hcap : cl ≤ cc) (hcm : cc ≤ maxLen) (a1 : Option Addr) (l1 c1 : Nat) (zs : List Pd) (hzl : zs.length = l1) (t : Nat) (ht : t < 256) (hl : l1 ≤ 1900000) (W : World) (hbw : Below w0.heap.size w0 W) (hr : RdS paids W a1 zs) (hfit : ∀ (j : Nat) z, zs[j]? = some z → z.fits) :
  Calls Tryz.prog 10 #[.agg #[.slice CA cl cc, .slice HA hl' hc, .slice LA ll lc], .slice a1 l1 c1, .int .u8 t] W fun e w' => ∃ (V : Sv) (s : St), e = .returned V.val ∧ SvAt w' V s ∧ Made l1 ((t : Int) % 12) s ∧ Below W.heap.size W w' ∧ (l1 = 0 → s = ⟨bookTo (curs6 cs (min cl 6)) hs [] 6, [], (t : Int) % 12⟩) := by
 obtain ⟨k, hk⟩ : ∃ k, k = min cl 6 := ⟨_, rfl⟩
 rw [← hk]
 have hmin := fun W' => min2_ok (P := Tryz.prog) cl 6 k (cl : Int) 6 rfl rfl hk W' #[3, 3] 3
 have hf1 := fun W' => run_front8 W' CA cl cc k (by omega)
 have hk6 : k ≤ 6 := by omega
 have hkl : k ≤ cl := by omega
 have HRC := Lib.hid ((h1.below hbw).front hkl)
 have HRH := Lib.hid (h2.below hbw)
 have HCS := Lib.hid h4
 have HHS := Lib.hid h5
 have hhl := h8
 have HZ := Lib.hid hr
 have HZL := Lib.hid hzl
 have HFIT := Lib.hid hfit
 have hm12 : (t : Int) % 12 = ((t % 12 : Nat) : Int) := by omega
 have hm12' : (t : Int).tmod 12 = ((t % 12 : Nat) : Int) := by rw [Int.tmod_eq_emod_of_nonneg (by omega)]; exact hm12
 obtain ⟨T, hT⟩ : ∃ T : Nat, t % 12 = T := ⟨_, rfl⟩
 have hT12 : T < 12 := by omega
 rw [hT] at hm12 hm12'
 rw [hm12]
 clear h1 h2 h4 h5 hbw hk hr hzl hfit hT hcap
 go_enter Tryz.func10, Tryz.ntmps10
 go_upto_region 1 with fail
 have q1 := (Blk.new W 25 #[.slice CA cl cc, .slice HA hl' hc, .slice LA ll lc]).more (.cells st0 35)
 have q2 := Blk.new (W.alloc (.cells #[.slice CA cl cc, .slice HA hl' hc, .slice LA ll lc] 25)) 35 st0
 rw [alloc_size] at q2
 have HBk := Lib.hid q1
 have H6 := Lib.hid q2
 have HL := Lib.hid (((Below.refl W.heap.size W).alloc (Nat.le_refl _) (.cells #[.slice CA cl cc, .slice HA hl' hc, .slice LA ll lc] 25)).alloc (by simp) (.cells st0 35))
 clear q1 q2
 generalize (W.alloc (.cells #[.slice CA cl cc, .slice HA hl' hc, .slice LA ll lc] 25)).alloc (.cells st0 35) = v2 at HBk H6 HL ⊢
 have HRC2 := Lib.hid (HRC.out.below HL.out)
 have b0 := HBk.out.cell 0 rfl
 have hgN : W.heap.size + 1 < v2.heap.size := H6.out.lt
 go_upto_region 2 with (at_builtin; first
   | (refine wpList_append_ints _ rfl (.const (.slice none 0 0)) (.tmp 20) 22 rfl .u8 1 v2.heap.size 5 Tryz.underlying22 info_byte (.slice none 0 0) 0 [] rfl Own.nil CA k cc ((ints cs).take k) rfl HRC2.out (by omega) (by omega) (Nat.le_refl _) ?_
      intro v3 w3 ho3 hg3
      rw [Nat.zero_add, List.nil_append] at ho3
      obtain ⟨A3, c3, rfl, _, _, _, _⟩ := ho3.form
      have HO3 := Lib.hid ho3
      have HB3 := Lib.hid ((Below.refl v2.heap.size v2).grown hg3 (Nat.le_refl _) (fun g e => by cases e))
      have hz3 : v2.heap.size ≤ w3.heap.size := hg3.size
      clear ho3 hg3)
   | (refine wpList_append_ints _ rfl (.tmp 21) (.tmp 22) 22 rfl .u8 1 v2.heap.size 5 Tryz.underlying22 info_byte (.slice A3 k c3) k ((ints cs).take k) rfl (HO3.out.alloc _) (some ⟨w3.heap.size, 0, none⟩) 6 6 [0, 1, 2, 0, 1, 0] rfl (lit6 w3) (by omega) (by omega) (by simp; omega) ?_
      intro v4 w4 ho4 hg4
      obtain ⟨A4, c4, rfl, hlc4, _, hrd4, _⟩ := ho4.form
      have hf2 : ∀ W', (Instr.sliceAt 22 (.slice A4 (k + 6) c4) none (some (.int .i64 6)) none).run Tryz.prog W' = .ok (.slice A4 6 c4) W' := fun W' => run_front8 W' A4 (k + 6) c4 6 (by omega)
      have HB4 := Lib.hid ((HB3.out.alloc hz3 (.cells #[.int .u8 0, .int .u8 1, .int .u8 2, .int .u8 0, .int .u8 1, .int .u8 0] 5)).grown hg4 (by simp; omega) (fun g e => HO3.out.rowLt g e))
      have HO4 := Lib.hid ho4
      have x0 := (HBk.out.later HB4.out).cell 0 rfl
      have x1 := (HBk.out.later HB4.out).loose 0
      clear ho4 hg4 hrd4 b0))
 have hne4 : ∀ g', (Value.slice A4 (k + 6) c4).ownBlock = some g' → g' ≠ W.heap.size := fun g' e => by have := World.ownsRow.lt HO4.out g' e; omega
 have G4 := Lib.hid (((HBk.out.later HB4.out).set 0 (.slice A4 6 c4)).set 2 (.slice none 0 0))
 have S4 := Lib.hid (((H6.out.later HB4.out).setOther (b := W.heap.size) (by omega) 0 (.slice A4 6 c4)).setOther (b := W.heap.size) (by omega) 2 (.slice none 0 0))
 have L4 := Lib.hid (((HL.out.trans (HB4.out.mono HL.out.size)).setCell (p := ⟨W.heap.size, 0, none⟩) (Nat.le_refl _) (.slice A4 6 c4)).setCell (p := ⟨W.heap.size, 2, none⟩) (Nat.le_refl _) (.slice none 0 0))
 have O4 := Lib.hid (Own.kept_ (w' := (w4.setCell ⟨W.heap.size, 0, none⟩ (.slice A4 6 c4)).setCell ⟨W.heap.size, 2, none⟩ (.slice none 0 0)) HO4.out (fun g' e => by rw [Below.heap_setCell _ _ _ _ (hne4 g' e), Below.heap_setCell _ _ _ _ (hne4 g' e)]))
 have z1 := ((HBk.out.later HB4.out).set 0 (.slice A4 6 c4)).cell 2 rfl
 have z2 := ((HBk.out.later HB4.out).set 0 (.slice A4 6 c4)).loose 2
 have hz4 : v2.heap.size ≤ ((w4.setCell ⟨W.heap.size, 0, none⟩ (.slice A4 6 c4)).setCell ⟨W.heap.size, 2, none⟩ (.slice none 0 0)).heap.size := by have := HB4.out.size; simpa using this
 go_upto_region 3 with fail
 clear z1 z2 x0 x1 hne4
 generalize (w4.setCell ⟨W.heap.size, 0, none⟩ (.slice A4 6 c4)).setCell ⟨W.heap.size, 2, none⟩ (.slice none 0 0) = w5 at G4 S4 L4 O4 hz4 ⊢
 have R5 := Lib.hid (show Rd .u8 w5 A4 6 (ints (curs6 cs k)) from by
   have h := (Own.rd_ O4.out).front (j := 6) (by omega)
   rw [show ints (curs6 cs k) = ((ints cs).take k ++ [0, 1, 2, 0, 1, 0]).take 6 by simp [ints, curs6, List.map_take]]
   exact h)
 have HAC := Lib.hid (accounts_curs A4 HA none 6 c4 hl' hc 0 0 (curs6 cs k) hs [] w5 R5.out (HRH.out.below L4.out) Rd.nil (curs6_ok HCS.out k) HHS.out (fun x hx => by cases hx) (by omega) hhl (by omega))
 unfold BookResC at HAC
 obtain ⟨b0, b1, b2⟩ := (show _ ∧ _ ∧ _ from ⟨G4.out.cell 0 rfl, G4.out.cell 1 rfl, G4.out.cell 2 rfl⟩)
 clear HRC HRC2 HRH HCS HHS HO4 O4 R5 hf1 hf2 hmin HB3 HB4 HBk H6 HO3
 go_upto_region 4 with (first
   | (go_at_call 31; refine HAC.out.mono ?_
      rintro _ w6 ⟨va, zz, kk, rfl, hoA, hk8, hkc, hbk, ⟨_, hkl6, hzz⟩, hb6⟩
      obtain rfl : kk = 6 := by omega
      subst hzz
      obtain ⟨Aa, ca, hva, _, _, _, _⟩ := hoA.form
      rw [hbk.len, show 9 + 6 = 15 from rfl] at hva
      subst hva
      have OA := Lib.hid hoA
      have HB6 := Lib.hid hb6
      clear hoA hk8 hkc hbk hkl6 hb6 b0 b1 b2 HAC))
 have D7 := Lib.hid (show Ds (fun b' => b' < v2.heap.size) (w6.alloc (.cells #[.slice Aa 15 ca, .slice none 0 0, .slice none 0 0, .slice none 0 0, .int .i64 (T : Int)] 35)) w6.heap.size (.slice Aa 15 ca) (.slice none 0 0) (.slice none 0 0) (.slice none 0 0) ⟨bookTo (curs6 cs k) hs [] 6, [], (T : Int)⟩ from
   ⟨Blk.new _ _ _, (OA.out.less (Nat.zero_le _)).alloc _, OwnS.nil, fun b' e => ⟨by have := World.ownsRow.lt OA.out b' e; omega, (fun e' => by cases e'), by have := World.ownsRow.lt OA.out b' e; omega⟩, (fun b' e => by cases e), by have := HB6.out.size; omega, fun b' hb' => by have := HB6.out.size; simp; omega⟩)
 have S7 := Lib.hid ((S4.out.later HB6.out).more (.cells #[.slice Aa 15 ca, .slice none 0 0, .slice none 0 0, .slice none 0 0, .int .i64 (T : Int)] 35))
 have L7 := Lib.hid ((L4.out.trans (HB6.out.mono L4.out.size)).alloc (Nat.le_trans L4.out.size HB6.out.size) (.cells #[.slice Aa 15 ca, .slice none 0 0, .slice none 0 0, .slice none 0 0, .int .i64 (T : Int)] 35))
 have M7 := Lib.hid (Made.first (curs6 cs k) hs (t := (T : Int)) (by omega))
 generalize w6.alloc (.cells #[.slice Aa 15 ca, .slice none 0 0, .slice none 0 0, .slice none 0 0, .int .i64 (T : Int)] 35) = w7 at D7 S7 L7 ⊢
 generalize w6.heap.size = gs at D7 ⊢
 clear OA HB6 S4 L4 G4
 have hgs := D7.out.blk.lt
 have hgF : ¬ gs < v2.heap.size := D7.out.gF
 go_wp2
 go_loopw [35] (fun i wr => ∃ (j : Nat) (va vp : Value) (s : St), j ≤ l1 ∧ i = .int .i64 (j : Int) ∧ Ds (fun b' => b' < v2.heap.size) wr gs va vp (.slice none 0 0) (.slice none 0 0) s ∧ Made j (T : Int) s ∧ On (fun b' => b' < v2.heap.size) w7 wr ∧ (j = 0 → s = ⟨bookTo (curs6 cs k) hs [] 6, [], (T : Int)⟩)) (fun i _ => l1 - (intOf i).toNat)
 case atStart => exact ⟨0, _, _, _, Nat.zero_le _, rfl, D7.out, M7.out, On.refl _ _, fun _ => rfl⟩
 case round =>
  obtain ⟨j, va, vp, s, hj, rfl, hD, hM, hO, hfst⟩ := hrel
  have HFST := Lib.hid hfst
  clear hfst
  obtain ⟨A, c, rfl, _, hc1, hc2, hnil⟩ := hD.oa.form
  obtain ⟨B, d, rfl, _, _, _, _⟩ := hD.op.form
  obtain ⟨q, hq⟩ : ∃ q, s.pys.length = q := ⟨_, rfl⟩
  have hqj : q ≤ j := by rw [← hq]; exact hM.pays
  have hal := hM.len
  rw [hal] at hD hc1 hnil
  rw [hq] at hD
  have HQ := Lib.hid hq
  have HAL := Lib.hid hal
  have HD := Lib.hid hD
  have HM := Lib.hid hM
  have HO := Lib.hid hO
  have HLW := Lib.hid (L7.out.trans (hO.below (B := W.heap.size) (fun k' hk' => by omega)))
  have HNIL := Lib.hid hnil
  clear hD hM hO hnil hq hal
  by_cases hlt : j < l1
  · obtain ⟨z, hz⟩ : ∃ z, zs[j]? = some z := ⟨_, List.getElem?_eq_getElem (by rw [HZL.out]; exact hlt)⟩
    have hzf := HFIT.out j z hz
    obtain ⟨ad, rfl, hat⟩ := (HZ.out.below HLW.out).at_ hz
    obtain ⟨p0, p1, p2, p3, p4, p5, p6, p7⟩ := paid_cells hat
    have HPD := Lib.hid (fun Wx => paid_any z hzf Wx)
    have HADD := Lib.hid (fun hne => HM.out.add hzf hne (by omega))
    obtain ⟨p, hp⟩ : ∃ p, z.pay = p := ⟨_, rfl⟩
    rw [hp] at HPD HADD
    unfold PyRes at HPD
    unfold Pd.val at HPD
    obtain ⟨zf, zt, za, zc, zr, zg, zu, zl⟩ := z
    obtain ⟨pf, pd, pa, pc, pr, pg, pt, pst⟩ := p
    unfold Py.val at HPD
    dsimp only at p0 p1 p2 p3 p4 p5 p6 p7 HPD HADD
    clear hz hzf hat hp
    go_upto_region 8 with (first
      | (go_at_call 32; refine (HPD.out _).mono ?_; rintro _ x1 ⟨rfl, hx1⟩
         have X1 := Lib.hid (((Below.refl wr.heap.size wr).alloc (Nat.le_refl _) (.cells #[.int .u8 (zf : Int), .int .u8 (zt : Int), .int .u8 (za : Int), .int .u8 (zc : Int), .int .u8 (zr : Int), .int .u8 (zg : Int), .int .u8 (zu : Int), .bool zl] 93)).trans (hx1.mono (by simp)))
         clear hx1))
    have hgP0 : wr.heap.size ≤ x1.heap.size := X1.out.size
    have hgP1 := HD.out.blk.lt
    have HB2 := Lib.hid (X1.out.alloc X1.out.size (.cells #[.int .i64 pf, .int .i64 pd, .int .i64 pa, .int .i64 pc, .int .i64 pr, .int .i64 pg, .int .i64 pt, .int .i64 pst] 96))
    have HP2 := Lib.hid (Blk.new x1 96 #[.int .i64 pf, .int .i64 pd, .int .i64 pa, .int .i64 pc, .int .i64 pr, .int .i64 pg, .int .i64 pt, .int .i64 pst])
    clear X1 p0 p1 p2 p3 p4 p5 p6 p7 HPD
    generalize x1.alloc (.cells #[.int .i64 pf, .int .i64 pd, .int .i64 pa, .int .i64 pc, .int .i64 pr, .int .i64 pg, .int .i64 pt, .int .i64 pst] 96) = x2 at HB2 HP2 ⊢
    have hgP : gs ≠ x1.heap.size := by omega
    clear hgP0 hgP1
    generalize x1.heap.size = gp at HP2 hgP ⊢
    have D2 := Lib.hid (HD.out.below HB2.out)
    have O2 := Lib.hid (HO.out.trans (HD.out.on HB2.out))
    obtain ⟨p0, p1, p2, p3, p4, p5, p6, p7⟩ := (show _ ∧ _ ∧ _ ∧ _ ∧ _ ∧ _ ∧ _ ∧ _ from ⟨HP2.out.cell 0 rfl, HP2.out.cell 1 rfl, HP2.out.cell 2 rfl, HP2.out.cell 3 rfl, HP2.out.cell 4 rfl, HP2.out.cell 5 rfl, HP2.out.cell 6 rfl, HP2.out.cell 7 rfl⟩)
    clear HB2
    by_cases h6 : (j : Int) = 6
    · have q6 := eqT h6
      clear h6
      go_wp2
      go_roundw
      · exact ⟨j + 1, _, _, s, by omega, rfl, D2.out, HM.out.more (by omega), O2.out, fun h0 => absurd h0 (by omega)⟩
      · simp [intOf]; omega
    · have q6 := eqF h6
      clear h6
      by_cases hne : pf = pd
      · subst hne
        go_wp2
        go_roundw
        · exact ⟨j + 1, _, _, s, by omega, rfl, D2.out, HM.out.more (by omega), O2.out, fun h0 => absurd h0 (by omega)⟩
        · simp [intOf]; omega
      · have qe := eqF hne
        have HAD := Lib.hid (HADD.out hne)
        have HLE := Lib.hid (fun Wx => left_any ⟨pf, pd, pa, pc, pr, pg, pt, pst⟩ Wx)
        unfold IntRes Py.val at HLE
        dsimp only at HLE HAD
        obtain ⟨lf, hlf⟩ : ∃ lf, leftP ⟨pf, pd, pa, pc, pr, pg, pt, pst⟩ = lf := ⟨_, rfl⟩
        rw [hlf] at HLE HAD
        clear hne HADD hlf
        obtain ⟨i0, hi, hz0, hz1, hz2⟩ := info_parts info_pay
        by_cases h0 : 0 < lf
        · have ql := decide_eq_true h0
          have HHO := Lib.hid (fun Wx (hr' : RdA Wx A s.acs) => hold_any A 15 c s.acs pf lf Wx HAL.out hr' (by omega) HNIL.out)
          unfold LedRes at HHO
          by_cases hE : holdE s.acs pf lf = 0
          · have HMX := Lib.hid (HAD.out.1 h0 hE)
            have hln := hold_len hE
            have HHL := Lib.hid (hln.trans HAL.out)
            rw [hE, show errV 0 = .nilIface from rfl] at HHO
            clear hE h0 HAD hln
            go_upto_region 14 with (first
              | (go_at_call 33; refine (HLE.out _).mono ?_; rintro _ x3 ⟨rfl, hx3⟩
                 have D3 := Lib.hid (D2.out.below hx3)
                 have O3 := Lib.hid (O2.out.trans (D2.out.on hx3))
                 have P3 := Lib.hid (HP2.out.later hx3)
                 have c0 := D3.out.blk.cell 0 rfl
                 have k0 := P3.out.cell 0 rfl
                 clear hx3 p0 p1 p2 p3 p4 p5 p6 p7)
              | (go_at_call 34; refine (HHO.out _ D3.out.oa.rd).mono ?_; rintro _ x4 ⟨v4, rfl, ho4, hb4⟩
                 obtain ⟨A4, c4, hv4, _, _, _, _⟩ := ho4.form
                 rw [HHL.out] at hv4
                 subst hv4
                 have S5 := Lib.hid (D3.out.setA hb4 ho4)
                 have P5 := Lib.hid ((P3.out.later hb4).setOther (b := gs) (hgP) 0 (.slice A4 15 c4))
                 have k1 := (D3.out.below hb4).blk.cell 0 rfl
                 have k2 := (D3.out.below hb4).blk.loose 0
                 clear ho4 hb4 c0 k0))
            have D5 := Lib.hid S5.out.1
            have O5 := Lib.hid (O3.out.trans S5.out.2)
            clear S5 k1 k2
            generalize x4.setCell ⟨gs, 0, none⟩ (.slice A4 15 c4) = x5 at D5 O5 P5 ⊢
            obtain ⟨p0, p1, p2, p3, p4, p5, p6, p7⟩ := (show _ ∧ _ ∧ _ ∧ _ ∧ _ ∧ _ ∧ _ ∧ _ from ⟨P5.out.cell 0 rfl, P5.out.cell 1 rfl, P5.out.cell 2 rfl, P5.out.cell 3 rfl, P5.out.cell 4 rfl, P5.out.cell 5 rfl, P5.out.cell 6 rfl, P5.out.cell 7 rfl⟩)
            have c1 := D5.out.blk.cell 1 rfl
            have D6 := Lib.hid (D5.out.alloc (.cells #[.int .i64 pf, .int .i64 pd, .int .i64 pa, .int .i64 pc, .int .i64 pr, .int .i64 pg, .int .i64 pt, .int .i64 pst] 96))
            have NB := Lib.hid (Blk.new x5 96 #[.int .i64 pf, .int .i64 pd, .int .i64 pa, .int .i64 pc, .int .i64 pr, .int .i64 pg, .int .i64 pt, .int .i64 pst])
            go_wp2_with (at_builtin; first
              | (refine wpList_append_lies _ rfl (.tmp 69) (.tmp 71) 31 rfl 0 96 i0 _ 8 64 Tryz.underlying31 hi hz0 hz1 hz2 rfl (by omega) (.slice B q d) _ _ rfl (show OwnS pays _ 0 _ s.pys from D6.out.op) ⟨x5.heap.size, 0, none⟩ 1 1 (pays.flat [⟨pf, pd, pa, pc, pr, pg, pt, pst⟩]) rfl rfl (World.news_of_block NB.out) (pays.flat_one _) (by omega) (by have := HQ.out; simp only [maxLen]; omega) (by have := HQ.out; omega) (Nat.zero_le _) _ rfl ?_
                 intro g9 c9 w9 ho9 hg9 hat9 hlt9
                 rw [HQ.out] at ho9 ⊢
                 have DX := Lib.hid (D6.out.growP (v := .slice (some ⟨g9, 0, none⟩) (q + 1) c9) (ps := s.pys ++ [⟨pf, pd, pa, pc, pr, pg, pt, pst⟩]) hg9 (by unfold OwnS; rw [List.length_append, pays.flat_append, HQ.out]; exact ho9) (fun b' e => by
                   have e' : g9 = b' := by simpa [Value.ownBlock] using e
                   subst e'
                   exact hat9))
                 have y1 := (D6.out.blk.grown hg9 (fun e => (D6.out.pg _ e.symm).1 rfl)).cell 1 rfl
                 have y2 := (D6.out.blk.grown hg9 (fun e => (D6.out.pg _ e.symm).1 rfl)).loose 1
                 clear ho9 hg9 hat9 hlt9))
            go_roundw
            · exact ⟨j + 1, _, _, _, by omega, rfl, DX.out.1, HMX.out, (O5.out.trans (On.of ((Below.refl _ _).alloc (Nat.le_refl _) _) D5.out.lt)).trans DX.out.2, fun h0 => absurd h0 (by omega)⟩
            · simp [intOf]; omega
          · rw [errV, if_neg hE] at HHO
            have HE := Lib.hid hE
            clear hE h0 HAD
            go_wp2_with (first
              | (go_at_call 33; refine (HLE.out _).mono ?_; rintro _ x3 ⟨rfl, hx3⟩
                 have D3 := Lib.hid (D2.out.below hx3)
                 have O3 := Lib.hid (O2.out.trans (D2.out.on hx3))
                 have P3 := Lib.hid (HP2.out.later hx3)
                 have c0 := D3.out.blk.cell 0 rfl
                 have k0 := P3.out.cell 0 rfl
                 clear hx3 p0 p1 p2 p3 p4 p5 p6 p7)
              | (go_at_call 34; refine (HHO.out _ D3.out.oa.rd).mono ?_; rintro _ x4 ⟨v4, rfl, ho4, hb4⟩
                 have D4 := Lib.hid (D3.out.below hb4)
                 have O4 := Lib.hid (O3.out.trans (D3.out.on hb4))
                 clear ho4 hb4 c0 k0))
            go_roundw
            · exact ⟨j + 1, _, _, s, by omega, rfl, D4.out, HM.out.more (by omega), O4.out, fun h0 => absurd h0 (by omega)⟩
            · simp [intOf]; omega
        · have ql := decide_eq_false h0
          have HMX := Lib.hid (HAD.out.2 (by omega))
          clear h0 HAD
          go_upto_region 14 with (first
            | (go_at_call 33; refine (HLE.out _).mono ?_; rintro _ x3 ⟨rfl, hx3⟩
               have D5 := Lib.hid (D2.out.below hx3)
               have O5 := Lib.hid (O2.out.trans (D2.out.on hx3))
               have P5 := Lib.hid (HP2.out.later hx3)
               clear hx3 p0 p1 p2 p3 p4 p5 p6 p7))
          obtain ⟨p0, p1, p2, p3, p4, p5, p6, p7⟩ := (show _ ∧ _ ∧ _ ∧ _ ∧ _ ∧ _ ∧ _ ∧ _ from ⟨P5.out.cell 0 rfl, P5.out.cell 1 rfl, P5.out.cell 2 rfl, P5.out.cell 3 rfl, P5.out.cell 4 rfl, P5.out.cell 5 rfl, P5.out.cell 6 rfl, P5.out.cell 7 rfl⟩)
          have c1 := D5.out.blk.cell 1 rfl
          have D6 := Lib.hid (D5.out.alloc (.cells #[.int .i64 pf, .int .i64 pd, .int .i64 pa, .int .i64 pc, .int .i64 pr, .int .i64 pg, .int .i64 pt, .int .i64 pst] 96))
          have NB := Lib.hid (Blk.new x3 96 #[.int .i64 pf, .int .i64 pd, .int .i64 pa, .int .i64 pc, .int .i64 pr, .int .i64 pg, .int .i64 pt, .int .i64 pst])
          go_wp2_with (at_builtin; first
            | (refine wpList_append_lies _ rfl (.tmp 69) (.tmp 71) 31 rfl 0 96 i0 _ 8 64 Tryz.underlying31 hi hz0 hz1 hz2 rfl (by omega) (.slice B q d) _ _ rfl (show OwnS pays _ 0 _ s.pys from D6.out.op) ⟨x3.heap.size, 0, none⟩ 1 1 (pays.flat [⟨pf, pd, pa, pc, pr, pg, pt, pst⟩]) rfl rfl (World.news_of_block NB.out) (pays.flat_one _) (by omega) (by have := HQ.out; simp only [maxLen]; omega) (by have := HQ.out; omega) (Nat.zero_le _) _ rfl ?_
               intro g9 c9 w9 ho9 hg9 hat9 hlt9
               rw [HQ.out] at ho9 ⊢
               have DX := Lib.hid (D6.out.growP (v := .slice (some ⟨g9, 0, none⟩) (q + 1) c9) (ps := s.pys ++ [⟨pf, pd, pa, pc, pr, pg, pt, pst⟩]) hg9 (by unfold OwnS; rw [List.length_append, pays.flat_append, HQ.out]; exact ho9) (fun b' e => by
                 have e' : g9 = b' := by simpa [Value.ownBlock] using e
                 subst e'
                 exact hat9))
               have y1 := (D6.out.blk.grown hg9 (fun e => (D6.out.pg _ e.symm).1 rfl)).cell 1 rfl
               have y2 := (D6.out.blk.grown hg9 (fun e => (D6.out.pg _ e.symm).1 rfl)).loose 1
               clear ho9 hg9 hat9 hlt9))
          go_roundw
          · exact ⟨j + 1, _, _, _, by omega, rfl, DX.out.1, HMX.out, (O5.out.trans (On.of ((Below.refl _ _).alloc (Nat.le_refl _) _) D5.out.lt)).trans DX.out.2, fun h0 => absurd h0 (by omega)⟩
          · simp [intOf]; omega
  · obtain rfl : j = l1 := by omega
    have HS := Lib.hid (Blk.on S7.out HO.out hgN)
    obtain ⟨d0, d1, d2, d3, d4⟩ := (show _ ∧ _ ∧ _ ∧ _ ∧ _ from ⟨HD.out.blk.cell 0 rfl, HD.out.blk.cell 1 rfl, HD.out.blk.cell 2 rfl, HD.out.blk.cell 3 rfl, HD.out.blk.cell 4 rfl⟩)
    obtain ⟨y0, y1, y2, y3, y4⟩ := (show _ ∧ _ ∧ _ ∧ _ ∧ _ from ⟨HS.out.cell 0 rfl, HS.out.cell 1 rfl, HS.out.cell 2 rfl, HS.out.cell 3 rfl, HS.out.cell 4 rfl⟩)
    obtain ⟨f0, f1, f2, f3, f4⟩ := (show _ ∧ _ ∧ _ ∧ _ ∧ _ from ⟨HS.out.loose 0, HS.out.loose 1, HS.out.loose 2, HS.out.loose 3, HS.out.loose 4⟩)
    go_wp2
    have HP := st_put HS.out rfl (.slice A 15 c) (.slice B q d) (.slice none 0 0) (.slice none 0 0) (.int .i64 s.now)
    have HPB := st_below HLW.out (show W.heap.size ≤ W.heap.size + 1 by omega) (.slice A 15 c) (.slice B q d) (.slice none 0 0) (.slice none 0 0) (.int .i64 s.now)
    have OA := st_ownA (HD.out.oa.more (base := v2.heap.size) (fun b' e => Nat.le_of_not_lt (HD.out.ag b' e).2.2)) hgN (.slice A 15 c) (.slice B q d) (.slice none 0 0) (.slice none 0 0) (.int .i64 s.now)
    have OP := st_ownS (HD.out.op.more (base := v2.heap.size) (fun b' e => Nat.le_of_not_lt (HD.out.pg b' e).2)) hgN (.slice A 15 c) (.slice B q d) (.slice none 0 0) (.slice none 0 0) (.int .i64 s.now)
    refine bodyPost_ret (results_cell_row (p := 6) (ty := 35) rfl _ _ (W.heap.size + 1) _ _ (0, 0) _ rfl HP Tryz.underlying35 rfl (by kernel_rfl)) rfl ?_
    exact ⟨⟨A, 15, c, B, q, d, none, 0, 0, none, 0, 0, s.now⟩, s, rfl, ⟨HAL.out, HQ.out, rfl, st_own OA OP HAL.out HQ.out, RdV.nil _ _, RdV.nil _ _⟩, HM.out, HPB, HFST.out⟩
theorem state_any {w0 : World} {b : Value} (hb : BookAt w0 b) (a1 : Option Addr) (l1 c1 : Nat) (zs : List Pd) (hzl : zs.length = l1) (t : Nat) (ht : t < 256) (hl : l1 ≤ 1900000) (W : World) (hbw : Below w0.heap.size w0 W) (hr : RdS paids W a1 zs) (hfit : ∀ (j : Nat) z, zs[j]? = some z → z.fits) :
  Calls Tryz.prog 10 #[b, .slice a1 l1 c1, .int .u8 t] W fun e w' => ∃ (V : Sv) (s : St), e = .returned V.val ∧ SvAt w' V s ∧ Made l1 ((t : Int) % 12) s ∧ Below W.heap.size W w' := by
 obtain ⟨CA, HA, LA, cl, cc, hl', hc, ll, lc, cs, hs, ls, rfl, h1, h2, h3, h4, h5, h6, h7, h8, h9⟩ := hb.form
 obtain ⟨CA', cl', cc', x, y, e, hcap, hcm⟩ := hb.caps
 injection e with e
 injection e with e
 injection e with e1 e
 injection e1 with e1 e2 e3
 subst e1 e2 e3
 exact (state_is CA HA LA cl cc hl' hc ll lc cs hs h1 h2 h4 h5 h8 hcap hcm a1 l1 c1 zs hzl t ht hl W hbw hr hfit).mono fun e w' ⟨V, s, h1, h2, h3, h4, _⟩ => ⟨V, s, h1, h2, h3, h4⟩
end Go.Proofs.YteifgmdaggiaaaaGreatDoor
