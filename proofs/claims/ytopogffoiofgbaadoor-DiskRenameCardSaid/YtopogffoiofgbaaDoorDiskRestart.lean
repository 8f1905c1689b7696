/-
  Restart by its contract.
-/
import Derived.Test.YtopogffoiofgbaaDoorDiskPlain
import Derived.Test.YtopogffoiofgbaaDoorDiskNames
import Derived.Test.YtopogffoiofgbaaDoorDiskSync
import Derived.Deep.RegionHeld3
import Derived.RegionTactic
namespace Go.Proofs.YtopogffoiofgbaaDoor
open Go Go.RowKit Go.Maps
set_option linter.unusedVariables false
section
variable {S : Nat → Prop} {w : World} {base sb b : Nat} {mv : Option Nat} {room left : Int} {fs : List (Int × FV)} {armed stopped : Bool}

theorem modulo_at (n m : Int) (r : Nat) (w : World) (hn : -9223372036854775808 ≤ n ∧ n ≤ 9223372036854775807) (hm : 0 < m ∧ m ≤ 4611686018427387904) (hr : n % m = (r : Int)) :
    Calls Tryd.prog 24 #[.int .i64 n, .int .i64 m] w fun e w' => e = .returned (.int .i64 (r : Int)) ∧ w = w' := by
  rw [← hr]; exact modulo_any n m w hn hm

theorem wrap64_in {x : Int} (h1 : -9223372036854775808 ≤ x) (h2 : x ≤ 9223372036854775807) : IntKind.i64.wrap x = x := by
  simp [IntKind.wrap, IntKind.bits, IntKind.signed]
  omega

/-- The struct's three last cells set anew. -/
theorem disk_calm (h : DiskAt w S base sb mv room fs armed left stopped) :
    DiskAt (((w.setCell ⟨sb, 4, none⟩ (.bool false)).setCell ⟨sb, 2, none⟩ (.bool false)).setCell ⟨sb, 3, none⟩ (.int .i64 0)) S base sb mv room fs false 0 false ∧
      Fr S w (((w.setCell ⟨sb, 4, none⟩ (.bool false)).setCell ⟨sb, 2, none⟩ (.bool false)).setCell ⟨sb, 3, none⟩ (.int .i64 0)) := by
  have hk : ∀ i, i ≠ sb → (((w.setCell ⟨sb, 4, none⟩ (.bool false)).setCell ⟨sb, 2, none⟩ (.bool false)).setCell ⟨sb, 3, none⟩ (.int .i64 0)).heap[i]? = w.heap[i]? := fun i hi => by
    rw [Below.heap_setCell _ _ _ _ hi, Below.heap_setCell _ _ _ _ hi, Below.heap_setCell _ _ _ _ hi]
  have hz : (((w.setCell ⟨sb, 4, none⟩ (.bool false)).setCell ⟨sb, 2, none⟩ (.bool false)).setCell ⟨sb, 3, none⟩ (.int .i64 0)).heap.size = w.heap.size := by simp [World.setCell]
  refine ⟨⟨?_, ?_, h.up, fun p hp => ?_, h.apart, h.inS, fun i hi => by rw [hz]; exact h.low i hi⟩, ⟨rfl, rfl, rfl, by rw [hz]; exact Nat.le_refl _, fun i _ hn => hk i (fun e => hn (by rw [e]; exact h.inS))⟩⟩
  · simp [World.setCell, Array.getElem?_modify, h.blk]
  · rcases h.map with h0 | ⟨b, e, ho, hb⟩
    · exact .inl h0
    · exact .inr ⟨b, e, OwnsM.same ho (hk b (h.map_ne ⟨_, ho⟩)), hb⟩
  · exact (h.file p hp).same fun g hg => hk g (fun e => (h.file p hp).ne_sb h (by rw [hg, e]))

/-- What Restart leaves. -/
def RestartRes (S : Nat → Prop) (w : World) (base sb : Nat) (mv : Option Nat) (room : Int) (ps : List (Int × List Nat × Nat)) (e : Ending) (w' : World) : Prop :=
  e = .returned (.tuple #[]) ∧ ∃ S' fs', DiskAt w' S' base sb mv room fs' false 0 false ∧ plain fs' = ps ∧ Fr S w w' ∧ Wider S S' w

set_option maxRecDepth 100000 in
set_option maxHeartbeats 1000000 in
theorem restart_any (h : DiskAt w S base sb mv room fs armed left stopped) (keep : Int) (hkeep : -9223372036854775808 ≤ keep ∧ keep ≤ 9223372036854775807) (hlen : fs.length ≤ 1000000000000)
    (hsz : ∀ p ∈ plain fs, p.2.1.length ≤ 100000000000000 ∧ p.2.2 ≤ p.2.1.length ∧ (Lit.int .i64 p.1).wf = true) (hbase : base ≤ w.heap.size) :
    Calls Tryd.prog 14 #[.pointer (some ⟨sb, 0, none⟩), .int .i64 keep] w (RestartRes S w base sb mv room ((plain fs).map (rst keep))) := by
  have hup : (plain fs).Pairwise (fun x y => x.1 < y.1) := List.pairwise_map.2 (h.up.imp fun h => h)
  have HU := Lib.hid hup
  have HSZ := Lib.hid hsz
  have HD0 := Lib.hid h
  clear h hup hsz
  go_enter Tryd.func14, Tryd.ntmps14
  go_wp2_with fail
  refine (names_any HD0.out hlen).mono ?_
  rintro e w0 ⟨v, rfl, ho, hb0⟩
  obtain ⟨ks, hks⟩ : ∃ ks, ks = fs.map (·.1) := ⟨_, rfl⟩
  rw [← hks] at ho
  obtain ⟨nk, hnk⟩ : ∃ nk, nk = ks.length := ⟨_, rfl⟩
  have hnl : nk ≤ 1000000000000 := by rw [hnk, hks, List.length_map]; exact hlen
  rw [← hnk] at ho
  obtain ⟨A, c, rfl, hc1, hc2, hrd, _⟩ := ho.form
  have hz0 := hb0.size
  have HB0 := Lib.hid hb0
  have HR := Lib.hid hrd
  have HKS := Lib.hid hks
  have HNK := Lib.hid hnk
  have hown : ∀ g, (Value.slice A nk c).ownBlock = some g → w.heap.size ≤ g := ho.rowLt
  have HO := Lib.hid ho
  clear ho hb0 hrd hks hnk
  go_wp2
  go_loopw [11] (fun i wr => ∃ (j : Nat) (S' : Nat → Prop) (fs' : List (Int × FV)), i = .int .i64 (j : Int) ∧ j ≤ nk ∧ DiskAt wr S' base sb mv room fs' armed left stopped ∧ plain fs' = partly keep (ks.take j) (plain fs) ∧ Fr S w0 wr ∧ Wider S S' w0)
    (fun i _ => nk - (intOf i).toNat)
  case atStart => exact ⟨0, S, fs, rfl, by omega, HD0.out.below HB0.out, by simp [partly_nil], Fr.refl _ _, Wider.refl _ _⟩
  case round =>
    obtain ⟨j, S', fs', rfl, hj, hd, hpl, hfr, hwd⟩ := hrel
    by_cases hlt : j < nk
    · -- the next name's file
      have hrw := (HO.out.fr hfr (fun g hg hS => by have := (HD0.out.low g hS).2; have := hown g hg; omega)).form
      obtain ⟨A', c', he, _, _, hrd, _⟩ := hrw
      injection he with he1 he2 he3
      subst he1 he3
      obtain ⟨ad, rfl, hcell⟩ := hrd.at_ hlt
      obtain ⟨k, hk⟩ : ∃ k, k = ks.getD j 0 := ⟨_, rfl⟩
      rw [← hk] at hcell
      have hjl : j < ks.length := by rw [← HNK.out]; exact hlt
      have hkm : k ∈ ks := by rw [hk]; simp only [List.getD, List.getElem?_eq_getElem hjl, Option.getD_some]; exact List.getElem_mem hjl
      have htk : ks.take (j + 1) = ks.take j ++ [k] := by rw [List.take_succ_eq_append_getElem hjl, hk]; simp [List.getD, hjl]
      have hks2 : ks = (plain fs).map (·.1) := by rw [plain_keys]; exact HKS.out
      have hkn : k ∉ ks.take j := fun hm => by
        have hp : ks.Pairwise (· < ·) := by rw [hks2]; exact List.pairwise_map.2 (HU.out.imp fun h => h)
        obtain ⟨i, hi, he⟩ := List.getElem_of_mem hm
        rw [List.length_take] at hi
        rw [List.getElem_take] at he
        have := List.pairwise_iff_getElem.1 hp i j (by omega) hjl (by omega)
        rw [he, hk] at this
        simp only [List.getD, List.getElem?_eq_getElem hjl, Option.getD_some] at this
        omega
      obtain ⟨⟨k', zs, s⟩, hqm, hqk⟩ : ∃ q, q ∈ plain fs ∧ q.1 = k := by
        rw [hks2] at hkm
        obtain ⟨q, hq, he⟩ := List.mem_map.1 hkm
        exact ⟨q, hq, he⟩
      simp only at hqk
      subst hqk
      obtain ⟨hs1, hs2, hwf⟩ := HSZ.out _ hqm
      simp only at hs1 hs2 hwf
      obtain ⟨v, hfm⟩ := plain_mem (by rw [hpl]; exact partly_mem (keep := keep) hqm hkn : (k', zs, s) ∈ plain fs')
      have hfg := fget_mem hd.up hfm
      have hok := hd.file _ hfm
      obtain ⟨A1, c1, hv, hnc, _, hr1, _⟩ := hok.own.form
      dsimp only at hv hnc hr1
      subst hv
      obtain ⟨b, rfl, hob, hSb⟩ := hd.mapped hfg
      obtain ⟨n1, hn1⟩ : ∃ n1, n1 = zs.length := ⟨_, rfl⟩
      obtain ⟨o, ho⟩ : ∃ o, o = n1 - s := ⟨_, rfl⟩
      obtain ⟨r, hr⟩ : ∃ r, r = (keep % ((o : Int) + 1)).toNat := ⟨_, rfl⟩
      obtain ⟨t, ht⟩ : ∃ t, t = s + r := ⟨_, rfl⟩
      have hsub : (n1 : Int) - (s : Int) = (o : Int) := by omega
      have hmod : keep % ((o : Int) + 1) = (r : Int) := by rw [hr]; have := Int.emod_nonneg keep (show (o : Int) + 1 ≠ 0 by omega); omega
      have hro : r ≤ o := by have := Int.emod_lt_of_pos keep (show 0 < (o : Int) + 1 by omega); omega
      have hadd : (s : Int) + (r : Int) = (t : Int) := by omega
      have htn : t ≤ n1 := by omega
      have hrst : rst keep (k', zs, s) = (k', zs.take t, t) := by rw [ht, hr, ho, hn1]; rfl
      rw [← hn1] at hnc hr1 hs1
      have hl := hd.look hwf (f := ⟨.slice A1 n1 c1, zs, s⟩) (by rw [hfg, ← hn1]; rfl)
      dsimp only at hl
      have d1 := hd.c1
      have HD := Lib.hid hd
      have HFG := Lib.hid hfg
      have HOK := Lib.hid hok
      have HOB := Lib.hid hob
      have HR1 := Lib.hid hr1
      have HN1 := Lib.hid hn1
      have HTK := Lib.hid htk
      have HKN := Lib.hid hkn
      have HPL := Lib.hid hpl
      have HFM := Lib.hid hfm
      have HQM := Lib.hid hqm
      have HRST := Lib.hid hrst
      have hzr := hfr.size
      have HFR := Lib.hid hfr
      have HWD := Lib.hid hwd
      clear hd hfg hok hob hr1 hn1 ho hr ht htk hkn hpl hfm hqm hrst hfr hwd hkm hks2 hk hrd
      go_wp2
      have hb1 : Below wr.heap.size wr (wr.alloc (.cells #[.slice A1 n1 c1, .int .i64 (s : Int)] 55)) := (Below.refl _ _).alloc (Nat.le_refl _) _
      have hA0 : (wr.alloc (.cells #[.slice A1 n1 c1, .int .i64 (s : Int)] 55)).cell? ⟨wr.heap.size, 0, none⟩ = some (.slice A1 n1 c1) := by simp
      have hA1 : (wr.alloc (.cells #[.slice A1 n1 c1, .int .i64 (s : Int)] 55)).cell? ⟨wr.heap.size, 1, none⟩ = some (.int .i64 (s : Int)) := by simp
      generalize (wr.alloc (.cells #[.slice A1 n1 c1, .int .i64 (s : Int)] 55)) = wA at *
      have HB1 := Lib.hid hb1
      have hcA : wA.cell? ⟨sb, 1, none⟩ = some (.map (some b)) := (HD.out.below hb1).c1
      have HRA := Lib.hid (HR1.out.below hb1)
      have hzA := hb1.size
      obtain ⟨ys, hys⟩ : ∃ ys, zs.take t = ys := ⟨_, rfl⟩
      have HYS := Lib.hid hys
      clear hl d1 hb1 hys
      have hwr1 : IntKind.i64.wrap ((o : Int) + 1) = (o : Int) + 1 := wrap64_in (by omega) (by omega)
      have hwr2 : IntKind.i64.wrap (t : Int) = (t : Int) := wrap64_in (by omega) (by omega)
      have HA0 := Lib.hid hA0
      have HA1 := Lib.hid hA1
      have hSA : wA.drew.cell? ⟨sb, 1, none⟩ = some (.map (some b)) ∧ wA.drew.cell? ⟨wr.heap.size, 0, none⟩ = some (.slice A1 n1 c1) ∧ wA.drew.cell? ⟨wr.heap.size, 1, none⟩ = some (.int .i64 (s : Int)) := ⟨hcA, hA0, hA1⟩
      go_region_held3 (fun w' => w'.cell? ⟨sb, 1, none⟩ = some (.map (some b)) ∧ w'.cell? ⟨wr.heap.size, 0, none⟩ = some (.slice A1 n1 c1) ∧ w'.cell? ⟨wr.heap.size, 1, none⟩ = some (.int .i64 (s : Int))) (first | exact hS2 | exact hS1 | exact hSA)
        (first
          | (go_at_call 24; refine (modulo_at _ _ r _ hkeep (by omega) hmod).mono ?_; rintro e w1 ⟨rfl, rfl⟩)
          | (go_at_call 23; refine (cut_any A1 n1 c1 zs ys (s : Int) t _ HRA.out.drew (by omega) (by omega) htn HYS.out).mono ?_; rintro e w1 ⟨v1, rfl, ho1, hb1⟩
             obtain ⟨A2, c2, rfl, _⟩ := ho1.form
             have hw1 : w1.cell? ⟨sb, 1, none⟩ = some (.map (some b)) := (((HD.out.below HB1.out).drew).below hb1).c1
             have hob1 : OwnsM w1 b fs'.length fs' := OwnsM.same HOB.out ((HB1.out.drew.trans (hb1.mono hzA)).block b HOB.out.lt)
             have hS1 : w1.cell? ⟨sb, 1, none⟩ = some (.map (some b)) ∧ w1.cell? ⟨wr.heap.size, 0, none⟩ = some (.slice A1 n1 c1) ∧ w1.cell? ⟨wr.heap.size, 1, none⟩ = some (.int .i64 (s : Int)) :=
               ⟨hw1, (hb1.cell (World.block_lt_of_cell? _ _ hSA.2.1)).trans hSA.2.1, (hb1.cell (World.block_lt_of_cell? _ _ hSA.2.2)).trans hSA.2.2⟩
             obtain ⟨w2, hst, hown2, hturn⟩ := OwnsM.store hob1 (by have h1 := congrArg List.length HPL.out; simp only [plain_len, partly, List.length_map] at h1; omega) hwf ⟨.slice A2 t c2, ys, t⟩
             dsimp only at hst
             have hbr : ∀ a : Addr, ∀ v, w1.cell? a = some v → w2.cell? a = some v := fun a v hv => hturn.grown.cell hv (fun e => by
               obtain ⟨es, clock, hh, _⟩ := hob1
               injection e with e
               simp [World.cell?, e, hh] at hv)
             have hS2 : w2.cell? ⟨sb, 1, none⟩ = some (.map (some b)) ∧ w2.cell? ⟨wr.heap.size, 0, none⟩ = some (.slice A1 n1 c1) ∧ w2.cell? ⟨wr.heap.size, 1, none⟩ = some (.int .i64 (s : Int)) :=
               ⟨hbr _ _ hS1.1, hbr _ _ hS1.2.1, hbr _ _ hS1.2.2⟩
             have HO1 := Lib.hid ho1
             have HB2 := Lib.hid hb1
             have HOB1 := Lib.hid hob1
             have HW2 := Lib.hid hown2
             have HT := Lib.hid hturn
             clear ho1 hb1 hob1 hown2 hturn hbr))
      clear hS1 hS2 hSA hst hw1 hcA hA0 hA1
      go_wp2
      go_roundw
      case rel =>
        have hsA := HB1.out.size
        have hdA := (HD.out.below HB1.out).drew
        have hyl : ys.length = t := by rw [← HYS.out, List.length_take, ← HN1.out]; omega
        have hg : wA.drew.grownBy w1 ((fget fs' k').getD FV.zero).v.ownBlock := ⟨HB2.out.os, HB2.out.tape, HB2.out.output, HB2.out.size, fun i hi _ => HB2.out.block i hi⟩
        have hbA : base ≤ wA.drew.heap.size := by show base ≤ wA.heap.size; omega
        obtain ⟨S2, hd2, hfr2, hwd2⟩ := hdA.stored (k := k') (f := ⟨.slice A2 t c2, ys, t⟩) HOB1.out hg (by rw [hyl]; exact HO1.out.less hbA) (by simp only; omega) (fun x hx => HOK.out.lt x (by rw [← HYS.out] at hx; exact List.mem_of_mem_take hx)) (.inr fun g hg' => HO1.out.rowLt g hg') HW2.out hSb HT.out hbA
        have hfrA : Fr S' wr wA.drew := Fr.of_below HB1.out.drew
        have hfr3 : Fr S' wr w2 := hfrA.trans hfr2 (Wider.refl _ _)
        refine ⟨j + 1, S2, _, by go_num, by omega, hd2, ?_, HFR.out.trans hfr3 HWD.out, ?_⟩
        · rw [plain_put HD.out.up HFM.out, HPL.out, HTK.out]
          have := partly_step (keep := keep) HU.out HQM.out rfl HKN.out
          rw [HRST.out, HYS.out] at this
          exact this
        · refine HWD.out.trans (fun i hi => (hwd2 i hi).imp id (fun h => ?_)) hzr
          have : wA.drew.heap.size = wA.heap.size := rfl
          omega
      case measure => simp [intOf]; omega
    · -- all names were met
      have he : ks.take j = ks := List.take_of_length_le (by rw [← HNK.out]; omega)
      rw [he, HKS.out, ← plain_keys, partly_all] at hpl
      have c2 := hd.c2
      have c3 := hd.c3
      have c4 := hd.c4
      have cf := hd.fz
      obtain ⟨hdc, hfc⟩ := disk_calm hd
      have HDC := Lib.hid hdc
      have HFC := Lib.hid hfc
      have HPL := Lib.hid hpl
      have HFR := Lib.hid hfr
      have HWD := Lib.hid hwd
      have hjn : j = nk := by omega
      subst hjn
      clear hd hdc hfc hpl hfr hwd he
      go_wp2
      go_end0
      refine ⟨rfl, S', fs', HDC.out, HPL.out, ((Fr.of_below HB0.out).trans HFR.out (Wider.refl _ _)).trans HFC.out (fun i hi => (HWD.out i hi).imp id (fun h => by omega)), fun i hi => (HWD.out i hi).imp id (fun h => by omega)⟩
end
end Go.Proofs.YtopogffoiofgbaaDoor
