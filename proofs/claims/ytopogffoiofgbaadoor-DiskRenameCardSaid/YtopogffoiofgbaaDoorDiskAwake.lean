/-
  awake answers true: the chapter's example.
-/
import Derived.Test.YtopogffoiofgbaaDoorDiskUse
import Derived.Lib.SlBytesConst
namespace Go.Proofs.YtopogffoiofgbaaDoor
open Go Go.RowKit Go.Maps
set_option linter.unusedVariables false

theorem rd_row {w : World} {t : TypeId} {fr : Nat × Nat} (xs : List Nat) : Rd .u8 (w.alloc (.cells (xs.map fun x : Nat => Value.int .u8 (x : Int)).toArray t fr)) (some ⟨w.heap.size, 0, none⟩) xs.length (ints xs) := by
  refine ⟨ints_length xs, fun _ => ⟨_, rfl, fun j hj => ?_⟩⟩
  have e : (⟨w.heap.size, 0, none⟩ : Addr).add j = ⟨w.heap.size, j, none⟩ := by unfold Addr.add; split <;> simp_all
  rw [e, ints_getD]
  have hh := heap_alloc_new w (.cells (xs.map fun x : Nat => Value.int .u8 (x : Int)).toArray t fr)
  unfold World.cell?
  simp only [hh]
  simp [hj, List.getD]

theorem wf3 (k : Nat) (h : k < 1000) : (Lit.int .i64 (k : Int)).wf = true := by
  have e1 : IntKind.i64.min = -9223372036854775808 := rfl
  have e2 : IntKind.i64.max = 9223372036854775807 := rfl
  simp only [Lit.wf, Bool.and_eq_true, decide_eq_true_eq]
  omega

section
variable {S : Nat → Prop} {w w' : World} {base sb : Nat} {room : Int} {ps ps' : List PF}
/-- A step of a disk, for whoever has nothing above its base but the disk. -/
theorem Step.calm (h : Step S w base sb room ps' w') (hd : DiskP w S base sb room ps) (hb : base ≤ w.heap.size) : ∃ S', DiskP w' S' base sb room ps' ∧ Below base w w' ∧ base ≤ w'.heap.size := by
  obtain ⟨S', hd', hf, _⟩ := h
  exact ⟨S', hd', hf.below (fun i hi => (hd.low i hi).1) hb, Nat.le_trans hb hf.size⟩
end

set_option maxRecDepth 100000 in
set_option maxHeartbeats 1000000 in
theorem awake_ok (w : World) : Calls Tryd.prog 6 #[] w fun e w' => e = .returned (.bool true) ∧ Below w.heap.size w w' := by
  have w7 : (Lit.int .i64 7).wf = true := wf3 7 (by omega)
  have hcv := fun (W : World) (C : Array Value) (n c : Nat) => Lib.run_convert_bytes_const (P := Tryd.prog) W 22 5 C n c Tryd.underlying22 Tryd.underlying5
  go_enter Tryd.func6, Tryd.ntmps6
  go_wp2_with fail
  refine (of_ok 100 100 100 w rfl rfl).mono ?_
  rintro e w1 ⟨rfl, hd1, hb1⟩
  have HB1 := Lib.hid hb1
  have HD1 := Lib.hid hd1
  have hz1 := hb1.size
  clear hb1 hd1
  go_wp2_with fail
  refine (append_ok (HD1.out.alloc _) w7 (some ⟨w1.heap.size, 0, none⟩) 3 3 [97, 98, 99] (rd_row [97, 98, 99]) (by simp) (zs := []) (s := 0) rfl (by omega) (by simp [ptotal]) (by simp) (by simp; omega)).mono ?_
  rintro e w2 ⟨rfl, hs2⟩
  obtain ⟨S2, hd2, hb2, hz2⟩ := hs2.calm (HD1.out.alloc _) (by simp; omega)
  have HB2 := Lib.hid (HB1.out.trans (((Below.refl _ w1).alloc (Nat.le_refl _) _ |>.mono hz1).trans hb2))
  have HD2 := Lib.hid hd2
  clear hs2 hb2 hd2
  go_wp2_with fail
  refine (sync_ok HD2.out w7 (zs := [97, 98, 99]) (s := 0) rfl (by simp [pput, pdel, pins]) hz2).mono ?_
  rintro e w3 ⟨rfl, hs3⟩
  obtain ⟨S3, hd3, hb3, hz3⟩ := hs3.calm HD2.out hz2
  have HB3 := Lib.hid (HB2.out.trans hb3)
  have HD3 := Lib.hid hd3
  clear hs3 hb3 hd3
  go_wp2_with fail
  refine (append_ok (HD3.out.alloc _) w7 (some ⟨w3.heap.size, 0, none⟩) 2 2 [100, 101] (rd_row [100, 101]) (by simp) (zs := [97, 98, 99]) (s := 3) rfl (by omega) (by simp [ptotal, pput, pdel, pins]) (by simp [pput, pdel, pins]) (by simp; omega)).mono ?_
  rintro e w4 ⟨rfl, hs4⟩
  obtain ⟨S4, hd4, hb4, hz4⟩ := hs4.calm (HD3.out.alloc _) (by simp; omega)
  have HB4 := Lib.hid (HB3.out.trans (((Below.refl _ w3).alloc (Nat.le_refl _) _ |>.mono hz3).trans hb4))
  have HD4 := Lib.hid hd4
  clear hs4 hb4 hd4
  go_wp2_with fail
  refine (restart_ok HD4.out 1 (by omega) (by simp [pput, pdel, pins]) (by intro p hp; simp [pput, pdel, pins] at hp; subst hp; exact ⟨by simp, w7⟩) hz4).mono ?_
  rintro e w5 ⟨rfl, hs5⟩
  obtain ⟨S5, hd5, hb5, hz5⟩ := hs5.calm HD4.out hz4
  have HB5 := Lib.hid (HB4.out.trans hb5)
  have HD5 := Lib.hid hd5
  clear hs5 hb5 hd5
  go_wp2_with fail
  refine (read_ok HD5.out w7 (zs := [97, 98, 99, 100]) (s := 4) (t := true) rfl rfl (by simp)).mono ?_
  rintro e w6 ⟨v, rfl, ho6, hb6⟩
  obtain ⟨A6, c6, rfl, _, _, hr6, _⟩ := ho6.form
  have HB6 := Lib.hid (HB5.out.trans (hb6.mono hz5))
  have d6 := str_of w6 A6 4 c6 [97, 98, 99, 100] hr6
  have e6 : strN [97, 98, 99, 100] = ⟨#[97, 98, 99, 100]⟩ := rfl
  rw [e6] at d6
  clear ho6 hb6 hr6 e6
  go_wp2
  go_ret
  exact ⟨rfl, HB6.out⟩
end Go.Proofs.YtopogffoiofgbaaDoor
