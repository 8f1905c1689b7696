/-
  Sync by its contract, on a disk that is neither armed nor stopped.
-/
import Derived.Test.YtopogffoiofgbaaDoorDiskAppend
import Derived.RegionTactic
namespace Go.Proofs.YtopogffoiofgbaaDoor
open Go Go.RowKit Go.Maps
set_option linter.unusedVariables false
section
variable {S : Nat → Prop} {w : World} {base sb b : Nat} {mv : Option Nat} {room left : Int} {fs : List (Int × FV)}

theorem DiskAt.mapped {armed stopped : Bool} (h : DiskAt w S base sb mv room fs armed left stopped) {k : Int} {f : FV} (hf : fget fs k = some f) : ∃ b, mv = some b ∧ OwnsM w b fs.length fs ∧ S b := by
  rcases h.map with ⟨_, h0⟩ | h0
  · subst h0; cases hf
  · exact h0

set_option maxRecDepth 100000 in
set_option maxHeartbeats 1000000 in
theorem sync_yes (h : DiskAt w S base sb mv room fs false left false) {k : Int} (hk : (Lit.int .i64 k).wf = true) {f : FV} (hf : fget fs k = some f) (hlen : fs.length < 4611686018427387904) (hbase : base ≤ w.heap.size) :
    Calls Tryd.prog 12 #[.pointer (some ⟨sb, 0, none⟩), .int .i64 k] w (AppendRes S w base sb room fs left k f.zs f.zs.length) := by
  have hok := h.found k
  rw [hf] at hok
  simp only [Option.getD_some] at hok
  obtain ⟨v, zs, s⟩ := f
  obtain ⟨A, c, hv, hnc, _, _, _⟩ := hok.own.form
  dsimp only at hv hnc ⊢
  subst hv
  obtain ⟨b, rfl, hob, hSb⟩ := h.mapped hf
  have HD := Lib.hid h
  have HF := Lib.hid hf
  have HOK := Lib.hid hok
  have HOB := Lib.hid hob
  clear h hok hob
  go_enter Tryd.func12, Tryd.ntmps12
  go_wp2_with fail
  refine (find_yes HD.out hk hf).mono ?_
  rintro e w1 ⟨rfl, hb1⟩
  have HB1 := Lib.hid hb1
  have hz1 := hb1.size
  clear hb1 hf
  have c2 : ∀ o, (w1.alloc o).cell? ⟨sb, 2, none⟩ = some (.bool false) := fun o => ((HD.out.below HB1.out).alloc o).c2
  have c1 : ∀ o, (w1.alloc o).cell? ⟨sb, 1, none⟩ = some (.map (some b)) := fun o => ((HD.out.below HB1.out).alloc o).c1
  go_wp2_with fail
  refine (change_calm sb _ (c2 _)).mono ?_
  rintro e w2 ⟨rfl, rfl⟩
  have hob2 : OwnsM ((w1.alloc (.cells #[.slice A zs.length c, .int .i64 (s : Int)] 55)).drew) b fs.length fs := OwnsM.same HOB.out (((HB1.out.trans (((Below.refl _ _).alloc (Nat.le_refl _) _).mono hz1)).drew).block b HOB.out.lt)
  obtain ⟨w2, hst, hown2, hturn⟩ := OwnsM.store hob2 hlen hk ⟨.slice A zs.length c, zs, zs.length⟩
  dsimp only at hst
  have HOB2 := Lib.hid hob2
  have HW2 := Lib.hid hown2
  have HT := Lib.hid hturn
  clear hob2 hown2 hturn
  go_wp2
  go_region
  all_goals
    go_wp2
    go_ret
    refine ⟨rfl, ?_⟩
    have hdA := ((HD.out.below HB1.out).alloc (.cells #[.slice A zs.length c, .int .i64 (s : Int)] 55)).drew
    have hbA : Below w.heap.size w ((w1.alloc (.cells #[.slice A zs.length c, .int .i64 (s : Int)] 55)).drew) := (HB1.out.trans (((Below.refl _ _).alloc (Nat.le_refl _) _).mono hz1)).drew
    have hzA := hbA.size
    obtain ⟨S', hd', hfr, hwd⟩ := hdA.stored (k := k) (f := ⟨.slice A zs.length c, zs, zs.length⟩) HOB2.out (World.grownBy.refl _ _) (HOK.out.own.below hbA) (Nat.le_refl _) HOK.out.lt (.inl (by rw [HF.out]; rfl)) HW2.out hSb HT.out (by omega)
    exact ⟨S', some b, _, hd', rfl, rfl, (Fr.of_below hbA).trans hfr (Wider.refl _ _), fun i hi => (hwd i hi).imp id (fun h => by omega)⟩
end
end Go.Proofs.YtopogffoiofgbaaDoor
