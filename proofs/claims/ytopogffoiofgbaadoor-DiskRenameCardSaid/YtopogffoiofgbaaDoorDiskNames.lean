/-
  Names by its contract: the files' numbers, rising.
-/
import Derived.Test.YtopogffoiofgbaaDoorNamesLaid
import Derived.Test.YtopogffoiofgbaaDoorDiskAt
namespace Go.Proofs.YtopogffoiofgbaaDoor
open Go Go.RowKit Go.Maps Go.Sort Go.Shelf
set_option linter.unusedVariables false

theorem sorts (m : Nat) : AnyZI.SortsIn Tryd.prog Tryd.sortedA_ren Fence.wide m :=
  ⟨fun blk off cap ss W hH hblk hsz => callsIn_wide.2 (AnyM.slices_Sort_int Tryd.sortA blk off cap ss W hH hblk hsz),
   fun p cap W => callsIn_wide.2 (AnyM.slices_Sort_int_none Tryd.sortA p cap W)⟩

/-- What Names hands back. -/
def NamesRes (w : World) (ks : List Int) (e : Ending) (w' : World) : Prop := ∃ v, e = .returned v ∧ Own 3 .i64 w' w.heap.size v ks.length ks ∧ Below w.heap.size w w'

theorem sorted_up {ks : List Int} (h : ks.Pairwise (· < ·)) {ss : List Int} (hp : ss.Perm ks) : ss.mergeSort (fun x y => decide (x ≤ y)) = ks := by
  rw [mergeSort_of_perm_i hp]
  refine List.mergeSort_of_pairwise (h.imp fun hlt => ?_)
  simp only [leI, decide_eq_true_eq]
  omega

section
variable {S : Nat → Prop} {w : World} {base sb b : Nat} {mv : Option Nat} {room left : Int} {fs : List (Int × FV)} {armed stopped : Bool}
set_option maxRecDepth 100000 in
set_option maxHeartbeats 1000000 in
theorem names_any (h : DiskAt w S base sb mv room fs armed left stopped) (hlen : fs.length ≤ 1000000000000) :
    Calls Tryd.prog 10 #[.pointer (some ⟨sb, 0, none⟩)] w (NamesRes w (fs.map (·.1))) := by
  refine (callsIn_wide (n := 6)).1 ?_
  have c1 := h.c1
  have cK : ∀ mb W, CallsIn Fence.wide 5 Tryd.prog 21 #[.map mb] W fun e w' => e = .returned (.func (.func 32) #[] #[.pointer (some ⟨W.heap.size, 0, none⟩)]) ∧ w' = W.alloc (.cells #[.map mb] 43) := fun mb W => AnyZI.keys_in Tryd.keysA Fence.wide 5 trivial rfl mb W
  have hup : (fs.map (·.1)).Pairwise (· < ·) := List.pairwise_map.2 h.up
  have hfK : Fence.wide.fn 21 := trivial
  have hfS : Fence.wide.fn 20 := trivial
  rcases h.map with ⟨rfl, rfl⟩ | ⟨b, rfl, hown, _⟩
  · have hseq : SeqGives Fence.wide 2 Tryd.prog 32 #[.pointer (some ⟨w.heap.size, 0, none⟩)] encZ (fun ss : List Int => ss = []) 0 (w.alloc (.cells #[.map none] 43)) :=
      AnyZI.keys_gives_nil (ρ := Tryd.keysA_ren) { Tryd.keysA with } Fence.wide _ trivial rfl w.heap.size _ (by simp) (by simp)
    have cS := AnyZI.sorted_in Tryd.sortedA Fence.wide 5 trivial trivial trivial trivial rfl (by omega) (sorts _) (enters_of Tryd.func31 (by kernel_rfl) rfl) 32 #[.pointer (some ⟨w.heap.size, 0, none⟩)] trivial (enters_of Tryd.func32 (by kernel_rfl) rfl) _ _ (by unfold maxLen; omega) (by omega) _ hseq
    change CallsIn _ _ Tryd.prog 20 _ _ _ at cS
    clear h
    refine callsIn_of_wp Tryd.func10 rfl trivial ?_ rfl
    simp only [Tryd.ntmps10, List.size_toArray, List.length_cons, List.length_nil, Nat.reduceAdd, Nat.reduceSub, Array.replicate_succ, Array.replicate_zero, List.push_toArray, List.append_toArray, List.nil_append, List.cons_append]
    gi_wp2_with (first
      | (gi_at_call 21; refine (cK _ _).mono ?_; rintro e w' ⟨rfl, rfl⟩)
      | (gi_at_call 20; refine cS.mono ?_; rintro e w' ⟨v, ss, rfl, hS, hrow, hnil, hb⟩))
    go_ret
    subst hS
    have e1 : ([] : List Int).mergeSort (fun x y => decide (x ≤ y)) = [] := by simp
    rw [e1] at hrow
    have ho : Own 3 .i64 w' _ v 0 [] := hrow
    exact ⟨v, rfl, ho.less (by simp), ((Below.refl _ w).alloc (Nat.le_refl _) _).trans (hb.mono (by simp))⟩
  · have hbl := hown.lt
    have hseq : SeqGives Fence.wide 2 Tryd.prog 32 #[.pointer (some ⟨w.heap.size, 0, none⟩)] encZ (fun ss => ss.Perm (intKeys (datum fs))) (Maps.size (datum fs)) (w.alloc (.cells #[.map (some b)] 43)) :=
      AnyZI.keys_gives (ρ := Tryd.keysA_ren) { Tryd.keysA with } Fence.wide _ trivial rfl (by omega) w.heap.size b fs.length (datum fs) _ (by simp) (by simp) (OwnsM.same hown (Below.heap_alloc _ _ b hbl))
    have cS := AnyZI.sorted_in Tryd.sortedA Fence.wide 5 trivial trivial trivial trivial rfl (by omega) (sorts _) (enters_of Tryd.func31 (by kernel_rfl) rfl) 32 #[.pointer (some ⟨w.heap.size, 0, none⟩)] trivial (enters_of Tryd.func32 (by kernel_rfl) rfl) _ _ (by rw [datum_size]; unfold maxLen; omega) (by rw [datum_size]; omega) _ hseq
    change CallsIn _ _ Tryd.prog 20 _ _ _ at cS
    clear h hown
    refine callsIn_of_wp Tryd.func10 rfl trivial ?_ rfl
    simp only [Tryd.ntmps10, List.size_toArray, List.length_cons, List.length_nil, Nat.reduceAdd, Nat.reduceSub, Array.replicate_succ, Array.replicate_zero, List.push_toArray, List.append_toArray, List.nil_append, List.cons_append]
    gi_wp2_with (first
      | (gi_at_call 21; refine (cK _ _).mono ?_; rintro e w' ⟨rfl, rfl⟩)
      | (gi_at_call 20; refine cS.mono ?_; rintro e w' ⟨v, ss, rfl, hS, hrow, hnil, hb⟩))
    go_ret
    rw [datum_keys] at hS
    rw [sorted_up hup hS, hS.length_eq] at hrow
    have ho : Own 3 .i64 w' _ v (fs.map (·.1)).length (fs.map (·.1)) := hrow
    exact ⟨v, rfl, ho.less (by simp), ((Below.refl _ w).alloc (Nat.le_refl _) _).trans (hb.mono (by simp))⟩
end
end Go.Proofs.YtopogffoiofgbaaDoor
