/-
  find and Read by their contracts.
-/
import Derived.Test.YtopogffoiofgbaaDoorDiskOf
import Derived.Laws.ResultCell
namespace Go.Proofs.YtopogffoiofgbaaDoor
open Go Go.RowKit Go.Maps
set_option linter.unusedVariables false

section
variable {S : Nat → Prop} {w : World} {base sb : Nat} {mv : Option Nat} {room left : Int} {fs : List (Int × FV)} {armed stopped : Bool}

/-- The look-up at a name, whether the map is there or not. -/
theorem DiskAt.look (h : DiskAt w S base sb mv room fs armed left stopped) {k : Int} (hk : (Lit.int .i64 k).wf = true) {f : FV} (hf : (fget fs k).getD FV.zero = f) :
    (Instr.lookup 43 (.map mv) (.int .i64 k) false).run Tryd.prog w = .ok (.agg #[f.v, .int .i64 (f.safe : Int)]) w := by
  rcases h.map with ⟨rfl, rfl⟩ | ⟨b, rfl, ho, _⟩
  · rw [lookNil w hk, ← hf]; rfl
  · exact ho.look hk hf
theorem DiskAt.lookOk (h : DiskAt w S base sb mv room fs armed left stopped) {k : Int} (hk : (Lit.int .i64 k).wf = true) {f : FV} (hf : (fget fs k).getD FV.zero = f) {t : Bool} (ht : (fget fs k).isSome = t) :
    (Instr.lookup 43 (.map mv) (.int .i64 k) true).run Tryd.prog w = .ok (.tuple #[.agg #[f.v, .int .i64 (f.safe : Int)], .bool t]) w := by
  rcases h.map with ⟨rfl, rfl⟩ | ⟨b, rfl, ho, _⟩
  · rw [lookNilOk w hk, ← hf, ← ht]; rfl
  · exact ho.lookOk hk hf ht

/-- What find hands back. -/
def FindRes (w : World) (v : Value) (s : Int) (r : Value) (e : Ending) (w' : World) : Prop := e = .returned (.tuple #[.agg #[v, .int .i64 s], r]) ∧ Below w.heap.size w w'

set_option maxRecDepth 100000 in
theorem find_yes (h : DiskAt w S base sb mv room fs armed left false) {k : Int} (hk : (Lit.int .i64 k).wf = true) {A : Option Addr} {n c : Nat} {zs : List Nat} {s : Nat} (hf : fget fs k = some ⟨.slice A n c, zs, s⟩) :
    Calls Tryd.prog 22 #[.pointer (some ⟨sb, 0, none⟩), .int .i64 k] w (FindRes w (.slice A n c) (s : Int) .nilIface) := by
  have c1 : ∀ o, (w.alloc o).cell? ⟨sb, 1, none⟩ = some (.map mv) := fun o => (h.alloc o).c1
  have c4 : ∀ o, (w.alloc o).cell? ⟨sb, 4, none⟩ = some (.bool false) := fun o => (h.alloc o).c4
  have hl := fun o => (h.alloc o).lookOk hk (f := ⟨.slice A n c, zs, s⟩) (by rw [hf]; rfl) (t := true) (by rw [hf]; rfl)
  dsimp only at hl
  clear h hf
  go_enter Tryd.func22, Tryd.ntmps22
  go_wp2
  refine bodyPost_ret (v := .tuple #[.agg #[.slice A n c, .int .i64 (s : Int)], .nilIface]) ?_ rfl ⟨rfl, ((Below.refl _ w).alloc (Nat.le_refl _) _).alloc (by simp) _⟩
  rw [results_cell_tmp (p := 4) (u := 5) (ty := 55) rfl]
  have hh := file_load ((w.alloc (.cells #[.slice A n c, .int .i64 (s : Int)] 55)).alloc (.cells #[.slice A n c, .int .i64 (s : Int)] 55)) w.heap.size (.slice A n c) (.int .i64 (s : Int)) (by rw [Below.heap_alloc _ _ _ (by simp)]; exact heap_alloc_new _ _)
  simp [asAddr, hh, Result.andThen]

set_option maxRecDepth 100000 in
theorem find_no (h : DiskAt w S base sb mv room fs armed left false) {k : Int} (hk : (Lit.int .i64 k).wf = true) (hf : fget fs k = none) :
    Calls Tryd.prog 22 #[.pointer (some ⟨sb, 0, none⟩), .int .i64 k] w (FindRes w (.slice none 0 0) 0 (.iface 29 (.int .i64 2))) := by
  have c1 : ∀ o, (w.alloc o).cell? ⟨sb, 1, none⟩ = some (.map mv) := fun o => (h.alloc o).c1
  have c4 : ∀ o, (w.alloc o).cell? ⟨sb, 4, none⟩ = some (.bool false) := fun o => (h.alloc o).c4
  have hl := fun o => (h.alloc o).lookOk hk (f := FV.zero) (by rw [hf]; rfl) (t := false) (by rw [hf]; rfl)
  simp only [FV.zero] at hl
  clear h hf
  go_enter Tryd.func22, Tryd.ntmps22
  go_wp2
  refine bodyPost_ret (v := .tuple #[.agg #[.slice none 0 0, .int .i64 0], .iface 29 (.int .i64 2)]) ?_ rfl ⟨rfl, ((Below.refl _ w).alloc (Nat.le_refl _) _).alloc (by simp) _⟩
  rw [results_cell_tmp (p := 4) (u := 5) (ty := 55) rfl]
  have hh := file_load ((w.alloc (.cells #[.slice none 0 0, .int .i64 0] 55)).alloc (.cells #[.slice none 0 0, .int .i64 0] 55)) w.heap.size (.slice none 0 0) (.int .i64 0) (by rw [Below.heap_alloc _ _ _ (by simp)]; exact heap_alloc_new _ _)
  simp [asAddr, hh, Result.andThen]

/-- What Read hands back: the bytes in new memory, and whether there is such a file. -/
def ReadRes (w : World) (zs : List Nat) (t : Bool) (e : Ending) (w' : World) : Prop := ∃ v, e = .returned (.tuple #[v, .bool t]) ∧ Own 5 .u8 w' w.heap.size v zs.length (ints zs) ∧ Below w.heap.size w w'

set_option maxRecDepth 100000 in
theorem read_any (h : DiskAt w S base sb mv room fs armed left stopped) {k : Int} (hk : (Lit.int .i64 k).wf = true) {f : FV} (hf : (fget fs k).getD FV.zero = f) {t : Bool} (ht : (fget fs k).isSome = t) (hn : f.zs.length ≤ 200000000000000) :
    Calls Tryd.prog 15 #[.pointer (some ⟨sb, 0, none⟩), .int .i64 k] w (ReadRes w f.zs t) := by
  have c1 := h.c1
  have hl := h.lookOk hk hf ht
  have hok := h.found k
  rw [hf] at hok
  obtain ⟨v, zs, s⟩ := f
  obtain ⟨A, c, hv, hnc, _, hr, _⟩ := hok.own.form
  dsimp only at hl hv hnc hr hn ⊢
  subst hv
  have HR := Lib.hid hr
  clear h hf hok ht hr
  go_enter Tryd.func15, Tryd.ntmps15
  go_wp2_with fail
  refine (clone_any A zs.length c zs _ (HR.out.alloc _) (by omega)).mono ?_
  rintro e w1 ⟨v, rfl, ho, hb⟩
  have HO := Lib.hid ho
  have HB := Lib.hid (((Below.refl _ w).alloc (Nat.le_refl _) _).trans (hb.mono (by simp)))
  clear ho hb
  go_wp2
  go_ret2
  exact ⟨_, rfl, HO.out.less (by simp), HB.out⟩
end
end Go.Proofs.YtopogffoiofgbaaDoor
