/-
  disk.Of, change, modulo, cut and find by their contracts.
-/
import Derived.Test.YtopogffoiofgbaaDoorDiskAt
import Derived.Test.YtopogffoiofgbaaDoorArgNat
import Derived.WalkSpells
import Derived.IntWalk
namespace Go.Proofs.YtopogffoiofgbaaDoor
open Go Go.RowKit Go.Maps
set_option linter.unusedVariables false

/-- A new disk. -/
theorem disk_new (w : World) (room : Int) : DiskAt (w.alloc (.cells #[.int .i64 room, .map none, .bool false, .int .i64 0, .bool false] 45)) (fun i => i = w.heap.size) w.heap.size w.heap.size none room [] false 0 false :=
  ⟨heap_alloc_new w _, .inl ⟨rfl, rfl⟩, .nil, fun _ h => by simp at h, fun _ h => by simp at h, rfl, fun i hi => by subst hi; simp⟩

theorem of_any (room r1 r2 : Int) (w : World) (h1 : max room 0 = r1) (h2 : min r1 262144 = r2) :
    Calls Tryd.prog 7 #[.int .i64 room] w fun e w' => e = .returned (.pointer (some ⟨w.heap.size, 0, none⟩)) ∧ w' = w.alloc (.cells #[.int .i64 r2, .map none, .bool false, .int .i64 0, .bool false] 45) := by
  rcases Int.lt_or_le room 0 with h | h
  · have e1 : r1 = 0 := by omega
    have e2 : r2 = 0 := by omega
    subst e1 e2
    clear h1 h2
    go_enter Tryd.func7, Tryd.ntmps7
    go_wp2
    all_goals first | (go_ret; exact ⟨rfl, rfl⟩) | (exfalso; omega)
  · have e1 : r1 = room := by omega
    subst e1
    clear h1
    rcases Int.lt_or_le 262144 r1 with h' | h'
    · have e2 : r2 = 262144 := by omega
      subst e2
      clear h2
      go_enter Tryd.func7, Tryd.ntmps7
      go_wp2
      all_goals first | (go_ret; exact ⟨rfl, rfl⟩) | (exfalso; omega)
    · have e2 : r2 = r1 := by omega
      subst e2
      clear h2
      go_enter Tryd.func7, Tryd.ntmps7
      go_wp2
      all_goals first | (go_ret; exact ⟨rfl, rfl⟩) | (exfalso; omega)

/-- A disk that is not armed counts nothing. -/
theorem change_calm (sb : Nat) (w : World) (h : w.cell? ⟨sb, 2, none⟩ = some (.bool false)) :
    Calls Tryd.prog 17 #[.pointer (some ⟨sb, 0, none⟩)] w fun e w' => e = .returned .nilIface ∧ w = w' := by
  go_enter Tryd.func17, Tryd.ntmps17
  go_wp2
  go_ret
  exact ⟨rfl, rfl⟩

theorem modulo_any (n m : Int) (w : World) (hn : -9223372036854775808 ≤ n ∧ n ≤ 9223372036854775807) (hm : 0 < m ∧ m ≤ 4611686018427387904) :
    Calls Tryd.prog 24 #[.int .i64 n, .int .i64 m] w fun e w' => e = .returned (.int .i64 (n % m)) ∧ w = w' := by
  have h0 : m ≠ 0 := by omega
  have e0 := Int.tmod_eq_emod_of_nonneg (a := n) (b := m)
  have l1 := Int.emod_lt_of_pos n hm.1
  have l0 := Int.emod_nonneg n h0
  rcases Int.lt_or_le (n.tmod m) 0 with h | h
  · have e1 : n.tmod m + m = n % m := by
      rw [Int.tmod_eq_emod]
      split
      · rename_i hd
        rw [Int.tmod_eq_emod, if_pos hd] at h
        omega
      · rw [Int.natAbs_of_nonneg (by omega)]; omega
    go_enter Tryd.func24, Tryd.ntmps24
    go_wp2
    go_ret
    exact ⟨rfl, rfl⟩
  · have e1 : n.tmod m = n % m := by
      rw [Int.tmod_eq_emod]
      split
      · omega
      · rename_i hd
        rw [Int.tmod_eq_emod, if_neg hd, Int.natAbs_of_nonneg (by omega)] at h
        omega
    go_enter Tryd.func24, Tryd.ntmps24
    go_wp2
    go_ret
    exact ⟨rfl, rfl⟩

/-- What cut hands back: the first bytes, in new memory, all of them safe. -/
def CutRes (w : World) (k : Nat) (ys : List Nat) (e : Ending) (w' : World) : Prop :=
  ∃ v, e = .returned (.agg #[v, .int .i64 (k : Int)]) ∧ Own 5 .u8 w' w.heap.size v k (ints ys) ∧ Below w.heap.size w w'

theorem Own.setOther {e : TypeId} {k : IntKind} {w : World} {b n g j : Nat} {v u : Value} {zs : List Int} (h : Own e k w b v n zs) (hg : g < b) : Own e k (w.setCell ⟨g, j, none⟩ u) b v n zs :=
  h.same fun i hi => Below.heap_setCell _ _ _ _ (fun he => by have := h.rowLt i hi; simp only at he; omega)

theorem heap_set2 (w : World) (g : Nat) (x y x' y' : Value) (t : TypeId) (h : w.heap[g]? = some (.cells #[x, y] t (0, 0))) :
    ((w.setCell ⟨g, 0, none⟩ x').setCell ⟨g, 1, none⟩ y').heap[g]? = some (.cells #[x', y'] t (0, 0)) := by
  simp [World.setCell, Array.getElem?_modify, h]
theorem file_load (w : World) (g : Nat) (x y : Value) (h : w.heap[g]? = some (.cells #[x, y] 55 (0, 0))) : (loadVar 55 ⟨g, 0, none⟩).run Tryd.prog w = .ok (.agg #[x, y]) w :=
  run_loadVar_row w g _ _ #[x, y] (0, 0) _ h Tryd.underlying55 rfl (by kernel_rfl)

set_option maxRecDepth 100000 in
theorem cut_any (A : Option Addr) (n c : Nat) (xs ys : List Nat) (s : Int) (k : Nat) (w : World) (hr : Rd .u8 w A n (ints xs)) (hl : n ≤ 200000000000000) (hc : n ≤ c) (hk : k ≤ n) (hy : xs.take k = ys) :
    Calls Tryd.prog 23 #[.agg #[.slice A n c, .int .i64 s], .int .i64 (k : Int)] w (CutRes w k ys) := by
  have hyl : ys.length = k := by rw [← hy, List.length_take]; have := hr.1; rw [ints_length] at this; omega
  have hr1 : Rd .u8 w A k (ints ys) := by rw [← hy, ← ints_take]; exact hr.front hk
  have hf := fun W => run_front W A n c k (by omega)
  have HR := Lib.hid hr1
  have HY := Lib.hid hyl
  clear hr hr1 hy hyl
  go_enter Tryd.func23, Tryd.ntmps23
  go_wp2_with fail
  refine (clone_any A k c ys _ ((HR.out.alloc _).alloc _) (by omega)).mono ?_
  rintro e w1 ⟨v, rfl, ho, hb⟩
  have hb2 : Below w.heap.size w w1 := (((Below.refl _ w).alloc (Nat.le_refl _) _).alloc (by simp) _).trans (hb.mono (by simp; omega))
  rw [HY.out] at ho
  obtain ⟨A1, c1, rfl, _⟩ := ho.form
  have HO := Lib.hid ho
  have HB := Lib.hid hb2
  have hz := hb.size
  have hc2 : w1.cell? ⟨w.heap.size + 1, 0, none⟩ = some (.slice none 0 0) := by rw [hb.cell (by simp)]; simp
  have hc3 : w1.cell? ⟨w.heap.size + 1, 1, none⟩ = some (.int .i64 0) := by rw [hb.cell (by simp)]; simp
  have hc4 : ∀ j, w1.frozen? ⟨w.heap.size + 1, j, none⟩ = false := fun j => by rw [hb.frozen (by simp)]; simp
  have hh : w1.heap[w.heap.size + 1]? = some (.cells #[.slice none 0 0, .int .i64 0] 55 (0, 0)) := by rw [hb.block _ (by simp)]; exact heap_alloc2_new _ _ _
  clear ho hb hb2
  go_wp2
  refine bodyPost_ret (results_cell_row (p := 4) (ty := 55) rfl _ _ (w.heap.size + 1) _ _ (0, 0) _ rfl (heap_set2 _ _ _ _ _ _ _ hh) Tryd.underlying55 rfl (by kernel_rfl)) rfl ?_
  refine ⟨_, rfl, ?_, (HB.out.setCell (by simp) _).setCell (by simp) _⟩
  exact ((HO.out.setOther (by simp)).setOther (by simp)).less (by simp; omega)
end Go.Proofs.YtopogffoiofgbaaDoor
