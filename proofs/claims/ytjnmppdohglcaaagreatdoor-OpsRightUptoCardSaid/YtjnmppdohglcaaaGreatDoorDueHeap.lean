/-
  A heap of places by its methods: Len, Less, Swap, Pop, Push.
-/
import Derived.Test.YtjnmppdohglcaaaGreatDoorHeapPush
import Derived.Test.YtjnmppdohglcaaaGreatDoorDuePlain
import Derived.Test.YtjnmppdohglcaaaGreatDoorGrB
import Derived.Test.YtjnmppdohglcaaaGreatDoorGrA
import Derived.Test.YtjnmppdohglcaaaGreatDoorOwnFront
import Derived.Test.YtjnmppdohglcaaaGreatDoorStepAppend
import Derived.BigQuiet
import Derived.BigRegion
import Derived.Deep.QuietTactic
import Derived.IntWalk
import Derived.WalkSpells
namespace Go.Proofs.YtjnmppdohglcaaaGreatDoor
open Go Go.RowKit
set_option linter.unusedVariables false

/-- The heap's object lies at z, behind w0: what it reads of, and the places that it holds. -/
structure WHeap (w0 : World) (z : Nat) (A : Option Addr) (n cap : Nat) (ps : List Py) (w : World) (v : Value) (xs : List Int) : Prop where
  obj : w.heap[z]? = some (.cells #[.slice A n cap, v] 110 (0, 0))
  own : Own 3 .i64 w (z + 1) v xs.length xs
  below : Below w0.heap.size w0 w
  base : w0.heap.size ≤ z
  ins : ∀ x ∈ xs, ∃ k : Nat, k < n ∧ x = (k : Int)
theorem WHeap.lt {w0 : World} {z : Nat} {A : Option Addr} {n cap : Nat} {ps : List Py} {w : World} {v : Value} {xs : List Int} (h : WHeap w0 z A n cap ps w v xs) : z < w.heap.size := (Array.getElem?_eq_some_iff.1 h.obj).1
theorem WHeap.drewN {w0 : World} {z : Nat} {A : Option Addr} {n cap : Nat} {ps : List Py} {w : World} {v : Value} {xs : List Int} (h : WHeap w0 z A n cap ps w v xs) (m : Nat) : WHeap w0 z A n cap ps (w.drewN m) v xs :=
  ⟨h.obj, h.own.drewN m, below_drewN h.below m, h.base, h.ins⟩

theorem heap_other {w : World} {p : Addr} {k : Nat} (o : Value) (_ : True) (h : p.block ≠ k) : (w.setCell p o).heap[k]? = w.heap[k]? := by
  simp [World.setCell, Array.getElem?_modify, h]

section
variable {w0 : World} {z : Nat} {A : Option Addr} {n cap : Nat} {ps : List Py}

set_option maxRecDepth 100000 in
theorem hlen_any (w : World) (v : Value) (xs : List Int) (h : WHeap w0 z A n cap ps w v xs) (hn : n ≤ 2000000) (hx : xs.length ≤ 2000000) :
    Calls Tryz.prog 33 #[.pointer (some ⟨z, 0, none⟩)] w fun e w' => e = .returned (.int .i64 (xs.length : Int)) ∧ w = w' := by
  have c1 := cell_of_row w z 1 _ _ _ h.obj
  obtain ⟨B, c, rfl, hmc, hcm, hrd, hnil⟩ := h.own.form
  obtain ⟨m, hm⟩ : ∃ m, xs.length = m := ⟨_, rfl⟩
  rw [hm] at c1 ⊢
  clear h hmc hcm hrd hnil hm
  simp at c1
  go_enter Tryz.func33, Tryz.ntmps33
  go_wp2
  go_ret
  exact ⟨rfl, rfl⟩

set_option maxRecDepth 100000 in
set_option maxHeartbeats 1000000 in
theorem huntil_any (w : World) (v : Value) (xs : List Int) (h : WHeap w0 z A n cap ps w v xs) (hr : RdS pays w0 A ps) (hl : ps.length = n) (hn : n ≤ 2000000) (i : Nat) (hi : i < xs.length) :
    Calls Tryz.prog 34 #[.pointer (some ⟨z, 0, none⟩), .int .i64 (i : Int)] w fun e w' => e = .returned (.int .i64 (tilP ps (xs.getD i 0))) ∧ ∃ m, w' = w.drewN m := by
  have c0 := cell_of_row w z 0 _ _ _ h.obj
  have c1 := cell_of_row w z 1 _ _ _ h.obj
  obtain ⟨B, c, rfl, hmc, hcm, hrd, hnil⟩ := h.own.form
  obtain ⟨ad, rfl, d1⟩ := hrd.at_ hi
  have ha := h.ins (xs.getD i 0) (by simp [List.getD, hi])
  obtain ⟨a, ha', ha⟩ := ha
  rw [ha] at d1 ⊢
  have hrw := hr.below h.below
  obtain ⟨p, hp⟩ : ∃ p, ps[a]? = some p := ⟨_, List.getElem?_eq_getElem (by omega)⟩
  obtain ⟨pa, rfl, hat1⟩ := hrw.at_ hp
  obtain ⟨_, _, _, _, _, _, t1, _⟩ := pay_cells hat1
  rw [tilP_nat, show ps.getD a Py.zero = p by simp [List.getD, hp]]
  obtain ⟨m, hm⟩ : ∃ m, xs.length = m := ⟨_, rfl⟩
  rw [hm] at c1 hi hmc
  obtain ⟨pt, hpt⟩ : ∃ t, p.til = t := ⟨_, rfl⟩
  rw [hpt] at t1 ⊢
  simp at c0 c1
  clear h hr hrd hnil ha hrw hp hat1 hm hpt hl
  go_enter Tryz.func34, Tryz.ntmps34
  go_wp2
  go_quiet (fail)
  go_wp2
  go_ret
  exact ⟨rfl, _, rfl⟩

theorem dlt_def (ps : List Py) (x y : Int) : dlt ps x y = decide (tilP ps x < tilP ps y ∨ (tilP ps x = tilP ps y ∧ x < y)) := rfl

set_option maxRecDepth 100000 in
set_option maxHeartbeats 1000000 in
theorem hless_any (w : World) (v : Value) (xs : List Int) (h : WHeap w0 z A n cap ps w v xs) (hr : RdS pays w0 A ps) (hl : ps.length = n) (hn : n ≤ 2000000) (i j : Nat) (hi : i < xs.length) (hj : j < xs.length) :
    Calls Tryz.prog 114 #[.pointer (some ⟨z, 0, none⟩), .int .i64 (i : Int), .int .i64 (j : Int)] w fun e w' => e = .returned (.bool (dlt ps (xs.getD i 0) (xs.getD j 0))) ∧ ∃ m, w' = w.drewN m := by
  have HU := Lib.hid (fun m k hk => huntil_any (w.drewN m) v xs (h.drewN m) hr hl hn k hk)
  have HU0 := Lib.hid (fun k hk => huntil_any w v xs h hr hl hn k hk)
  rw [dlt_def]
  have c1 := cell_of_row w z 1 _ _ _ h.obj
  obtain ⟨B, c, rfl, hmc, hcm, hrd, hnil⟩ := h.own.form
  obtain ⟨x, hx⟩ : ∃ x, xs.getD i 0 = x := ⟨_, rfl⟩
  obtain ⟨y, hy⟩ : ∃ y, xs.getD j 0 = y := ⟨_, rfl⟩
  obtain ⟨p, hp⟩ : ∃ p, tilP ps x = p := ⟨_, rfl⟩
  obtain ⟨q, hq⟩ : ∃ q, tilP ps y = q := ⟨_, rfl⟩
  have HI := Lib.hid (show ∀ m, Calls Tryz.prog 34 #[.pointer (some ⟨z, 0, none⟩), .int .i64 (i : Int)] (w.drewN m) fun e w' => e = .returned (.int .i64 p) ∧ ∃ m, w' = w.drewN m from fun m => (HU.out m i hi).mono fun e w' ⟨he, k, hw⟩ => ⟨by rw [he, hx, hp], m + k, by rw [hw, World.drewN_drewN]⟩)
  have HI0 := Lib.hid (show Calls Tryz.prog 34 #[.pointer (some ⟨z, 0, none⟩), .int .i64 (i : Int)] w fun e w' => e = .returned (.int .i64 p) ∧ ∃ m, w' = w.drewN m from (HU0.out i hi).mono fun e w' ⟨he, k, hw⟩ => ⟨by rw [he, hx, hp], k, hw⟩)
  have HJ := Lib.hid (show ∀ m, Calls Tryz.prog 34 #[.pointer (some ⟨z, 0, none⟩), .int .i64 (j : Int)] (w.drewN m) fun e w' => e = .returned (.int .i64 q) ∧ ∃ m, w' = w.drewN m from fun m => (HU.out m j hj).mono fun e w' ⟨he, k, hw⟩ => ⟨by rw [he, hy, hq], m + k, by rw [hw, World.drewN_drewN]⟩)
  have HD := Lib.hid (show ∃ ad, B = some ad ∧ w.cell? (ad.add i) = some (.int .i64 x) ∧ w.cell? (ad.add j) = some (.int .i64 y) from by
    obtain ⟨ad, rfl, d1⟩ := hrd.at_ hi
    obtain ⟨_, e2, d2⟩ := hrd.at_ hj
    obtain rfl := Option.some.inj e2
    rw [hx] at d1
    rw [hy] at d2
    exact ⟨ad, rfl, d1, d2⟩)
  rw [hx, hy, hp, hq]
  obtain ⟨l, hl'⟩ : ∃ l, xs.length = l := ⟨_, rfl⟩
  rw [hl'] at c1 hi hj hmc
  simp at c1
  clear h hr hl hx hy hp hq hrd hnil hl' HU HU0
  by_cases hne : p = q
  · have q1 := neF hne
    rw [show decide (p < q ∨ (p = q ∧ x < y)) = decide (x < y) by simp [hne]]
    clear hne
    go_enter Tryz.func114, Tryz.ntmps114
    go_wp2_with fail
    refine HI0.out.mono ?_
    rintro _ _ ⟨rfl, m1, rfl⟩
    go_wp2_with fail
    refine (HJ.out m1).mono ?_
    rintro _ _ ⟨rfl, m2, rfl⟩
    obtain ⟨ad, rfl, d1, d2⟩ := HD.out
    clear HI HI0 HJ HD
    go_wp2
    go_quiet (fail)
    go_wp2
    go_ret
    exact ⟨rfl, _, by rw [World.drewN_drewN]⟩
  · have q1 := neT hne
    rw [show decide (p < q ∨ (p = q ∧ x < y)) = decide (p < q) by simp [hne]]
    clear hne
    go_enter Tryz.func114, Tryz.ntmps114
    go_wp2_with fail
    refine HI0.out.mono ?_
    rintro _ _ ⟨rfl, m1, rfl⟩
    go_wp2_with fail
    refine (HJ.out m1).mono ?_
    rintro _ _ ⟨rfl, m2, rfl⟩
    go_wp2_with fail
    refine (HI.out m2).mono ?_
    rintro _ _ ⟨rfl, m3, rfl⟩
    go_wp2_with fail
    refine (HJ.out m3).mono ?_
    rintro _ _ ⟨rfl, m4, rfl⟩
    go_wp2
    go_ret
    exact ⟨rfl, _, rfl⟩

set_option maxRecDepth 100000 in
set_option maxHeartbeats 1000000 in
theorem hswap_any (w : World) (v : Value) (xs : List Int) (h : WHeap w0 z A n cap ps w v xs) (hx : xs.length ≤ 2000000) (i j : Nat) (hi : i < xs.length) (hj : j < xs.length) :
    Calls Tryz.prog 117 #[.pointer (some ⟨z, 0, none⟩), .int .i64 (i : Int), .int .i64 (j : Int)] w fun e w' => e = .returned (.tuple #[]) ∧ WHeap w0 z A n cap ps w' v (swapL 0 xs i j) ∧ ∃ g, v.ownBlock = some g ∧ (∀ k, k ≠ g → w'.heap[k]? = w.heap[k]?) ∧ w'.heap.size = w.heap.size := by
  have c1 := cell_of_row w z 1 _ _ _ h.obj
  obtain ⟨g, c, rfl, hbg, hgl, hmc, hcm⟩ := h.own.open_ (by omega)
  have d1 := h.own.cell hi
  have d2 := h.own.cell hj
  have f1 := h.own.unfrozen i
  have f2 := h.own.unfrozen j
  obtain ⟨m, hm⟩ : ∃ m, xs.length = m := ⟨_, rfl⟩
  obtain ⟨a, ha⟩ : ∃ a, xs.getD i 0 = a := ⟨_, rfl⟩
  obtain ⟨b, hb⟩ : ∃ b, xs.getD j 0 = b := ⟨_, rfl⟩
  have hain : a ∈ xs := by rw [← ha]; simp [List.getD, hi]
  have hbin : b ∈ xs := by rw [← hb]; simp [List.getD, hj]
  rw [ha] at d1
  rw [hb] at d2
  have hsl : swapL 0 xs i j = (xs.set i b).set j a := by unfold swapL; rw [ha, hb]
  rw [hsl]
  have d3 := (h.own.set i b).cell hj
  obtain ⟨y, hy⟩ : ∃ y, (xs.set i b).getD j 0 = y := ⟨_, rfl⟩
  rw [hy] at d3
  clear hy
  have HH := Lib.hid h
  have HM := Lib.hid hm
  have HIN := Lib.hid (And.intro hain hbin)
  rw [hm] at c1 hi hj hmc
  simp at c1
  clear h ha hb hsl hm hain hbin
  go_enter Tryz.func117, Tryz.ntmps117
  go_wp2
  go_region
  go_wp2
  go_end0
  have hbz := HH.out.base
  refine ⟨rfl, ⟨?_, ?_, ?_, hbz, ?_⟩, g, rfl, fun k hk => ?_, by simp⟩
  · show ((w.setCell ⟨g, i, none⟩ (.int .i64 b)).setCell ⟨g, j, none⟩ (.int .i64 a)).heap[z]? = _
    rw [heap_other _ trivial (by simp; omega), heap_other _ trivial (by simp; omega)]
    exact HH.out.obj
  · rw [List.length_set, List.length_set]
    exact ((HH.out.own.set i b).set j a).drew
  · exact ((HH.out.below.setCell (p := ⟨g, i, none⟩) (by simp; omega) _).setCell (p := ⟨g, j, none⟩) (by simp; omega) _).drew
  · intro x hx
    rcases List.mem_or_eq_of_mem_set hx with hx | rfl
    · rcases List.mem_or_eq_of_mem_set hx with hx | rfl
      · exact HH.out.ins x hx
      · exact HH.out.ins _ HIN.out.2
    · exact HH.out.ins _ HIN.out.1
  · show ((w.setCell ⟨g, i, none⟩ (.int .i64 b)).setCell ⟨g, j, none⟩ (.int .i64 a)).heap[k]? = _
    rw [heap_other _ trivial (by simpa using fun h => hk h.symm), heap_other _ trivial (by simpa using fun h => hk h.symm)]

set_option maxRecDepth 100000 in
set_option maxHeartbeats 1000000 in
theorem hpop_any (w : World) (v : Value) (xs : List Int) (h : WHeap w0 z A n cap ps w v xs) (hx : xs.length ≤ 2000000) (h0 : 0 < xs.length) :
    Calls Tryz.prog 115 #[.pointer (some ⟨z, 0, none⟩)] w fun e w' => e = .returned (.iface 3 (.int .i64 (xs.getD (xs.length - 1) 0))) ∧ ∃ v', WHeap w0 z A n cap ps w' v' (xs.take (xs.length - 1)) ∧ v'.ownBlock = v.ownBlock ∧ (∀ k, k ≠ z → w'.heap[k]? = w.heap[k]?) ∧ w'.heap.size = w.heap.size := by
  have c1 := cell_of_row w z 1 _ _ _ h.obj
  have f1 := frozen_of_row w z 1 _ _ h.obj
  obtain ⟨g, c, rfl, hbg, hgl, hmc, hcm⟩ := h.own.open_ h0
  obtain ⟨m, hm⟩ : ∃ m, xs.length - 1 = m := ⟨_, rfl⟩
  have hm' : xs.length = m + 1 := by omega
  have d1 := h.own.cell (j := m) (by omega)
  obtain ⟨x, hx'⟩ : ∃ x, xs.getD m 0 = x := ⟨_, rfl⟩
  rw [hx'] at d1
  rw [hm, hx']
  have hfr := fun W => run_frontInts W (some ⟨g, 0, none⟩) (m + 1) c m (by omega)
  have HH := Lib.hid h
  have HM := Lib.hid hm'
  rw [hm'] at c1 hmc
  simp at c1
  clear h hx' hm
  go_enter Tryz.func115, Tryz.ntmps115
  go_wp2
  go_ret
  refine ⟨rfl, .slice (some ⟨g, 0, none⟩) m c, ⟨?_, ?_, ?_, HH.out.base, ?_⟩, rfl, fun k hk => heap_other _ trivial (fun h => hk h.symm), by simp⟩
  · have ho := HH.out.obj
    simp [World.setCell, Array.getElem?_modify, ho]
  · rw [List.length_take, Nat.min_eq_left (by omega)]
    have hq := HH.out.own
    rw [HM.out] at hq
    exact ownsRow_setCell_below (hq.front m (by omega)) (a := ⟨z, 1, none⟩) (by simp) _
  · exact HH.out.below.setCell (p := ⟨z, 1, none⟩) HH.out.base _
  · exact fun x hx => HH.out.ins x (List.mem_of_mem_take hx)

theorem int_assert (x : Int) (w : World) : (Instr.typeAssert (Value.iface 3 (.int .i64 x)) 20 3 false).run Tryz.prog w = .ok (.int .i64 x) w := by kernel_rfl
theorem info_int : (Tryz.prog.info? 3).map (fun i => (i.zero, i.size, i.bytes)) = some (some (.int .i64 0), 1, 8) := by kernel_rfl

theorem push_obj {w w1 : World} {v : Value} {xs : List Int} {o : Obj} (h : WHeap w0 z A n cap ps w v xs) (hg : (w.alloc o).drew.grownBy w1 v.ownBlock) : w1.heap[z]? = some (.cells #[.slice A n cap, v] 110 (0, 0)) :=
  (hg.block z (by have := h.lt; simp; omega) (fun e => by have := h.own.rowLt _ e.symm; omega)).trans ((Below.heap_alloc w o _ h.lt).trans h.obj)
theorem push_cell {w w1 : World} {v : Value} {xs : List Int} {o : Obj} (h : WHeap w0 z A n cap ps w v xs) (hg : (w.alloc o).drew.grownBy w1 v.ownBlock) : w1.cell? ⟨z, 1, none⟩ = some v := cell_of_row w1 z 1 _ _ (0, 0) (push_obj h hg)
theorem push_loose {w w1 : World} {v : Value} {xs : List Int} {o : Obj} (h : WHeap w0 z A n cap ps w v xs) (hg : (w.alloc o).drew.grownBy w1 v.ownBlock) : w1.frozen? ⟨z, 1, none⟩ = false := frozen_of_row w1 z 1 _ _ (push_obj h hg)

set_option maxRecDepth 100000 in
set_option maxHeartbeats 1000000 in
theorem hpush_any (w : World) (v : Value) (xs : List Int) (h : WHeap w0 z A n cap ps w v xs) (hx : xs.length ≤ 2000000) (q : Nat) (hq : q < n) :
    Calls Tryz.prog 116 #[.pointer (some ⟨z, 0, none⟩), .iface 3 (.int .i64 (q : Int))] w fun e w' => e = .returned (.tuple #[]) ∧ ∃ v', WHeap w0 z A n cap ps w' v' (xs ++ [(q : Int)]) ∧ w.heap.size ≤ w'.heap.size := by
  have c1 := cell_of_row w z 1 _ _ _ h.obj
  have f1 := frozen_of_row w z 1 _ _ h.obj
  obtain ⟨m, hm⟩ : ∃ m, xs.length = m := ⟨_, rfl⟩
  have ho := h.own
  rw [hm] at ho hx
  have hlt := h.lt
  have HH := Lib.hid h
  have HM := Lib.hid hm
  have HO := Lib.hid ho
  have ta := int_assert (q : Int)
  simp at c1
  clear h hm ho
  go_enter Tryz.func116, Tryz.ntmps116
  go_wp2
  go_region_law (refine step_append_ints rfl (.tmp 8) (.tmp 11) 61 rfl .i64 8 (z + 1) 3 Tryz.underlying61 info_int v m xs (by simp [Act.eval]) (HO.out.alloc _).drew (some ⟨w.heap.size, 0, none⟩) 1 1 [(q : Int)] (by simp [Act.eval]) (Rd.one (k := .i64) (w := w) (t := 3) (q : Int)) (by omega) (by omega) (by simp; omega) ?_; intro v' w1 ho' hg1 hloc
                 have k1 := push_cell HH.out hg1
                 have k2 := push_loose HH.out hg1
                 obtain ⟨A', c', rfl, _⟩ := ho'.form
                 have HO' := Lib.hid ho'
                 have HG1 := Lib.hid hg1
                 clear ho' hg1 hloc)
  all_goals
    go_wp2
    go_end0
    have hbz := HH.out.base
    refine ⟨rfl, .slice A' (m + 1) c', ⟨?_, ?_, ?_, hbz, ?_⟩, ?_⟩
    · have ho := push_obj HH.out HG1.out
      simp [World.setCell, Array.getElem?_modify, ho]
    · rw [List.length_append, HM.out]
      exact ownsRow_setCell_below HO'.out (a := ⟨z, 1, none⟩) (by simp) _
    · exact (((HH.out.below.alloc (by omega) _).drew).grown HG1.out (by simp; omega) (fun g hg => by have := HO.out.rowLt g hg; omega)).setCell (p := ⟨z, 1, none⟩) hbz _
    · intro x hx'
      rcases List.mem_append.1 hx' with hx' | hx'
      · exact HH.out.ins x hx'
      · simp at hx'
        exact ⟨q, hq, hx'⟩
    · have := HG1.out.size
      simp at this ⊢
      omega
end
end Go.Proofs.YtjnmppdohglcaaaGreatDoor
