/-
  chart.Clone, the law's Same and chart.Free by their contracts.
-/
import Derived.Test.YtbneohglblkmeaaDoorChart
namespace Go.Proofs.YtbneohglblkmeaaDoor
open Go Go.RowKit
set_option linter.unusedVariables false

theorem size_acc : (Tryd.prog.info? 48).map (·.size) = some 3 := by kernel_rfl

set_option maxRecDepth 100000 in
/-- copy of as many accounts as there are. -/
theorem run_copy_acc (w : World) (ty : TypeId) (g n dCap : Nat) (A : Option Addr) (sCap : Nat) (cur : Array Value) (t : TypeId) (zs : List Ac) (hg : w.heap[g]? = some (.cells cur t (0, 0))) (hl : zs.length = n) (hr : RdA w A zs) (hfit : cur.size = n * 3) (hnil : A = none → n = 0 ∧ sCap = 0) :
    (Builtin.copy_ #[29, 29] ty #[.slice (some ⟨g, 0, none⟩) n dCap, .slice A n sCap]).run Tryd.prog w = .ok (goInt n) (w.setRow g (acells zs).toArray) := by
  have hcl : (acells zs).length = n * 3 := by rw [acells_len, hl]
  cases hq : Tryd.prog.info? 48 with
  | none => have := size_acc; simp [hq] at this
  | some i =>
    have hi : i.size = 3 := by have := size_acc; simpa [hq] using this
    cases A with
    | none =>
      obtain ⟨rfl, rfl⟩ := hnil rfl
      have h0 : zs = [] := List.eq_nil_of_length_eq_zero hl
      subst h0
      have hc : cur = #[] := by apply Array.eq_empty_of_size_eq_zero; omega
      subst hc
      have hset : w.setRow g (acells []).toArray = w := setRow_self w g #[] t (0, 0) hg
      rw [hset]
      simp [Builtin.copy_, run_underlying Tryd.underlying29, Builtin.lenOf, Builtin.firstCells, sizeOf, typeInfo, hq, storeCells]
    | some a =>
      have hsrc : ∀ j v, (acells zs)[j]? = some v → w.cell? (a.add j) = some v := by
        intro j v hv
        have hj : j < n * 3 := by have := (List.getElem?_eq_some_iff.1 hv).1; omega
        obtain ⟨ad, he, hc⟩ := hr (by omega)
        injection he with he
        subst he
        have hz : zs[j / 3]? = some zs[j / 3] := List.getElem?_eq_getElem (by omega)
        obtain ⟨k0, k1, k2⟩ := acells_get hz
        have hat := hc (j / 3) _ hz
        have h3 : j % 3 = 0 ∨ j % 3 = 1 ∨ j % 3 = 2 := by omega
        rcases h3 with h3 | h3 | h3
        · have e : j / 3 * 3 = j := by omega
          rw [e, hv] at k0
          have := hat.c0
          rw [e, ← k0] at this
          exact this
        · have e : j / 3 * 3 + 1 = j := by omega
          rw [e, hv] at k1
          have := hat.c1
          rw [e, ← k1] at this
          exact this
        · have e : j / 3 * 3 + 2 = j := by omega
          rw [e, hv] at k2
          have := hat.c2
          rw [e, ← k2] at this
          exact this
      have hld := run_loadCells_list (P := Tryd.prog) w a (acells zs) hsrc
      rw [hcl] at hld
      have hst := run_storeCells_at Tryd.prog g 0 t (acells zs) 0 cur w hg (by omega) (acells_one zs)
      have hd : cur.toList.drop (0 + 0 + (acells zs).length) = [] := List.drop_eq_nil_of_le (by simp; omega)
      rw [hd] at hst
      simp only [Nat.add_zero, List.take_zero, List.nil_append, List.append_nil] at hst
      have hmin : Nat.min n n = n := Nat.min_self n
      simp [Builtin.copy_, run_underlying Tryd.underlying29, Builtin.lenOf, Builtin.firstCells, sizeOf, typeInfo, hq, hi, hmin, hld, hst]

set_option maxRecDepth 100000 in
theorem clone_acc (A : Option Addr) (n cap : Nat) (zs : List Ac) (w : World) (hl : zs.length = n) (hr : RdA w A zs) (hn : n ≤ 5864062014805) (hnil : A = none → n = 0 ∧ cap = 0) :
    Calls Tryd.prog 23 #[.slice A n cap] w fun e w' => e = .returned (.slice (some ⟨w.heap.size, 0, none⟩) n n) ∧ OwnA w' w.heap.size (.slice (some ⟨w.heap.size, 0, none⟩) n n) zs ∧ Below w.heap.size w w' := by
  have hmk := run_make_acc n hn
  have HR := Lib.hid hr
  have HL := Lib.hid hl
  have HN := Lib.hid hnil
  have hcp := run_copy_acc (w.alloc (.cells (madeCells #[.int .i64 0, .int .i64 0, .int .i64 0] (n * 3)) 48)) 3 w.heap.size n n A cap _ _ zs (heap_alloc_new w _) hl (hr.alloc _) (size_madeCells _ _) hnil
  clear hr hl hnil
  go_enter Tryd.func23, Tryd.ntmps23
  go_wp2
  go_ret
  refine ⟨rfl, ?_, ?_⟩
  · refine ⟨by rw [acells_len], .inr ⟨w.heap.size, n, (acells zs).toArray, by rw [HL.out], Nat.le_refl _, setRow_heap _ _ _ _ _ _ (heap_alloc_new w _), by rw [HL.out]; exact Nat.le_refl _, by simp only [maxLen]; omega, by simp [acells_len, HL.out], ?_⟩⟩
    exact List.take_of_length_le (by simp [acells_len])
  · exact ((Below.refl w.heap.size w).alloc (Nat.le_refl _) _).trans ⟨rfl, rfl, rfl, by simp [World.setRow], fun k hk => setRow_other _ _ _ _ (by omega)⟩

instance : DecidableEq Ac := fun a b => decidable_of_iff (a.cur = b.cur ∧ a.bal = b.bal ∧ a.held = b.held) (by cases a; cases b; simp)

theorem same_drop {xs ys : List Ac} {k : Nat} {a b : Ac} (ha : xs[k]? = some a) (hb : ys[k]? = some b) : (xs.drop k = ys.drop k) ↔ (a = b ∧ xs.drop (k + 1) = ys.drop (k + 1)) := by
  obtain ⟨hx, rfl⟩ := List.getElem?_eq_some_iff.1 ha
  obtain ⟨hy, rfl⟩ := List.getElem?_eq_some_iff.1 hb
  rw [List.drop_eq_getElem_cons hx, List.drop_eq_getElem_cons hy, List.cons.injEq]

set_option maxRecDepth 100000 in
set_option maxHeartbeats 4000000 in
theorem same_any (A B : Option Addr) (n m cap capb : Nat) (xs ys : List Ac) (w : World) (hx : xs.length = n) (hy : ys.length = m) (hrx : RdA w A xs) (hry : RdA w B ys) (hn : n ≤ 9223372036854775807) (hm : m ≤ 9223372036854775807) :
    Calls Tryd.prog 13 #[.slice A n cap, .slice B m capb] w fun e w' => e = .returned (.bool (decide (xs = ys))) ∧ Below w.heap.size w w' := by
  have HX := Lib.hid hrx
  have HY := Lib.hid hry
  have HLX := Lib.hid hx
  have HLY := Lib.hid hy
  obtain ⟨r, hres⟩ : ∃ r, decide (xs = ys) = r := ⟨_, rfl⟩
  rw [hres]
  have HRES := Lib.hid hres
  clear hrx hry hx hy hres
  by_cases hnm : n = m
  · subst hnm
    go_enter Tryd.func13, Tryd.ntmps13
    go_wp2
    go_loopw [13] (fun i wr => ∃ k : Nat, k ≤ n ∧ i = .int .i64 (k : Int) ∧ decide (xs.drop k = ys.drop k) = r ∧ Below w.heap.size w wr) (fun i _ => n - (intOf i).toNat)
    case atStart => exact ⟨0, Nat.zero_le _, rfl, HRES.out, Below.refl _ _⟩
    case round =>
      obtain ⟨k, hk, rfl, hrest, hbel⟩ := hrel
      have HREST := Lib.hid hrest
      have HBEL := Lib.hid hbel
      clear hrest hbel
      by_cases hlt : k < n
      · obtain ⟨a, ha⟩ : ∃ a, xs[k]? = some a := ⟨_, List.getElem?_eq_getElem (by rw [HLX.out]; exact hlt)⟩
        obtain ⟨b, hb⟩ : ∃ b, ys[k]? = some b := ⟨_, List.getElem?_eq_getElem (by rw [HLY.out]; exact hlt)⟩
        obtain ⟨ax, rfl, hax⟩ := (HX.out.below HBEL.out).at_ ha
        obtain ⟨ay, rfl, hay⟩ := (HY.out.below HBEL.out).at_ hb
        have HS := Lib.hid (same_drop ha hb)
        clear ha hb
        obtain ⟨c0, c1, c2⟩ := hax
        obtain ⟨d0, d1, d2⟩ := hay
        rw [add_next _ (k * 3) 1 (by omega)] at c1 d1
        rw [add_next _ (k * 3) 2 (by omega)] at c2 d2
        obtain ⟨ac, ab, al⟩ := a
        obtain ⟨bc, bb, bl⟩ := b
        simp only at c0 c1 c2 d0 d1 d2
        by_cases e0 : ac = bc
        · subst e0
          by_cases e1 : ab = bb
          · subst e1
            by_cases e2 : al = bl
            · subst e2
              have HN : Hid (decide (xs.drop (k + 1) = ys.drop (k + 1)) = r) := Lib.hid (by rw [← HREST.out]; exact decide_eq_decide.2 ⟨fun h => HS.out.2 ⟨rfl, h⟩, fun h => (HS.out.1 h).2⟩)
              go_wp2
              go_quiet (fail)
              go_wp2
              go_roundw
              case rel => exact ⟨k + 1, by omega, by go_num, HN.out, below_drewN HBEL.out _⟩
              case measure => simp [intOf]; omega
            · obtain rfl : r = false := by rw [← HREST.out]; exact decide_eq_false fun h => e2 (by have := (HS.out.1 h).1; injection this)
              have f2 := eqF e2
              go_wp2
              go_quiet (fail)
              go_wp2
              go_ret
              exact ⟨rfl, below_drewN HBEL.out _⟩
          · obtain rfl : r = false := by rw [← HREST.out]; exact decide_eq_false fun h => e1 (by have := (HS.out.1 h).1; injection this)
            have f2 := eqF e1
            go_wp2
            go_quiet (fail)
            go_wp2
            go_ret
            exact ⟨rfl, below_drewN HBEL.out _⟩
        · obtain rfl : r = false := by rw [← HREST.out]; exact decide_eq_false fun h => e0 (by have := (HS.out.1 h).1; injection this)
          have f2 := eqF e0
          go_wp2
          go_quiet (fail)
          go_wp2
          go_ret
          exact ⟨rfl, below_drewN HBEL.out _⟩
      · obtain rfl : k = n := by omega
        obtain rfl : r = true := by
          rw [← HREST.out]
          refine decide_eq_true ?_
          rw [List.drop_eq_nil_of_le (by rw [HLX.out]; omega), List.drop_eq_nil_of_le (by rw [HLY.out]; omega)]
        go_wp2
        go_ret
        exact ⟨rfl, HBEL.out⟩
  · obtain rfl : r = false := by rw [← HRES.out]; exact decide_eq_false fun h => hnm (by rw [← HLX.out, ← HLY.out, h])
    have f1 : ((n : Int) != (m : Int)) = true := by simpa using (show ¬ (n : Int) = (m : Int) by omega)
    have f2 : ¬ (n : Int) = (m : Int) := by omega
    go_enter Tryd.func13, Tryd.ntmps13
    go_wp2
    go_ret
    exact ⟨rfl, Below.refl _ _⟩

theorem free_any (a : Ac) (w : World) : Calls Tryd.prog 28 #[.agg #[.int .i64 a.cur, .int .i64 a.bal, .int .i64 a.held]] w fun e w' => e = .returned (.int .i64 (wrap64 (a.bal - a.held))) ∧ Below w.heap.size w w' := by
  go_enter Tryd.func28, Tryd.ntmps28
  go_wp2
  go_ret
  exact ⟨rfl, (Below.refl _ _).alloc (Nat.le_refl _) _⟩
end Go.Proofs.YtbneohglblkmeaaDoor
