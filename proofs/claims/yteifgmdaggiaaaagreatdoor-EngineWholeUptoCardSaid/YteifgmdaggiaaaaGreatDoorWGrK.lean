/-
  The effects of an event, in a map; the engine's Do by its contract.
  What events one behind the other come to; a tick of a state with sagas: plain words. Slices of events.
  Events, one behind the other: the engine's tick and Run by their contracts.
-/
import Derived.Test.YteifgmdaggiaaaaGreatDoorWEngSub
import Derived.MapKept
import Derived.Test.YteifgmdaggiaaaaGreatDoorWGrE
import Derived.Test.YteifgmdaggiaaaaGreatDoorWGrI
import Derived.LoopTactic
set_option linter.unusedSimpArgs false
namespace Go.Proofs.YteifgmdaggiaaaaGreatDoor
open Go Go.RowKit
set_option linter.unusedVariables false
/-- An object is laid over another one. -/
def pm (w : World) (b : Nat) (x : Obj) : World := { w with heap := w.heap.setIfInBounds b x }
theorem pm_size (w : World) (b : Nat) (x : Obj) : (pm w b x).heap.size = w.heap.size := by simp [pm]
theorem pm_at {w : World} {b : Nat} {y : Obj} (x : Obj) (h : w.heap[b]? = some y) : (pm w b x).heap[b]? = some x := (MapKept.heap_set h).1
theorem pm_other {w : World} {b k : Nat} {y : Obj} (x : Obj) (h : w.heap[b]? = some y) (hk : k ≠ b) : (pm w b x).heap[k]? = w.heap[k]? := (MapKept.heap_set h).2 k hk
theorem pm_below {w a : World} {b B : Nat} {y : Obj} (x : Obj) (hb : Below B a w) (h : w.heap[b]? = some y) (hB : B ≤ b) : Below B a (pm w b x) :=
 ⟨hb.os, hb.tape, hb.output, by rw [pm_size]; exact hb.size, fun k hk => (pm_other x h (by omega)).trans (hb.block k hk)⟩
theorem run_upd (b clock : Nat) (es : Array MapEntry) (k : Int) (v : Value) (w : World) (hb : w.heap[b]? = some (.map es clock)) (hf : Instr.findNow (.int .i64) (.int .i64 k) es.toList 0 = some none) :
  (Instr.mapUpdate 116 (.map (some b)) (.int .i64 k) v).run Tryz.prog w = .ok () (pm w b (.map (es.push { key := .int .i64 k, val := v, born := clock }) (clock + 1))) := by
 have hm : Tryz.prog.underlying 116 = some (.map 51 (Tryz.prog.mapElemOf 116)) := by kernel_rfl
 have hk : Tryz.prog.underlying 51 = some (.int .i64) := by kernel_rfl
 have hc : (Instr.checkKey false 10000 51 (.int .i64 k)).run Tryz.prog w = .ok () w := MapKept.run_checkKey (k := .int .i64 k) hk (by simp [MapKept.IsKey]) false 9999
 simp [Instr.mapUpdate, run_underlying hm, MapKept.run_getObj_map hb, hc, MapKept.run_findKey hk hf, MapKept.run_setObj_map _ hb, Result.andThen, pm]
/-- The effects. -/
def effM (hs : Array Value) : Array MapEntry := #[{ key := .int .i64 0, val := .func (.func 80) #[.agg hs] #[], born := 0 }, { key := .int .i64 1, val := .func (.func 81) #[.agg hs] #[], born := 1 }, { key := .int .i64 2, val := .func (.func 82) #[.agg hs] #[], born := 2 }]
theorem run_look (b : Nat) (hs : Array Value) (k : Int) (w : World) (hb : w.heap[b]? = some (.map (effM hs) 3)) (i : Nat) (v : Value) (hf : Instr.findNow (.int .i64) (.int .i64 k) (effM hs).toList 0 = some (some (i, v))) :
  (Instr.lookup 116 (.map (some b)) (.int .i64 k) true).run Tryz.prog w = .ok (.tuple #[v, .bool true]) w := by
 have hm : Tryz.prog.underlying 116 = some (.map 51 (Tryz.prog.mapElemOf 116)) := by kernel_rfl
 have hk : Tryz.prog.underlying 51 = some (.int .i64) := by kernel_rfl
 have hc : (Instr.checkKey false 10000 51 (.int .i64 k)).run Tryz.prog w = .ok () w := MapKept.run_checkKey (k := .int .i64 k) hk (by simp [MapKept.IsKey]) false 9999
 have hne : (effM hs).isEmpty = false := rfl
 simp [Instr.lookup, run_underlying hm, MapKept.run_getObj_map hb, hne, hc, MapKept.run_findKey hk hf, Result.andThen]
theorem look_0 (hs : Array Value) : Instr.findNow (.int .i64) (.int .i64 0) (effM hs).toList 0 = some (some (0, .func (.func 80) #[.agg hs] #[])) := rfl
theorem look_1 (hs : Array Value) : Instr.findNow (.int .i64) (.int .i64 1) (effM hs).toList 0 = some (some (1, .func (.func 81) #[.agg hs] #[])) := rfl
theorem look_2 (hs : Array Value) : Instr.findNow (.int .i64) (.int .i64 2) (effM hs).toList 0 = some (some (2, .func (.func 82) #[.agg hs] #[])) := rfl
set_option maxRecDepth 100000 in
set_option maxHeartbeats 1000000 in
theorem effects_any (V : Sv) (e : Ev) (w : World) :
  Calls Tryz.prog 42 #[.agg (hapC V e)] w fun x w' => ∃ b, x = .returned (.map (some b)) ∧ w'.heap[b]? = some (.map (effM (hapC V e)) 3) ∧ Below w.heap.size w w' := by
 obtain ⟨A0, n0, c0, B0, q0, d0, X0, xn0, xc0, Y0, yn0, yc0, t0⟩ := V
 obtain ⟨what, ⟨rk, ro, ra, rb, rm, rl, ru⟩, key, ok⟩ := e
 unfold hapC
 dsimp only
 have hmf : ∀ (fn : Fn) (first cap : Array Value) (w : World), (Instr.makeFunc fn first cap).run Tryz.prog w = .ok (.func fn first cap) w := fun _ _ _ _ => rfl
 go_enter Tryz.func42, Tryz.ntmps42
 go_upto_region 1 with fail
 have H1 := Lib.hid (Blk.new w 118 #[.slice A0 n0 c0, .slice B0 q0 d0, .slice X0 xn0 xc0, .slice Y0 yn0 yc0, .int .i64 t0, .int .i64 what, .int .i64 rk, .int .i64 ro, .int .i64 ra, .int .i64 rb, .int .i64 rm, .int .i64 rl, .int .i64 ru, .int .i64 key, .bool ok])
 have L1 := Lib.hid ((Below.refl w.heap.size w).alloc (Nat.le_refl _) (.cells #[.slice A0 n0 c0, .slice B0 q0 d0, .slice X0 xn0 xc0, .slice Y0 yn0 yc0, .int .i64 t0, .int .i64 what, .int .i64 rk, .int .i64 ro, .int .i64 ra, .int .i64 rb, .int .i64 rm, .int .i64 rl, .int .i64 ru, .int .i64 key, .bool ok] 118))
 generalize w.alloc (.cells #[.slice A0 n0 c0, .slice B0 q0 d0, .slice X0 xn0 xc0, .slice Y0 yn0 yc0, .int .i64 t0, .int .i64 what, .int .i64 rk, .int .i64 ro, .int .i64 ra, .int .i64 rb, .int .i64 rm, .int .i64 rl, .int .i64 ru, .int .i64 key, .bool ok] 118) = w1 at H1 L1 ⊢
 have hz1 : w.heap.size < w1.heap.size := H1.out.lt
 have hm1 : (w1.alloc (.map #[] 0)).heap[w1.heap.size]? = some (.map #[] 0) := heap_alloc_new w1 _
 have hmk : (Instr.makeMap 116 none).run Tryz.prog w1 = .ok (.map (some w1.heap.size)) (w1.alloc (.map #[] 0)) := rfl
 have hu1 := run_upd w1.heap.size 0 #[] 0 (.func (.func 80) #[.agg #[.slice A0 n0 c0, .slice B0 q0 d0, .slice X0 xn0 xc0, .slice Y0 yn0 yc0, .int .i64 t0, .int .i64 what, .int .i64 rk, .int .i64 ro, .int .i64 ra, .int .i64 rb, .int .i64 rm, .int .i64 rl, .int .i64 ru, .int .i64 key, .bool ok]] #[]) _ hm1 rfl
 have hm2 : (pm (w1.alloc (.map #[] 0)) w1.heap.size (.map #[{ key := .int .i64 0, val := .func (.func 80) #[.agg #[.slice A0 n0 c0, .slice B0 q0 d0, .slice X0 xn0 xc0, .slice Y0 yn0 yc0, .int .i64 t0, .int .i64 what, .int .i64 rk, .int .i64 ro, .int .i64 ra, .int .i64 rb, .int .i64 rm, .int .i64 rl, .int .i64 ru, .int .i64 key, .bool ok]] #[], born := 0 }] 1)).heap[w1.heap.size]? = some (.map #[{ key := .int .i64 0, val := .func (.func 80) #[.agg #[.slice A0 n0 c0, .slice B0 q0 d0, .slice X0 xn0 xc0, .slice Y0 yn0 yc0, .int .i64 t0, .int .i64 what, .int .i64 rk, .int .i64 ro, .int .i64 ra, .int .i64 rb, .int .i64 rm, .int .i64 rl, .int .i64 ru, .int .i64 key, .bool ok]] #[], born := 0 }] 1) := pm_at _ hm1
 have hu2 := run_upd w1.heap.size 1 #[{ key := .int .i64 0, val := .func (.func 80) #[.agg #[.slice A0 n0 c0, .slice B0 q0 d0, .slice X0 xn0 xc0, .slice Y0 yn0 yc0, .int .i64 t0, .int .i64 what, .int .i64 rk, .int .i64 ro, .int .i64 ra, .int .i64 rb, .int .i64 rm, .int .i64 rl, .int .i64 ru, .int .i64 key, .bool ok]] #[], born := 0 }] 1 (.func (.func 81) #[.agg #[.slice A0 n0 c0, .slice B0 q0 d0, .slice X0 xn0 xc0, .slice Y0 yn0 yc0, .int .i64 t0, .int .i64 what, .int .i64 rk, .int .i64 ro, .int .i64 ra, .int .i64 rb, .int .i64 rm, .int .i64 rl, .int .i64 ru, .int .i64 key, .bool ok]] #[]) _ hm2 rfl
 have hm3 : (pm (pm (w1.alloc (.map #[] 0)) w1.heap.size (.map #[{ key := .int .i64 0, val := .func (.func 80) #[.agg #[.slice A0 n0 c0, .slice B0 q0 d0, .slice X0 xn0 xc0, .slice Y0 yn0 yc0, .int .i64 t0, .int .i64 what, .int .i64 rk, .int .i64 ro, .int .i64 ra, .int .i64 rb, .int .i64 rm, .int .i64 rl, .int .i64 ru, .int .i64 key, .bool ok]] #[], born := 0 }] 1)) w1.heap.size (.map #[{ key := .int .i64 0, val := .func (.func 80) #[.agg #[.slice A0 n0 c0, .slice B0 q0 d0, .slice X0 xn0 xc0, .slice Y0 yn0 yc0, .int .i64 t0, .int .i64 what, .int .i64 rk, .int .i64 ro, .int .i64 ra, .int .i64 rb, .int .i64 rm, .int .i64 rl, .int .i64 ru, .int .i64 key, .bool ok]] #[], born := 0 }, { key := .int .i64 1, val := .func (.func 81) #[.agg #[.slice A0 n0 c0, .slice B0 q0 d0, .slice X0 xn0 xc0, .slice Y0 yn0 yc0, .int .i64 t0, .int .i64 what, .int .i64 rk, .int .i64 ro, .int .i64 ra, .int .i64 rb, .int .i64 rm, .int .i64 rl, .int .i64 ru, .int .i64 key, .bool ok]] #[], born := 1 }] 2)).heap[w1.heap.size]? = some (.map #[{ key := .int .i64 0, val := .func (.func 80) #[.agg #[.slice A0 n0 c0, .slice B0 q0 d0, .slice X0 xn0 xc0, .slice Y0 yn0 yc0, .int .i64 t0, .int .i64 what, .int .i64 rk, .int .i64 ro, .int .i64 ra, .int .i64 rb, .int .i64 rm, .int .i64 rl, .int .i64 ru, .int .i64 key, .bool ok]] #[], born := 0 }, { key := .int .i64 1, val := .func (.func 81) #[.agg #[.slice A0 n0 c0, .slice B0 q0 d0, .slice X0 xn0 xc0, .slice Y0 yn0 yc0, .int .i64 t0, .int .i64 what, .int .i64 rk, .int .i64 ro, .int .i64 ra, .int .i64 rb, .int .i64 rm, .int .i64 rl, .int .i64 ru, .int .i64 key, .bool ok]] #[], born := 1 }] 2) := pm_at _ hm2
 have hu3 := run_upd w1.heap.size 2 #[{ key := .int .i64 0, val := .func (.func 80) #[.agg #[.slice A0 n0 c0, .slice B0 q0 d0, .slice X0 xn0 xc0, .slice Y0 yn0 yc0, .int .i64 t0, .int .i64 what, .int .i64 rk, .int .i64 ro, .int .i64 ra, .int .i64 rb, .int .i64 rm, .int .i64 rl, .int .i64 ru, .int .i64 key, .bool ok]] #[], born := 0 }, { key := .int .i64 1, val := .func (.func 81) #[.agg #[.slice A0 n0 c0, .slice B0 q0 d0, .slice X0 xn0 xc0, .slice Y0 yn0 yc0, .int .i64 t0, .int .i64 what, .int .i64 rk, .int .i64 ro, .int .i64 ra, .int .i64 rb, .int .i64 rm, .int .i64 rl, .int .i64 ru, .int .i64 key, .bool ok]] #[], born := 1 }] 2 (.func (.func 82) #[.agg #[.slice A0 n0 c0, .slice B0 q0 d0, .slice X0 xn0 xc0, .slice Y0 yn0 yc0, .int .i64 t0, .int .i64 what, .int .i64 rk, .int .i64 ro, .int .i64 ra, .int .i64 rb, .int .i64 rm, .int .i64 rl, .int .i64 ru, .int .i64 key, .bool ok]] #[]) _ hm3 rfl
 have hm4 : (pm (pm (pm (w1.alloc (.map #[] 0)) w1.heap.size (.map #[{ key := .int .i64 0, val := .func (.func 80) #[.agg #[.slice A0 n0 c0, .slice B0 q0 d0, .slice X0 xn0 xc0, .slice Y0 yn0 yc0, .int .i64 t0, .int .i64 what, .int .i64 rk, .int .i64 ro, .int .i64 ra, .int .i64 rb, .int .i64 rm, .int .i64 rl, .int .i64 ru, .int .i64 key, .bool ok]] #[], born := 0 }] 1)) w1.heap.size (.map #[{ key := .int .i64 0, val := .func (.func 80) #[.agg #[.slice A0 n0 c0, .slice B0 q0 d0, .slice X0 xn0 xc0, .slice Y0 yn0 yc0, .int .i64 t0, .int .i64 what, .int .i64 rk, .int .i64 ro, .int .i64 ra, .int .i64 rb, .int .i64 rm, .int .i64 rl, .int .i64 ru, .int .i64 key, .bool ok]] #[], born := 0 }, { key := .int .i64 1, val := .func (.func 81) #[.agg #[.slice A0 n0 c0, .slice B0 q0 d0, .slice X0 xn0 xc0, .slice Y0 yn0 yc0, .int .i64 t0, .int .i64 what, .int .i64 rk, .int .i64 ro, .int .i64 ra, .int .i64 rb, .int .i64 rm, .int .i64 rl, .int .i64 ru, .int .i64 key, .bool ok]] #[], born := 1 }] 2)) w1.heap.size (.map #[{ key := .int .i64 0, val := .func (.func 80) #[.agg #[.slice A0 n0 c0, .slice B0 q0 d0, .slice X0 xn0 xc0, .slice Y0 yn0 yc0, .int .i64 t0, .int .i64 what, .int .i64 rk, .int .i64 ro, .int .i64 ra, .int .i64 rb, .int .i64 rm, .int .i64 rl, .int .i64 ru, .int .i64 key, .bool ok]] #[], born := 0 }, { key := .int .i64 1, val := .func (.func 81) #[.agg #[.slice A0 n0 c0, .slice B0 q0 d0, .slice X0 xn0 xc0, .slice Y0 yn0 yc0, .int .i64 t0, .int .i64 what, .int .i64 rk, .int .i64 ro, .int .i64 ra, .int .i64 rb, .int .i64 rm, .int .i64 rl, .int .i64 ru, .int .i64 key, .bool ok]] #[], born := 1 }, { key := .int .i64 2, val := .func (.func 82) #[.agg #[.slice A0 n0 c0, .slice B0 q0 d0, .slice X0 xn0 xc0, .slice Y0 yn0 yc0, .int .i64 t0, .int .i64 what, .int .i64 rk, .int .i64 ro, .int .i64 ra, .int .i64 rb, .int .i64 rm, .int .i64 rl, .int .i64 ru, .int .i64 key, .bool ok]] #[], born := 2 }] 3)).heap[w1.heap.size]? = some (.map #[{ key := .int .i64 0, val := .func (.func 80) #[.agg #[.slice A0 n0 c0, .slice B0 q0 d0, .slice X0 xn0 xc0, .slice Y0 yn0 yc0, .int .i64 t0, .int .i64 what, .int .i64 rk, .int .i64 ro, .int .i64 ra, .int .i64 rb, .int .i64 rm, .int .i64 rl, .int .i64 ru, .int .i64 key, .bool ok]] #[], born := 0 }, { key := .int .i64 1, val := .func (.func 81) #[.agg #[.slice A0 n0 c0, .slice B0 q0 d0, .slice X0 xn0 xc0, .slice Y0 yn0 yc0, .int .i64 t0, .int .i64 what, .int .i64 rk, .int .i64 ro, .int .i64 ra, .int .i64 rb, .int .i64 rm, .int .i64 rl, .int .i64 ru, .int .i64 key, .bool ok]] #[], born := 1 }, { key := .int .i64 2, val := .func (.func 82) #[.agg #[.slice A0 n0 c0, .slice B0 q0 d0, .slice X0 xn0 xc0, .slice Y0 yn0 yc0, .int .i64 t0, .int .i64 what, .int .i64 rk, .int .i64 ro, .int .i64 ra, .int .i64 rb, .int .i64 rm, .int .i64 rl, .int .i64 ru, .int .i64 key, .bool ok]] #[], born := 2 }] 3) := pm_at _ hm3
 have b1 : Below w.heap.size w (w1.alloc (.map #[] 0)) := L1.out.alloc (by omega) _
 have b2 : Below w.heap.size w (pm (w1.alloc (.map #[] 0)) w1.heap.size (.map #[{ key := .int .i64 0, val := .func (.func 80) #[.agg #[.slice A0 n0 c0, .slice B0 q0 d0, .slice X0 xn0 xc0, .slice Y0 yn0 yc0, .int .i64 t0, .int .i64 what, .int .i64 rk, .int .i64 ro, .int .i64 ra, .int .i64 rb, .int .i64 rm, .int .i64 rl, .int .i64 ru, .int .i64 key, .bool ok]] #[], born := 0 }] 1)) := pm_below _ b1 hm1 (by omega)
 have b3 : Below w.heap.size w (pm (pm (w1.alloc (.map #[] 0)) w1.heap.size (.map #[{ key := .int .i64 0, val := .func (.func 80) #[.agg #[.slice A0 n0 c0, .slice B0 q0 d0, .slice X0 xn0 xc0, .slice Y0 yn0 yc0, .int .i64 t0, .int .i64 what, .int .i64 rk, .int .i64 ro, .int .i64 ra, .int .i64 rb, .int .i64 rm, .int .i64 rl, .int .i64 ru, .int .i64 key, .bool ok]] #[], born := 0 }] 1)) w1.heap.size (.map #[{ key := .int .i64 0, val := .func (.func 80) #[.agg #[.slice A0 n0 c0, .slice B0 q0 d0, .slice X0 xn0 xc0, .slice Y0 yn0 yc0, .int .i64 t0, .int .i64 what, .int .i64 rk, .int .i64 ro, .int .i64 ra, .int .i64 rb, .int .i64 rm, .int .i64 rl, .int .i64 ru, .int .i64 key, .bool ok]] #[], born := 0 }, { key := .int .i64 1, val := .func (.func 81) #[.agg #[.slice A0 n0 c0, .slice B0 q0 d0, .slice X0 xn0 xc0, .slice Y0 yn0 yc0, .int .i64 t0, .int .i64 what, .int .i64 rk, .int .i64 ro, .int .i64 ra, .int .i64 rb, .int .i64 rm, .int .i64 rl, .int .i64 ru, .int .i64 key, .bool ok]] #[], born := 1 }] 2)) := pm_below _ b2 hm2 (by omega)
 have b4 : Below w.heap.size w (pm (pm (pm (w1.alloc (.map #[] 0)) w1.heap.size (.map #[{ key := .int .i64 0, val := .func (.func 80) #[.agg #[.slice A0 n0 c0, .slice B0 q0 d0, .slice X0 xn0 xc0, .slice Y0 yn0 yc0, .int .i64 t0, .int .i64 what, .int .i64 rk, .int .i64 ro, .int .i64 ra, .int .i64 rb, .int .i64 rm, .int .i64 rl, .int .i64 ru, .int .i64 key, .bool ok]] #[], born := 0 }] 1)) w1.heap.size (.map #[{ key := .int .i64 0, val := .func (.func 80) #[.agg #[.slice A0 n0 c0, .slice B0 q0 d0, .slice X0 xn0 xc0, .slice Y0 yn0 yc0, .int .i64 t0, .int .i64 what, .int .i64 rk, .int .i64 ro, .int .i64 ra, .int .i64 rb, .int .i64 rm, .int .i64 rl, .int .i64 ru, .int .i64 key, .bool ok]] #[], born := 0 }, { key := .int .i64 1, val := .func (.func 81) #[.agg #[.slice A0 n0 c0, .slice B0 q0 d0, .slice X0 xn0 xc0, .slice Y0 yn0 yc0, .int .i64 t0, .int .i64 what, .int .i64 rk, .int .i64 ro, .int .i64 ra, .int .i64 rb, .int .i64 rm, .int .i64 rl, .int .i64 ru, .int .i64 key, .bool ok]] #[], born := 1 }] 2)) w1.heap.size (.map #[{ key := .int .i64 0, val := .func (.func 80) #[.agg #[.slice A0 n0 c0, .slice B0 q0 d0, .slice X0 xn0 xc0, .slice Y0 yn0 yc0, .int .i64 t0, .int .i64 what, .int .i64 rk, .int .i64 ro, .int .i64 ra, .int .i64 rb, .int .i64 rm, .int .i64 rl, .int .i64 ru, .int .i64 key, .bool ok]] #[], born := 0 }, { key := .int .i64 1, val := .func (.func 81) #[.agg #[.slice A0 n0 c0, .slice B0 q0 d0, .slice X0 xn0 xc0, .slice Y0 yn0 yc0, .int .i64 t0, .int .i64 what, .int .i64 rk, .int .i64 ro, .int .i64 ra, .int .i64 rb, .int .i64 rm, .int .i64 rl, .int .i64 ru, .int .i64 key, .bool ok]] #[], born := 1 }, { key := .int .i64 2, val := .func (.func 82) #[.agg #[.slice A0 n0 c0, .slice B0 q0 d0, .slice X0 xn0 xc0, .slice Y0 yn0 yc0, .int .i64 t0, .int .i64 what, .int .i64 rk, .int .i64 ro, .int .i64 ra, .int .i64 rb, .int .i64 rm, .int .i64 rl, .int .i64 ru, .int .i64 key, .bool ok]] #[], born := 2 }] 3)) := pm_below _ b3 hm3 (by omega)
 have H2 : Blk (w1.alloc (.map #[] 0)) w.heap.size 118 #[.slice A0 n0 c0, .slice B0 q0 d0, .slice X0 xn0 xc0, .slice Y0 yn0 yc0, .int .i64 t0, .int .i64 what, .int .i64 rk, .int .i64 ro, .int .i64 ra, .int .i64 rb, .int .i64 rm, .int .i64 rl, .int .i64 ru, .int .i64 key, .bool ok] := H1.out.more _
 have H3 : Blk (pm (w1.alloc (.map #[] 0)) w1.heap.size (.map #[{ key := .int .i64 0, val := .func (.func 80) #[.agg #[.slice A0 n0 c0, .slice B0 q0 d0, .slice X0 xn0 xc0, .slice Y0 yn0 yc0, .int .i64 t0, .int .i64 what, .int .i64 rk, .int .i64 ro, .int .i64 ra, .int .i64 rb, .int .i64 rm, .int .i64 rl, .int .i64 ru, .int .i64 key, .bool ok]] #[], born := 0 }] 1)) w.heap.size 118 #[.slice A0 n0 c0, .slice B0 q0 d0, .slice X0 xn0 xc0, .slice Y0 yn0 yc0, .int .i64 t0, .int .i64 what, .int .i64 rk, .int .i64 ro, .int .i64 ra, .int .i64 rb, .int .i64 rm, .int .i64 rl, .int .i64 ru, .int .i64 key, .bool ok] := (pm_other _ hm1 (by omega)).trans H2
 have H4 : Blk (pm (pm (w1.alloc (.map #[] 0)) w1.heap.size (.map #[{ key := .int .i64 0, val := .func (.func 80) #[.agg #[.slice A0 n0 c0, .slice B0 q0 d0, .slice X0 xn0 xc0, .slice Y0 yn0 yc0, .int .i64 t0, .int .i64 what, .int .i64 rk, .int .i64 ro, .int .i64 ra, .int .i64 rb, .int .i64 rm, .int .i64 rl, .int .i64 ru, .int .i64 key, .bool ok]] #[], born := 0 }] 1)) w1.heap.size (.map #[{ key := .int .i64 0, val := .func (.func 80) #[.agg #[.slice A0 n0 c0, .slice B0 q0 d0, .slice X0 xn0 xc0, .slice Y0 yn0 yc0, .int .i64 t0, .int .i64 what, .int .i64 rk, .int .i64 ro, .int .i64 ra, .int .i64 rb, .int .i64 rm, .int .i64 rl, .int .i64 ru, .int .i64 key, .bool ok]] #[], born := 0 }, { key := .int .i64 1, val := .func (.func 81) #[.agg #[.slice A0 n0 c0, .slice B0 q0 d0, .slice X0 xn0 xc0, .slice Y0 yn0 yc0, .int .i64 t0, .int .i64 what, .int .i64 rk, .int .i64 ro, .int .i64 ra, .int .i64 rb, .int .i64 rm, .int .i64 rl, .int .i64 ru, .int .i64 key, .bool ok]] #[], born := 1 }] 2)) w.heap.size 118 #[.slice A0 n0 c0, .slice B0 q0 d0, .slice X0 xn0 xc0, .slice Y0 yn0 yc0, .int .i64 t0, .int .i64 what, .int .i64 rk, .int .i64 ro, .int .i64 ra, .int .i64 rb, .int .i64 rm, .int .i64 rl, .int .i64 ru, .int .i64 key, .bool ok] := (pm_other _ hm2 (by omega)).trans H3
 have B4 := Lib.hid b4
 have M4 := Lib.hid hm4
 simp only [List.push_toArray, List.nil_append, List.cons_append, Nat.zero_add] at hu1 hu2 hu3
 obtain ⟨x0, x1, x2, x3, x4, x5, x6, x7, x8, x9, x10, x11, x12, x13, x14⟩ := (show _ ∧ _ ∧ _ ∧ _ ∧ _ ∧ _ ∧ _ ∧ _ ∧ _ ∧ _ ∧ _ ∧ _ ∧ _ ∧ _ ∧ _ from ⟨H2.cell 0 rfl, H2.cell 1 rfl, H2.cell 2 rfl, H2.cell 3 rfl, H2.cell 4 rfl, H2.cell 5 rfl, H2.cell 6 rfl, H2.cell 7 rfl, H2.cell 8 rfl, H2.cell 9 rfl, H2.cell 10 rfl, H2.cell 11 rfl, H2.cell 12 rfl, H2.cell 13 rfl, H2.cell 14 rfl⟩)
 obtain ⟨y0, y1, y2, y3, y4, y5, y6, y7, y8, y9, y10, y11, y12, y13, y14⟩ := (show _ ∧ _ ∧ _ ∧ _ ∧ _ ∧ _ ∧ _ ∧ _ ∧ _ ∧ _ ∧ _ ∧ _ ∧ _ ∧ _ ∧ _ from ⟨H3.cell 0 rfl, H3.cell 1 rfl, H3.cell 2 rfl, H3.cell 3 rfl, H3.cell 4 rfl, H3.cell 5 rfl, H3.cell 6 rfl, H3.cell 7 rfl, H3.cell 8 rfl, H3.cell 9 rfl, H3.cell 10 rfl, H3.cell 11 rfl, H3.cell 12 rfl, H3.cell 13 rfl, H3.cell 14 rfl⟩)
 obtain ⟨z0, z1, z2, z3, z4, z5, z6, z7, z8, z9, z10, z11, z12, z13, z14⟩ := (show _ ∧ _ ∧ _ ∧ _ ∧ _ ∧ _ ∧ _ ∧ _ ∧ _ ∧ _ ∧ _ ∧ _ ∧ _ ∧ _ ∧ _ from ⟨H4.cell 0 rfl, H4.cell 1 rfl, H4.cell 2 rfl, H4.cell 3 rfl, H4.cell 4 rfl, H4.cell 5 rfl, H4.cell 6 rfl, H4.cell 7 rfl, H4.cell 8 rfl, H4.cell 9 rfl, H4.cell 10 rfl, H4.cell 11 rfl, H4.cell 12 rfl, H4.cell 13 rfl, H4.cell 14 rfl⟩)
 clear hm1 hm2 hm3 hm4 b1 b2 b3 b4 H2 H3 H4
 go_wp2
 go_ret
 exact ⟨_, rfl, M4.out, B4.out⟩
/-- What an event comes to; OT: what a tick does. -/
def egOT (OT : Eo) (X : Eg) (e : Ev) : Eo := if e.what = 0 then subO X e.rq else if e.what = 1 then stpO X e.key e.ok else if e.what = 2 then OT else ⟨X, 1, 0⟩
def Ev.cells (e : Ev) : Array Value := #[.int .i64 e.what, .int .i64 e.rq.key, .int .i64 e.rq.op, .int .i64 e.rq.a, .int .i64 e.rq.b, .int .i64 e.rq.amt, .int .i64 e.rq.legs, .int .i64 e.rq.til, .int .i64 e.key, .bool e.ok]
theorem zero_eff (W : World) : (zeroValue (Tryz.prog.mapElemOf 116)).run Tryz.prog W = .ok .nilFunc W := by kernel_rfl
theorem run_look_no (b : Nat) (hs : Array Value) (k : Int) (w : World) (hb : w.heap[b]? = some (.map (effM hs) 3)) (h0 : ¬ k = 0) (h1 : ¬ k = 1) (h2 : ¬ k = 2) :
  (Instr.lookup 116 (.map (some b)) (.int .i64 k) true).run Tryz.prog w = .ok (.tuple #[.nilFunc, .bool false]) w := by
 have hm : Tryz.prog.underlying 116 = some (.map 51 (Tryz.prog.mapElemOf 116)) := by kernel_rfl
 have hk : Tryz.prog.underlying 51 = some (.int .i64) := by kernel_rfl
 have hc : (Instr.checkKey false 10000 51 (.int .i64 k)).run Tryz.prog w = .ok () w := MapKept.run_checkKey (k := .int .i64 k) hk (by simp [MapKept.IsKey]) false 9999
 have hne : (effM hs).isEmpty = false := rfl
 have hf : Instr.findNow (.int .i64) (.int .i64 k) (effM hs).toList 0 = some none := by
  have e0 : (k == (0 : Int)) = false := beq_eq_false_iff_ne.2 h0
  have e1 : (k == (1 : Int)) = false := beq_eq_false_iff_ne.2 h1
  have e2 : (k == (2 : Int)) = false := beq_eq_false_iff_ne.2 h2
  simp [effM, Instr.findNow, Instr.sameNow, e0, e1, e2]
 simp [Instr.lookup, run_underlying hm, MapKept.run_getObj_map hb, hne, hc, MapKept.run_findKey hk hf, Result.andThen, zero_eff]
set_option maxRecDepth 100000 in
set_option maxHeartbeats 2000000 in
theorem edo_any (V : Sv) (T : St) (sl : List Sg) (kl : List Kn) (e : Ev) (OT : Eo) (w : World) (h : SkAt w V T sl kl) (hf : Fits T sl kl) (hkl : kl.length ≤ 900000) (hh : HasErr w) (HT : e.what = 2 → ∀ W, Below w.heap.size w W → Calls Tryz.prog 82 #[.agg (hapC V e)] W (EgB W W.heap.size V OT)) :
  Calls Tryz.prog 13 #[V.val, .agg e.cells] w (EgB w w.heap.size V (egOT OT ⟨T, sl, kl⟩ e)) := by
 have HEF := Lib.hid (fun W => effects_any V e W)
 have HSU := Lib.hid (fun W (hb : Below w.heap.size w W) => esubmit_any V T sl kl e W (h.below hb) hf hkl (hh.below hb))
 have HST := Lib.hid (fun W (hb : Below w.heap.size w W) => estep_any V T sl kl e W (h.below hb) hf (by omega) (hh.below hb))
 have HTK := Lib.hid HT
 have HV_0 := Lib.hid h
 have HL_0 := Lib.hid (Below.refl w.heap.size w)
 obtain ⟨O, hO⟩ : ∃ O, egOT OT ⟨T, sl, kl⟩ e = O := ⟨_, rfl⟩
 rw [hO]
 have HO := Lib.hid hO
 unfold EgB Sv.val Sv.cells at HSU HST HTK
 unfold EgB
 obtain ⟨A0, n0, c0, B0, q0, d0, X0, xn0, xc0, Y0, yn0, yc0, t0⟩ := V
 obtain ⟨what, ⟨rk, ro, ra, rb, rm, rl, ru⟩, key, ok⟩ := e
 unfold egOT at HO
 dsimp only at HO HTK
 generalize subO ⟨T, sl, kl⟩ (⟨rk, ro, ra, rb, rm, rl, ru⟩ : Rq) = OS at HSU HO
 generalize stpO ⟨T, sl, kl⟩ key ok = OP at HST HO
 obtain ⟨hs, hhs⟩ : ∃ hs, hapC ⟨A0, n0, c0, B0, q0, d0, X0, xn0, xc0, Y0, yn0, yc0, t0⟩ ⟨what, ⟨rk, ro, ra, rb, rm, rl, ru⟩, key, ok⟩ = hs := ⟨_, rfl⟩
 rw [hhs] at HEF HSU HST HTK
 unfold hapC at hhs
 unfold Ev.cells Sv.val Sv.cells
 dsimp only at hhs ⊢
 clear h hf hh HT hO
 go_enter Tryz.func13, Tryz.ntmps13
 go_upto_region 1 with fail
 have al := (Below.refl w.heap.size w).alloc (Nat.le_refl _) (.cells #[.slice A0 n0 c0, .slice B0 q0 d0, .slice X0 xn0 xc0, .slice Y0 yn0 yc0, .int .i64 t0] 35)
 replace al := al.alloc (by simp; try omega) (.cells #[.int .i64 what, .int .i64 rk, .int .i64 ro, .int .i64 ra, .int .i64 rb, .int .i64 rm, .int .i64 rl, .int .i64 ru, .int .i64 key, .bool ok] 53)
 replace al := al.alloc (by simp; try omega) (.cells st0 35)
 replace al := al.alloc (by simp; try omega) (.cells rp0 46)
 have nb0 := (((Blk.new w 35 #[.slice A0 n0 c0, .slice B0 q0 d0, .slice X0 xn0 xc0, .slice Y0 yn0 yc0, .int .i64 t0]).more (.cells #[.int .i64 what, .int .i64 rk, .int .i64 ro, .int .i64 ra, .int .i64 rb, .int .i64 rm, .int .i64 rl, .int .i64 ru, .int .i64 key, .bool ok] 53)).more (.cells st0 35)).more (.cells rp0 46)
 have nb1 := ((Blk.new (w.alloc (.cells #[.slice A0 n0 c0, .slice B0 q0 d0, .slice X0 xn0 xc0, .slice Y0 yn0 yc0, .int .i64 t0] 35)) 53 #[.int .i64 what, .int .i64 rk, .int .i64 ro, .int .i64 ra, .int .i64 rb, .int .i64 rm, .int .i64 rl, .int .i64 ru, .int .i64 key, .bool ok]).more (.cells st0 35)).more (.cells rp0 46)
 rw [alloc_size] at nb1
 have nb2 := (Blk.new ((w.alloc (.cells #[.slice A0 n0 c0, .slice B0 q0 d0, .slice X0 xn0 xc0, .slice Y0 yn0 yc0, .int .i64 t0] 35)).alloc (.cells #[.int .i64 what, .int .i64 rk, .int .i64 ro, .int .i64 ra, .int .i64 rb, .int .i64 rm, .int .i64 rl, .int .i64 ru, .int .i64 key, .bool ok] 53)) 35 st0).more (.cells rp0 46)
 rw [alloc_size, alloc_size] at nb2
 have nb3 := Blk.new (((w.alloc (.cells #[.slice A0 n0 c0, .slice B0 q0 d0, .slice X0 xn0 xc0, .slice Y0 yn0 yc0, .int .i64 t0] 35)).alloc (.cells #[.int .i64 what, .int .i64 rk, .int .i64 ro, .int .i64 ra, .int .i64 rb, .int .i64 rm, .int .i64 rl, .int .i64 ru, .int .i64 key, .bool ok] 53)).alloc (.cells st0 35)) 46 rp0
 rw [alloc_size, alloc_size, alloc_size] at nb3
 have HL_1 := Lib.hid (HL_0.out.trans (al.mono HL_0.out.size))
 have HV_1 := Lib.hid (HV_0.out.below al)
 clear al HL_0 HV_0
 have S_1 := Lib.hid (nb0)
 have E_1 := Lib.hid (nb1)
 have Z_1 := Lib.hid (nb2)
 have P_1 := Lib.hid (nb3)
 clear nb0 nb1 nb2 nb3
 generalize (((w.alloc (.cells #[.slice A0 n0 c0, .slice B0 q0 d0, .slice X0 xn0 xc0, .slice Y0 yn0 yc0, .int .i64 t0] 35)).alloc (.cells #[.int .i64 what, .int .i64 rk, .int .i64 ro, .int .i64 ra, .int .i64 rb, .int .i64 rm, .int .i64 rl, .int .i64 ru, .int .i64 key, .bool ok] 53)).alloc (.cells st0 35)).alloc (.cells rp0 46) = w1 at HL_1 HV_1 S_1 E_1 Z_1 P_1 ⊢
 have hz1 : w.heap.size + 1 + 1 + 1 < w1.heap.size := P_1.out.lt
 have hcase : what = 0 ∨ what = 1 ∨ what = 2 ∨ (¬ what = 0 ∧ ¬ what = 1 ∧ ¬ what = 2) := by omega
 rcases hcase with rfl | rfl | rfl | ⟨hn0, hn1, hn2⟩
 · obtain rfl : O = OS := by rw [← HO.out]; rfl
   refine wp_region_held_drew (S := fun w' => Below w1.heap.size w1 w') (by kernel_rfl) (Below.refl _ _).drew (fun hHeld => ?_)
   refine tk 0 9 (v := ?_) ?_ ?_
   rotate_left
   · intro w' hSw
     have hSw' := hSw
     (try dsimp only at hSw')
     obtain ⟨j0, j1, j2, j3, j4⟩ := (show _ ∧ _ ∧ _ ∧ _ ∧ _ from ⟨(S_1.out.later hSw').cell 0 rfl, (S_1.out.later hSw').cell 1 rfl, (S_1.out.later hSw').cell 2 rfl, (S_1.out.later hSw').cell 3 rfl, (S_1.out.later hSw').cell 4 rfl⟩)
     go_simp
     (try with_reducible rfl)
   (try simp only [Act.put, sA, sB, sC])
   refine tk 1 10 (v := ?_) ?_ ?_
   rotate_left
   · intro w' hSw
     have hSw' := hSw
     (try dsimp only at hSw')
     obtain ⟨j0, j1, j2, j3, j4, j5, j6, j7, j8, j9⟩ := (show _ ∧ _ ∧ _ ∧ _ ∧ _ ∧ _ ∧ _ ∧ _ ∧ _ ∧ _ from ⟨(E_1.out.later hSw').cell 0 rfl, (E_1.out.later hSw').cell 1 rfl, (E_1.out.later hSw').cell 2 rfl, (E_1.out.later hSw').cell 3 rfl, (E_1.out.later hSw').cell 4 rfl, (E_1.out.later hSw').cell 5 rfl, (E_1.out.later hSw').cell 6 rfl, (E_1.out.later hSw').cell 7 rfl, (E_1.out.later hSw').cell 8 rfl, (E_1.out.later hSw').cell 9 rfl⟩)
     go_simp
     (try with_reducible rfl)
   (try simp only [Act.put, sA, sB, sC])
   refine tk 2 11 (v := ?_) ?_ ?_
   rotate_left
   · intro w' hSw
     go_simp
     (try with_reducible rfl)
   (try simp only [Act.put, sA, sB, sC])
   refine tk 4 13 (v := ?_) ?_ ?_
   rotate_left
   · intro w' hSw
     go_simp
     (try with_reducible rfl)
   (try simp only [Act.put, sA, sB, sC])
   refine tk 5 14 (v := ?_) ?_ ?_
   rotate_left
   · intro w' hSw
     have hSw' := hSw
     (try dsimp only at hSw')
     have j0 := (E_1.out.later hSw').cell 0 rfl
     go_simp
     (try with_reducible rfl)
   (try simp only [Act.put, sA, sB, sC])
   have hbd : Below w1.heap.size w1 w1.drew := (Below.refl _ _).drew
   have HL_2 := Lib.hid (HL_1.out.trans (hbd.mono HL_1.out.size))
   have HV_2 := Lib.hid (HV_1.out.below hbd)
   have S_2 := Lib.hid (S_1.out.later hbd)
   have E_2 := Lib.hid (E_1.out.later hbd)
   have Z_2 := Lib.hid (Z_1.out.later hbd)
   have P_2 := Lib.hid (P_1.out.later hbd)
   clear HL_1 HV_1 S_1 E_1 Z_1 P_1
   clear hbd
   have hzd : w1.drew.heap.size = w1.heap.size := rfl
   have HZD := Lib.hid hzd
   clear hzd
   generalize w1.drew = wd at hHeld HZD HL_2 HV_2 S_2 E_2 Z_2 P_2 ⊢
   have hszd : wd.heap.size = w1.heap.size := HZD.out
   refine wpAnyH_ready (rs := [3]) (by kernel_rfl) (by simp) ?_
   refine AllReadyH.cons (i := 3) rfl (fun K0 hK => ?_) AllReadyH.nil
   go_simp
   go_at_call 42
   refine (HEF.out wd).mono ?_
   rintro _ w2 ⟨b, rfl, hmb, hb⟩
   have hH2 := hHeld.trans (hb.mono (by omega))
   have HL_3 := Lib.hid (HL_2.out.trans (hb.mono HL_2.out.size))
   have HV_3 := Lib.hid (HV_2.out.below hb)
   have S_3 := Lib.hid (S_2.out.later hb)
   have E_3 := Lib.hid (E_2.out.later hb)
   have Z_3 := Lib.hid (Z_2.out.later hb)
   have P_3 := Lib.hid (P_2.out.later hb)
   clear HL_2 HV_2 S_2 E_2 Z_2 P_2
   clear hb
   refine hK.out _ _ hH2 (fun hHeld => ?_)
   clear hK K0
   (try simp only [Act.put, sA, sB, sC])
   have hlk := run_look b hs 0 w2 hmb _ _ (look_0 hs)
   refine wpAnyH_ready (rs := [6]) (by kernel_rfl) (by simp) ?_
   refine AllReadyH.cons (i := 6) rfl (fun K0 hK => ?_) AllReadyH.nil
   go_simp
   refine hK.out _ _ hHeld (fun hHeld => ?_)
   clear hK K0
   (try simp only [Act.put, sA, sB, sC])
   clear hlk hmb
   refine tk 7 8 (v := ?_) ?_ ?_
   rotate_left
   · intro w' hSw
     go_simp
     (try with_reducible rfl)
   (try simp only [Act.put, sA, sB, sC])
   refine tk 8 16 (v := ?_) ?_ ?_
   rotate_left
   · intro w' hSw
     go_simp
     (try with_reducible rfl)
   (try simp only [Act.put, sA, sB, sC])
   refine tk 9 17 (v := ?_) ?_ ?_
   rotate_left
   · intro w' hSw
     go_simp
     (try with_reducible rfl)
   (try simp only [Act.put, sA, sB, sC])
   refine tk 10 6 (v := ?_) ?_ ?_
   rotate_left
   · intro w' hSw
     go_simp
     (try with_reducible rfl)
   (try simp only [Act.put, sA, sB, sC])
   refine tk 11 7 (v := ?_) ?_ ?_
   rotate_left
   · intro w' hSw
     go_simp
     (try with_reducible rfl)
   (try simp only [Act.put, sA, sB, sC])
   refine wpAnyH_done (by kernel_rfl) ?_ _
   have hz2 : w.heap.size + 1 + 1 + 1 < w2.heap.size := P_3.out.lt
   clear hHeld hH2
   have D := Lib.hid (HSU.out w2 HL_3.out)
   go_wp2_with (first
     | (go_at_call 80; refine D.out.mono ?_; rintro _ w3 ⟨V7, rfl, hv, hb, hnw⟩
        obtain ⟨A7, n7, c7, B7, q7, d7, X7, xn7, xc7, Y7, yn7, yc7, t7⟩ := V7
        dsimp only at hv hnw ⊢
        have HV7 := Lib.hid hv
        have HNW := Lib.hid hnw
        have Z7 := Lib.hid (Z_3.out.later hb)
        have P7 := Lib.hid (P_3.out.later hb)
        have L7 := Lib.hid (HL_3.out.trans (hb.mono HL_3.out.size))
        have hsz := HL_3.out.size
        clear hv hb hnw
        obtain ⟨y0, y1, y2, y3, y4⟩ := (show _ ∧ _ ∧ _ ∧ _ ∧ _ from ⟨Z7.out.cell 0 rfl, Z7.out.cell 1 rfl, Z7.out.cell 2 rfl, Z7.out.cell 3 rfl, Z7.out.cell 4 rfl⟩)
        obtain ⟨f0, f1, f2, f3, f4⟩ := (show _ ∧ _ ∧ _ ∧ _ ∧ _ from ⟨Z7.out.loose 0, Z7.out.loose 1, Z7.out.loose 2, Z7.out.loose 3, Z7.out.loose 4⟩)
        obtain ⟨z0, z1⟩ := (show _ ∧ _ from ⟨P7.out.cell 0 rfl, P7.out.cell 1 rfl⟩)
        obtain ⟨e0, e1⟩ := (show _ ∧ _ from ⟨P7.out.loose 0, P7.out.loose 1⟩)))
   have HT2 := rp_other (st_put Z7.out rfl (.slice A7 n7 c7) (.slice B7 q7 d7) (.slice X7 xn7 xc7) (.slice Y7 yn7 yc7) (.int .i64 t7)) (show w.heap.size + 1 + 1 + 1 ≠ w.heap.size + 1 + 1 by omega) (.int .i64 O.E) (.int .i64 O.I)
   have P6 := st_other P7.out (show w.heap.size + 1 + 1 ≠ w.heap.size + 1 + 1 + 1 by omega) (.slice A7 n7 c7) (.slice B7 q7 d7) (.slice X7 xn7 xc7) (.slice Y7 yn7 yc7) (.int .i64 t7)
   have HT3 := rp_put P6 rfl (.int .i64 O.E) (.int .i64 O.I)
   have HTV := sk_rp (sk_zero HV7.out Z7.out (.slice A7 n7 c7) (.slice B7 q7 d7) (.slice X7 xn7 xc7) (.slice Y7 yn7 yc7) (.int .i64 t7)) P6 (.int .i64 O.E) (.int .i64 O.I)
   have HTB := rp_below (st_below L7.out (show w.heap.size ≤ w.heap.size + 1 + 1 by omega) (.slice A7 n7 c7) (.slice B7 q7 d7) (.slice X7 xn7 xc7) (.slice Y7 yn7 yc7) (.int .i64 t7)) (show w.heap.size ≤ w.heap.size + 1 + 1 + 1 by omega) (.int .i64 O.E) (.int .i64 O.I)
   refine bodyPost_ret (results_two (p := 4) (q := 5) (ty := 35) (tz := 46) rfl _ _ (w.heap.size + 1 + 1) (w.heap.size + 1 + 1 + 1) _ _ _ _ (0, 0) _ _ rfl HT2 Tryz.underlying35 rfl (by kernel_rfl) rfl HT3 Tryz.underlying46 rfl (by kernel_rfl)) rfl ?_
   exact ⟨⟨A7, n7, c7, B7, q7, d7, X7, xn7, xc7, Y7, yn7, yc7, t7⟩, rfl, HTV, HTB, fun p hp hq => HNW.out p (fun b hb => hp b (by omega)) hq⟩
 · obtain rfl : O = OP := by rw [← HO.out]; rfl
   refine wp_region_held_drew (S := fun w' => Below w1.heap.size w1 w') (by kernel_rfl) (Below.refl _ _).drew (fun hHeld => ?_)
   refine tk 0 9 (v := ?_) ?_ ?_
   rotate_left
   · intro w' hSw
     have hSw' := hSw
     (try dsimp only at hSw')
     obtain ⟨j0, j1, j2, j3, j4⟩ := (show _ ∧ _ ∧ _ ∧ _ ∧ _ from ⟨(S_1.out.later hSw').cell 0 rfl, (S_1.out.later hSw').cell 1 rfl, (S_1.out.later hSw').cell 2 rfl, (S_1.out.later hSw').cell 3 rfl, (S_1.out.later hSw').cell 4 rfl⟩)
     go_simp
     (try with_reducible rfl)
   (try simp only [Act.put, sA, sB, sC])
   refine tk 1 10 (v := ?_) ?_ ?_
   rotate_left
   · intro w' hSw
     have hSw' := hSw
     (try dsimp only at hSw')
     obtain ⟨j0, j1, j2, j3, j4, j5, j6, j7, j8, j9⟩ := (show _ ∧ _ ∧ _ ∧ _ ∧ _ ∧ _ ∧ _ ∧ _ ∧ _ ∧ _ from ⟨(E_1.out.later hSw').cell 0 rfl, (E_1.out.later hSw').cell 1 rfl, (E_1.out.later hSw').cell 2 rfl, (E_1.out.later hSw').cell 3 rfl, (E_1.out.later hSw').cell 4 rfl, (E_1.out.later hSw').cell 5 rfl, (E_1.out.later hSw').cell 6 rfl, (E_1.out.later hSw').cell 7 rfl, (E_1.out.later hSw').cell 8 rfl, (E_1.out.later hSw').cell 9 rfl⟩)
     go_simp
     (try with_reducible rfl)
   (try simp only [Act.put, sA, sB, sC])
   refine tk 2 11 (v := ?_) ?_ ?_
   rotate_left
   · intro w' hSw
     go_simp
     (try with_reducible rfl)
   (try simp only [Act.put, sA, sB, sC])
   refine tk 4 13 (v := ?_) ?_ ?_
   rotate_left
   · intro w' hSw
     go_simp
     (try with_reducible rfl)
   (try simp only [Act.put, sA, sB, sC])
   refine tk 5 14 (v := ?_) ?_ ?_
   rotate_left
   · intro w' hSw
     have hSw' := hSw
     (try dsimp only at hSw')
     have j0 := (E_1.out.later hSw').cell 0 rfl
     go_simp
     (try with_reducible rfl)
   (try simp only [Act.put, sA, sB, sC])
   have hbd : Below w1.heap.size w1 w1.drew := (Below.refl _ _).drew
   have HL_2 := Lib.hid (HL_1.out.trans (hbd.mono HL_1.out.size))
   have HV_2 := Lib.hid (HV_1.out.below hbd)
   have S_2 := Lib.hid (S_1.out.later hbd)
   have E_2 := Lib.hid (E_1.out.later hbd)
   have Z_2 := Lib.hid (Z_1.out.later hbd)
   have P_2 := Lib.hid (P_1.out.later hbd)
   clear HL_1 HV_1 S_1 E_1 Z_1 P_1
   clear hbd
   have hzd : w1.drew.heap.size = w1.heap.size := rfl
   have HZD := Lib.hid hzd
   clear hzd
   generalize w1.drew = wd at hHeld HZD HL_2 HV_2 S_2 E_2 Z_2 P_2 ⊢
   have hszd : wd.heap.size = w1.heap.size := HZD.out
   refine wpAnyH_ready (rs := [3]) (by kernel_rfl) (by simp) ?_
   refine AllReadyH.cons (i := 3) rfl (fun K0 hK => ?_) AllReadyH.nil
   go_simp
   go_at_call 42
   refine (HEF.out wd).mono ?_
   rintro _ w2 ⟨b, rfl, hmb, hb⟩
   have hH2 := hHeld.trans (hb.mono (by omega))
   have HL_3 := Lib.hid (HL_2.out.trans (hb.mono HL_2.out.size))
   have HV_3 := Lib.hid (HV_2.out.below hb)
   have S_3 := Lib.hid (S_2.out.later hb)
   have E_3 := Lib.hid (E_2.out.later hb)
   have Z_3 := Lib.hid (Z_2.out.later hb)
   have P_3 := Lib.hid (P_2.out.later hb)
   clear HL_2 HV_2 S_2 E_2 Z_2 P_2
   clear hb
   refine hK.out _ _ hH2 (fun hHeld => ?_)
   clear hK K0
   (try simp only [Act.put, sA, sB, sC])
   have hlk := run_look b hs 1 w2 hmb _ _ (look_1 hs)
   refine wpAnyH_ready (rs := [6]) (by kernel_rfl) (by simp) ?_
   refine AllReadyH.cons (i := 6) rfl (fun K0 hK => ?_) AllReadyH.nil
   go_simp
   refine hK.out _ _ hHeld (fun hHeld => ?_)
   clear hK K0
   (try simp only [Act.put, sA, sB, sC])
   clear hlk hmb
   refine tk 7 8 (v := ?_) ?_ ?_
   rotate_left
   · intro w' hSw
     go_simp
     (try with_reducible rfl)
   (try simp only [Act.put, sA, sB, sC])
   refine tk 8 16 (v := ?_) ?_ ?_
   rotate_left
   · intro w' hSw
     go_simp
     (try with_reducible rfl)
   (try simp only [Act.put, sA, sB, sC])
   refine tk 9 17 (v := ?_) ?_ ?_
   rotate_left
   · intro w' hSw
     go_simp
     (try with_reducible rfl)
   (try simp only [Act.put, sA, sB, sC])
   refine tk 10 6 (v := ?_) ?_ ?_
   rotate_left
   · intro w' hSw
     go_simp
     (try with_reducible rfl)
   (try simp only [Act.put, sA, sB, sC])
   refine tk 11 7 (v := ?_) ?_ ?_
   rotate_left
   · intro w' hSw
     go_simp
     (try with_reducible rfl)
   (try simp only [Act.put, sA, sB, sC])
   refine wpAnyH_done (by kernel_rfl) ?_ _
   have hz2 : w.heap.size + 1 + 1 + 1 < w2.heap.size := P_3.out.lt
   clear hHeld hH2
   have D := Lib.hid (HST.out w2 HL_3.out)
   go_wp2_with (first
     | (go_at_call 81; refine D.out.mono ?_; rintro _ w3 ⟨V7, rfl, hv, hb, hnw⟩
        obtain ⟨A7, n7, c7, B7, q7, d7, X7, xn7, xc7, Y7, yn7, yc7, t7⟩ := V7
        dsimp only at hv hnw ⊢
        have HV7 := Lib.hid hv
        have HNW := Lib.hid hnw
        have Z7 := Lib.hid (Z_3.out.later hb)
        have P7 := Lib.hid (P_3.out.later hb)
        have L7 := Lib.hid (HL_3.out.trans (hb.mono HL_3.out.size))
        have hsz := HL_3.out.size
        clear hv hb hnw
        obtain ⟨y0, y1, y2, y3, y4⟩ := (show _ ∧ _ ∧ _ ∧ _ ∧ _ from ⟨Z7.out.cell 0 rfl, Z7.out.cell 1 rfl, Z7.out.cell 2 rfl, Z7.out.cell 3 rfl, Z7.out.cell 4 rfl⟩)
        obtain ⟨f0, f1, f2, f3, f4⟩ := (show _ ∧ _ ∧ _ ∧ _ ∧ _ from ⟨Z7.out.loose 0, Z7.out.loose 1, Z7.out.loose 2, Z7.out.loose 3, Z7.out.loose 4⟩)
        obtain ⟨z0, z1⟩ := (show _ ∧ _ from ⟨P7.out.cell 0 rfl, P7.out.cell 1 rfl⟩)
        obtain ⟨e0, e1⟩ := (show _ ∧ _ from ⟨P7.out.loose 0, P7.out.loose 1⟩)))
   have HT2 := rp_other (st_put Z7.out rfl (.slice A7 n7 c7) (.slice B7 q7 d7) (.slice X7 xn7 xc7) (.slice Y7 yn7 yc7) (.int .i64 t7)) (show w.heap.size + 1 + 1 + 1 ≠ w.heap.size + 1 + 1 by omega) (.int .i64 O.E) (.int .i64 O.I)
   have P6 := st_other P7.out (show w.heap.size + 1 + 1 ≠ w.heap.size + 1 + 1 + 1 by omega) (.slice A7 n7 c7) (.slice B7 q7 d7) (.slice X7 xn7 xc7) (.slice Y7 yn7 yc7) (.int .i64 t7)
   have HT3 := rp_put P6 rfl (.int .i64 O.E) (.int .i64 O.I)
   have HTV := sk_rp (sk_zero HV7.out Z7.out (.slice A7 n7 c7) (.slice B7 q7 d7) (.slice X7 xn7 xc7) (.slice Y7 yn7 yc7) (.int .i64 t7)) P6 (.int .i64 O.E) (.int .i64 O.I)
   have HTB := rp_below (st_below L7.out (show w.heap.size ≤ w.heap.size + 1 + 1 by omega) (.slice A7 n7 c7) (.slice B7 q7 d7) (.slice X7 xn7 xc7) (.slice Y7 yn7 yc7) (.int .i64 t7)) (show w.heap.size ≤ w.heap.size + 1 + 1 + 1 by omega) (.int .i64 O.E) (.int .i64 O.I)
   refine bodyPost_ret (results_two (p := 4) (q := 5) (ty := 35) (tz := 46) rfl _ _ (w.heap.size + 1 + 1) (w.heap.size + 1 + 1 + 1) _ _ _ _ (0, 0) _ _ rfl HT2 Tryz.underlying35 rfl (by kernel_rfl) rfl HT3 Tryz.underlying46 rfl (by kernel_rfl)) rfl ?_
   exact ⟨⟨A7, n7, c7, B7, q7, d7, X7, xn7, xc7, Y7, yn7, yc7, t7⟩, rfl, HTV, HTB, fun p hp hq => HNW.out p (fun b hb => hp b (by omega)) hq⟩
 · obtain rfl : O = OT := by rw [← HO.out]; rfl
   refine wp_region_held_drew (S := fun w' => Below w1.heap.size w1 w') (by kernel_rfl) (Below.refl _ _).drew (fun hHeld => ?_)
   refine tk 0 9 (v := ?_) ?_ ?_
   rotate_left
   · intro w' hSw
     have hSw' := hSw
     (try dsimp only at hSw')
     obtain ⟨j0, j1, j2, j3, j4⟩ := (show _ ∧ _ ∧ _ ∧ _ ∧ _ from ⟨(S_1.out.later hSw').cell 0 rfl, (S_1.out.later hSw').cell 1 rfl, (S_1.out.later hSw').cell 2 rfl, (S_1.out.later hSw').cell 3 rfl, (S_1.out.later hSw').cell 4 rfl⟩)
     go_simp
     (try with_reducible rfl)
   (try simp only [Act.put, sA, sB, sC])
   refine tk 1 10 (v := ?_) ?_ ?_
   rotate_left
   · intro w' hSw
     have hSw' := hSw
     (try dsimp only at hSw')
     obtain ⟨j0, j1, j2, j3, j4, j5, j6, j7, j8, j9⟩ := (show _ ∧ _ ∧ _ ∧ _ ∧ _ ∧ _ ∧ _ ∧ _ ∧ _ ∧ _ from ⟨(E_1.out.later hSw').cell 0 rfl, (E_1.out.later hSw').cell 1 rfl, (E_1.out.later hSw').cell 2 rfl, (E_1.out.later hSw').cell 3 rfl, (E_1.out.later hSw').cell 4 rfl, (E_1.out.later hSw').cell 5 rfl, (E_1.out.later hSw').cell 6 rfl, (E_1.out.later hSw').cell 7 rfl, (E_1.out.later hSw').cell 8 rfl, (E_1.out.later hSw').cell 9 rfl⟩)
     go_simp
     (try with_reducible rfl)
   (try simp only [Act.put, sA, sB, sC])
   refine tk 2 11 (v := ?_) ?_ ?_
   rotate_left
   · intro w' hSw
     go_simp
     (try with_reducible rfl)
   (try simp only [Act.put, sA, sB, sC])
   refine tk 4 13 (v := ?_) ?_ ?_
   rotate_left
   · intro w' hSw
     go_simp
     (try with_reducible rfl)
   (try simp only [Act.put, sA, sB, sC])
   refine tk 5 14 (v := ?_) ?_ ?_
   rotate_left
   · intro w' hSw
     have hSw' := hSw
     (try dsimp only at hSw')
     have j0 := (E_1.out.later hSw').cell 0 rfl
     go_simp
     (try with_reducible rfl)
   (try simp only [Act.put, sA, sB, sC])
   have hbd : Below w1.heap.size w1 w1.drew := (Below.refl _ _).drew
   have HL_2 := Lib.hid (HL_1.out.trans (hbd.mono HL_1.out.size))
   have HV_2 := Lib.hid (HV_1.out.below hbd)
   have S_2 := Lib.hid (S_1.out.later hbd)
   have E_2 := Lib.hid (E_1.out.later hbd)
   have Z_2 := Lib.hid (Z_1.out.later hbd)
   have P_2 := Lib.hid (P_1.out.later hbd)
   clear HL_1 HV_1 S_1 E_1 Z_1 P_1
   clear hbd
   have hzd : w1.drew.heap.size = w1.heap.size := rfl
   have HZD := Lib.hid hzd
   clear hzd
   generalize w1.drew = wd at hHeld HZD HL_2 HV_2 S_2 E_2 Z_2 P_2 ⊢
   have hszd : wd.heap.size = w1.heap.size := HZD.out
   refine wpAnyH_ready (rs := [3]) (by kernel_rfl) (by simp) ?_
   refine AllReadyH.cons (i := 3) rfl (fun K0 hK => ?_) AllReadyH.nil
   go_simp
   go_at_call 42
   refine (HEF.out wd).mono ?_
   rintro _ w2 ⟨b, rfl, hmb, hb⟩
   have hH2 := hHeld.trans (hb.mono (by omega))
   have HL_3 := Lib.hid (HL_2.out.trans (hb.mono HL_2.out.size))
   have HV_3 := Lib.hid (HV_2.out.below hb)
   have S_3 := Lib.hid (S_2.out.later hb)
   have E_3 := Lib.hid (E_2.out.later hb)
   have Z_3 := Lib.hid (Z_2.out.later hb)
   have P_3 := Lib.hid (P_2.out.later hb)
   clear HL_2 HV_2 S_2 E_2 Z_2 P_2
   clear hb
   refine hK.out _ _ hH2 (fun hHeld => ?_)
   clear hK K0
   (try simp only [Act.put, sA, sB, sC])
   have hlk := run_look b hs 2 w2 hmb _ _ (look_2 hs)
   refine wpAnyH_ready (rs := [6]) (by kernel_rfl) (by simp) ?_
   refine AllReadyH.cons (i := 6) rfl (fun K0 hK => ?_) AllReadyH.nil
   go_simp
   refine hK.out _ _ hHeld (fun hHeld => ?_)
   clear hK K0
   (try simp only [Act.put, sA, sB, sC])
   clear hlk hmb
   refine tk 7 8 (v := ?_) ?_ ?_
   rotate_left
   · intro w' hSw
     go_simp
     (try with_reducible rfl)
   (try simp only [Act.put, sA, sB, sC])
   refine tk 8 16 (v := ?_) ?_ ?_
   rotate_left
   · intro w' hSw
     go_simp
     (try with_reducible rfl)
   (try simp only [Act.put, sA, sB, sC])
   refine tk 9 17 (v := ?_) ?_ ?_
   rotate_left
   · intro w' hSw
     go_simp
     (try with_reducible rfl)
   (try simp only [Act.put, sA, sB, sC])
   refine tk 10 6 (v := ?_) ?_ ?_
   rotate_left
   · intro w' hSw
     go_simp
     (try with_reducible rfl)
   (try simp only [Act.put, sA, sB, sC])
   refine tk 11 7 (v := ?_) ?_ ?_
   rotate_left
   · intro w' hSw
     go_simp
     (try with_reducible rfl)
   (try simp only [Act.put, sA, sB, sC])
   refine wpAnyH_done (by kernel_rfl) ?_ _
   have hz2 : w.heap.size + 1 + 1 + 1 < w2.heap.size := P_3.out.lt
   clear hHeld hH2
   have D := Lib.hid (HTK.out rfl w2 HL_3.out)
   go_wp2_with (first
     | (go_at_call 82; refine D.out.mono ?_; rintro _ w3 ⟨V7, rfl, hv, hb, hnw⟩
        obtain ⟨A7, n7, c7, B7, q7, d7, X7, xn7, xc7, Y7, yn7, yc7, t7⟩ := V7
        dsimp only at hv hnw ⊢
        have HV7 := Lib.hid hv
        have HNW := Lib.hid hnw
        have Z7 := Lib.hid (Z_3.out.later hb)
        have P7 := Lib.hid (P_3.out.later hb)
        have L7 := Lib.hid (HL_3.out.trans (hb.mono HL_3.out.size))
        have hsz := HL_3.out.size
        clear hv hb hnw
        obtain ⟨y0, y1, y2, y3, y4⟩ := (show _ ∧ _ ∧ _ ∧ _ ∧ _ from ⟨Z7.out.cell 0 rfl, Z7.out.cell 1 rfl, Z7.out.cell 2 rfl, Z7.out.cell 3 rfl, Z7.out.cell 4 rfl⟩)
        obtain ⟨f0, f1, f2, f3, f4⟩ := (show _ ∧ _ ∧ _ ∧ _ ∧ _ from ⟨Z7.out.loose 0, Z7.out.loose 1, Z7.out.loose 2, Z7.out.loose 3, Z7.out.loose 4⟩)
        obtain ⟨z0, z1⟩ := (show _ ∧ _ from ⟨P7.out.cell 0 rfl, P7.out.cell 1 rfl⟩)
        obtain ⟨e0, e1⟩ := (show _ ∧ _ from ⟨P7.out.loose 0, P7.out.loose 1⟩)))
   have HT2 := rp_other (st_put Z7.out rfl (.slice A7 n7 c7) (.slice B7 q7 d7) (.slice X7 xn7 xc7) (.slice Y7 yn7 yc7) (.int .i64 t7)) (show w.heap.size + 1 + 1 + 1 ≠ w.heap.size + 1 + 1 by omega) (.int .i64 O.E) (.int .i64 O.I)
   have P6 := st_other P7.out (show w.heap.size + 1 + 1 ≠ w.heap.size + 1 + 1 + 1 by omega) (.slice A7 n7 c7) (.slice B7 q7 d7) (.slice X7 xn7 xc7) (.slice Y7 yn7 yc7) (.int .i64 t7)
   have HT3 := rp_put P6 rfl (.int .i64 O.E) (.int .i64 O.I)
   have HTV := sk_rp (sk_zero HV7.out Z7.out (.slice A7 n7 c7) (.slice B7 q7 d7) (.slice X7 xn7 xc7) (.slice Y7 yn7 yc7) (.int .i64 t7)) P6 (.int .i64 O.E) (.int .i64 O.I)
   have HTB := rp_below (st_below L7.out (show w.heap.size ≤ w.heap.size + 1 + 1 by omega) (.slice A7 n7 c7) (.slice B7 q7 d7) (.slice X7 xn7 xc7) (.slice Y7 yn7 yc7) (.int .i64 t7)) (show w.heap.size ≤ w.heap.size + 1 + 1 + 1 by omega) (.int .i64 O.E) (.int .i64 O.I)
   refine bodyPost_ret (results_two (p := 4) (q := 5) (ty := 35) (tz := 46) rfl _ _ (w.heap.size + 1 + 1) (w.heap.size + 1 + 1 + 1) _ _ _ _ (0, 0) _ _ rfl HT2 Tryz.underlying35 rfl (by kernel_rfl) rfl HT3 Tryz.underlying46 rfl (by kernel_rfl)) rfl ?_
   exact ⟨⟨A7, n7, c7, B7, q7, d7, X7, xn7, xc7, Y7, yn7, yc7, t7⟩, rfl, HTV, HTB, fun p hp hq => HNW.out p (fun b hb => hp b (by omega)) hq⟩
 · obtain rfl : O = ⟨⟨T, sl, kl⟩, 1, 0⟩ := by rw [← HO.out, if_neg hn0, if_neg hn1, if_neg hn2]
   refine wp_region_held_drew (S := fun w' => Below w1.heap.size w1 w') (by kernel_rfl) (Below.refl _ _).drew (fun hHeld => ?_)
   refine tk 0 9 (v := ?_) ?_ ?_
   rotate_left
   · intro w' hSw
     have hSw' := hSw
     (try dsimp only at hSw')
     obtain ⟨j0, j1, j2, j3, j4⟩ := (show _ ∧ _ ∧ _ ∧ _ ∧ _ from ⟨(S_1.out.later hSw').cell 0 rfl, (S_1.out.later hSw').cell 1 rfl, (S_1.out.later hSw').cell 2 rfl, (S_1.out.later hSw').cell 3 rfl, (S_1.out.later hSw').cell 4 rfl⟩)
     go_simp
     (try with_reducible rfl)
   (try simp only [Act.put, sA, sB, sC])
   refine tk 1 10 (v := ?_) ?_ ?_
   rotate_left
   · intro w' hSw
     have hSw' := hSw
     (try dsimp only at hSw')
     obtain ⟨j0, j1, j2, j3, j4, j5, j6, j7, j8, j9⟩ := (show _ ∧ _ ∧ _ ∧ _ ∧ _ ∧ _ ∧ _ ∧ _ ∧ _ ∧ _ from ⟨(E_1.out.later hSw').cell 0 rfl, (E_1.out.later hSw').cell 1 rfl, (E_1.out.later hSw').cell 2 rfl, (E_1.out.later hSw').cell 3 rfl, (E_1.out.later hSw').cell 4 rfl, (E_1.out.later hSw').cell 5 rfl, (E_1.out.later hSw').cell 6 rfl, (E_1.out.later hSw').cell 7 rfl, (E_1.out.later hSw').cell 8 rfl, (E_1.out.later hSw').cell 9 rfl⟩)
     go_simp
     (try with_reducible rfl)
   (try simp only [Act.put, sA, sB, sC])
   refine tk 2 11 (v := ?_) ?_ ?_
   rotate_left
   · intro w' hSw
     go_simp
     (try with_reducible rfl)
   (try simp only [Act.put, sA, sB, sC])
   refine tk 4 13 (v := ?_) ?_ ?_
   rotate_left
   · intro w' hSw
     go_simp
     (try with_reducible rfl)
   (try simp only [Act.put, sA, sB, sC])
   refine tk 5 14 (v := ?_) ?_ ?_
   rotate_left
   · intro w' hSw
     have hSw' := hSw
     (try dsimp only at hSw')
     have j0 := (E_1.out.later hSw').cell 0 rfl
     go_simp
     (try with_reducible rfl)
   (try simp only [Act.put, sA, sB, sC])
   have hbd : Below w1.heap.size w1 w1.drew := (Below.refl _ _).drew
   have HL_2 := Lib.hid (HL_1.out.trans (hbd.mono HL_1.out.size))
   have HV_2 := Lib.hid (HV_1.out.below hbd)
   have S_2 := Lib.hid (S_1.out.later hbd)
   have E_2 := Lib.hid (E_1.out.later hbd)
   have Z_2 := Lib.hid (Z_1.out.later hbd)
   have P_2 := Lib.hid (P_1.out.later hbd)
   clear HL_1 HV_1 S_1 E_1 Z_1 P_1
   clear hbd
   have hzd : w1.drew.heap.size = w1.heap.size := rfl
   have HZD := Lib.hid hzd
   clear hzd
   generalize w1.drew = wd at hHeld HZD HL_2 HV_2 S_2 E_2 Z_2 P_2 ⊢
   have hszd : wd.heap.size = w1.heap.size := HZD.out
   refine wpAnyH_ready (rs := [3]) (by kernel_rfl) (by simp) ?_
   refine AllReadyH.cons (i := 3) rfl (fun K0 hK => ?_) AllReadyH.nil
   go_simp
   go_at_call 42
   refine (HEF.out wd).mono ?_
   rintro _ w2 ⟨b, rfl, hmb, hb⟩
   have hH2 := hHeld.trans (hb.mono (by omega))
   have HL_3 := Lib.hid (HL_2.out.trans (hb.mono HL_2.out.size))
   have HV_3 := Lib.hid (HV_2.out.below hb)
   have S_3 := Lib.hid (S_2.out.later hb)
   have E_3 := Lib.hid (E_2.out.later hb)
   have Z_3 := Lib.hid (Z_2.out.later hb)
   have P_3 := Lib.hid (P_2.out.later hb)
   clear HL_2 HV_2 S_2 E_2 Z_2 P_2
   clear hb
   refine hK.out _ _ hH2 (fun hHeld => ?_)
   clear hK K0
   (try simp only [Act.put, sA, sB, sC])
   have hlk := run_look_no b hs what w2 hmb hn0 hn1 hn2
   refine wpAnyH_ready (rs := [6]) (by kernel_rfl) (by simp) ?_
   refine AllReadyH.cons (i := 6) rfl (fun K0 hK => ?_) AllReadyH.nil
   go_simp
   refine hK.out _ _ hHeld (fun hHeld => ?_)
   clear hK K0
   (try simp only [Act.put, sA, sB, sC])
   clear hlk hmb
   refine tk 7 8 (v := ?_) ?_ ?_
   rotate_left
   · intro w' hSw
     go_simp
     (try with_reducible rfl)
   (try simp only [Act.put, sA, sB, sC])
   refine tk 8 16 (v := ?_) ?_ ?_
   rotate_left
   · intro w' hSw
     go_simp
     (try with_reducible rfl)
   (try simp only [Act.put, sA, sB, sC])
   refine tk 9 17 (v := ?_) ?_ ?_
   rotate_left
   · intro w' hSw
     go_simp
     (try with_reducible rfl)
   (try simp only [Act.put, sA, sB, sC])
   refine tk 10 6 (v := ?_) ?_ ?_
   rotate_left
   · intro w' hSw
     go_simp
     (try with_reducible rfl)
   (try simp only [Act.put, sA, sB, sC])
   refine tk 11 7 (v := ?_) ?_ ?_
   rotate_left
   · intro w' hSw
     go_simp
     (try with_reducible rfl)
   (try simp only [Act.put, sA, sB, sC])
   refine wpAnyH_done (by kernel_rfl) ?_ _
   have hz2 : w.heap.size + 1 + 1 + 1 < w2.heap.size := P_3.out.lt
   clear hHeld hH2
   clear hn0 hn1 hn2
   obtain ⟨x0, x1, x2, x3, x4⟩ := (show _ ∧ _ ∧ _ ∧ _ ∧ _ from ⟨S_3.out.cell 0 rfl, S_3.out.cell 1 rfl, S_3.out.cell 2 rfl, S_3.out.cell 3 rfl, S_3.out.cell 4 rfl⟩)
   obtain ⟨y0, y1, y2, y3, y4⟩ := (show _ ∧ _ ∧ _ ∧ _ ∧ _ from ⟨Z_3.out.cell 0 rfl, Z_3.out.cell 1 rfl, Z_3.out.cell 2 rfl, Z_3.out.cell 3 rfl, Z_3.out.cell 4 rfl⟩)
   obtain ⟨f0, f1, f2, f3, f4⟩ := (show _ ∧ _ ∧ _ ∧ _ ∧ _ from ⟨Z_3.out.loose 0, Z_3.out.loose 1, Z_3.out.loose 2, Z_3.out.loose 3, Z_3.out.loose 4⟩)
   obtain ⟨z0, z1⟩ := (show _ ∧ _ from ⟨P_3.out.cell 0 rfl, P_3.out.cell 1 rfl⟩)
   obtain ⟨e0, e1⟩ := (show _ ∧ _ from ⟨P_3.out.loose 0, P_3.out.loose 1⟩)
   go_wp2
   have HT2 := rp_other (st_put Z_3.out rfl (.slice A0 n0 c0) (.slice B0 q0 d0) (.slice X0 xn0 xc0) (.slice Y0 yn0 yc0) (.int .i64 t0)) (show w.heap.size + 1 + 1 + 1 ≠ w.heap.size + 1 + 1 by omega) (.int .i64 1) (.int .i64 0)
   have P6 := st_other P_3.out (show w.heap.size + 1 + 1 ≠ w.heap.size + 1 + 1 + 1 by omega) (.slice A0 n0 c0) (.slice B0 q0 d0) (.slice X0 xn0 xc0) (.slice Y0 yn0 yc0) (.int .i64 t0)
   have HT3 := rp_put P6 rfl (.int .i64 1) (.int .i64 0)
   have HTV := sk_rp (sk_zero HV_3.out Z_3.out (.slice A0 n0 c0) (.slice B0 q0 d0) (.slice X0 xn0 xc0) (.slice Y0 yn0 yc0) (.int .i64 t0)) P6 (.int .i64 1) (.int .i64 0)
   have HTB := rp_below (st_below HL_3.out (show w.heap.size ≤ w.heap.size + 1 + 1 by omega) (.slice A0 n0 c0) (.slice B0 q0 d0) (.slice X0 xn0 xc0) (.slice Y0 yn0 yc0) (.int .i64 t0)) (show w.heap.size ≤ w.heap.size + 1 + 1 + 1 by omega) (.int .i64 1) (.int .i64 0)
   refine bodyPost_ret (results_two (p := 4) (q := 5) (ty := 35) (tz := 46) rfl _ _ (w.heap.size + 1 + 1) (w.heap.size + 1 + 1 + 1) _ _ _ _ (0, 0) _ _ rfl HT2 Tryz.underlying35 rfl (by kernel_rfl) rfl HT3 Tryz.underlying46 rfl (by kernel_rfl)) rfl ?_
   exact ⟨⟨A0, n0, c0, B0, q0, d0, X0, xn0, xc0, Y0, yn0, yc0, t0⟩, rfl, HTV, HTB, Sv.new.refl _ _⟩
/-- What a saga holds, as a payment that stays open. -/
def asPay (g : Sg) : Py := ⟨g.rq.a, g.rq.b, g.rq.amt, 0, 0, 0, 0, 0⟩
/-- A tick, of a state whose sagas hold too. -/
def tickP (T : St) (sl : List Sg) : St := if T.now = 1073741824 then T else ⟨heldL (T.pys.map (closeP (T.now + 1)) ++ sl.map asPay) T.acs, T.pys.map (closeP (T.now + 1)), T.now + 1⟩
/-- What an event comes to. -/
def egO (X : Eg) (e : Ev) : Eo := egOT ⟨⟨tickP X.T X.sl, X.sl, X.kl⟩, 0, 0⟩ X e
/-- On the way: the state, and what was told. -/
structure Rv where
 X : Eg
 os : List (Int × Int)
def goV (R : Rv) (e : Ev) : Rv := ⟨(egO R.X e).X, R.os ++ [((egO R.X e).E, (egO R.X e).I)]⟩
def runV (R : Rv) (es : List Ev) : Rv := es.foldl goV R
theorem runV_nil (R : Rv) : runV R [] = R := rfl
theorem runV_cons (R : Rv) (e : Ev) (es : List Ev) : runV R (e :: es) = runV (goV R e) es := rfl
theorem runV_app (R : Rv) (a b : List Ev) : runV R (a ++ b) = runV (runV R a) b := by
 unfold runV
 rw [List.foldl_append]
theorem runV_at {R : Rv} {es : List Ev} {k : Nat} {e : Ev} (h : es[k]? = some e) : runV R (es.take (k + 1)) = goV (runV R (es.take k)) e := by
 rw [List.take_add_one, h]
 exact runV_app R (es.take k) [e]
theorem runV_os {es : List Ev} : ∀ {R : Rv}, (runV R es).os.length = R.os.length + es.length := by
 induction es with
 | nil => intro R; rfl
 | cons e es ih =>
   intro R
   have h := ih (R := goV R e)
   rw [runV_cons, h]
   simp [goV]
   omega
/-- How events lie in memory. -/
def evs : Shape Ev := ⟨10, 53, fun e => e.cells.toList, by omega, fun _ => rfl, fun a u hu => by
  simp only [Ev.cells, List.mem_cons, List.not_mem_nil, or_false] at hu
  rcases hu with rfl | rfl | rfl | rfl | rfl | rfl | rfl | rfl | rfl | rfl <;> rfl⟩
theorem ev_cells {w : World} {ad : Addr} {j : Nat} {k : Ev} (h : AtS evs w ad j k) :
  w.cell? (ad.add (j * 10)) = some (.int .i64 k.what) ∧ w.cell? ⟨(ad.add (j * 10)).block, (ad.add (j * 10)).off + 1, none⟩ = some (.int .i64 k.rq.key) ∧ w.cell? ⟨(ad.add (j * 10)).block, (ad.add (j * 10)).off + 2, none⟩ = some (.int .i64 k.rq.op) ∧
  w.cell? ⟨(ad.add (j * 10)).block, (ad.add (j * 10)).off + 3, none⟩ = some (.int .i64 k.rq.a) ∧ w.cell? ⟨(ad.add (j * 10)).block, (ad.add (j * 10)).off + 4, none⟩ = some (.int .i64 k.rq.b) ∧ w.cell? ⟨(ad.add (j * 10)).block, (ad.add (j * 10)).off + 5, none⟩ = some (.int .i64 k.rq.amt) ∧
  w.cell? ⟨(ad.add (j * 10)).block, (ad.add (j * 10)).off + 6, none⟩ = some (.int .i64 k.rq.legs) ∧ w.cell? ⟨(ad.add (j * 10)).block, (ad.add (j * 10)).off + 7, none⟩ = some (.int .i64 k.rq.til) ∧ w.cell? ⟨(ad.add (j * 10)).block, (ad.add (j * 10)).off + 8, none⟩ = some (.int .i64 k.key) ∧
  w.cell? ⟨(ad.add (j * 10)).block, (ad.add (j * 10)).off + 9, none⟩ = some (.bool k.ok) := by
 refine ⟨h 0 _ rfl, ?_, ?_, ?_, ?_, ?_, ?_, ?_, ?_, ?_⟩ <;> rw [← add_next _ _ _ (by omega)]
 · exact h 1 _ rfl
 · exact h 2 _ rfl
 · exact h 3 _ rfl
 · exact h 4 _ rfl
 · exact h 5 _ rfl
 · exact h 6 _ rfl
 · exact h 7 _ rfl
 · exact h 8 _ rfl
 · exact h 9 _ rfl
/-- A tick does so of this state. -/
def TickAt (X : Eg) : Prop := ∀ (W : World) (V : Sv), SkAt W V X.T X.sl X.kl → Calls Tryz.prog 118 #[V.val] W fun e w' => ∃ V' : Sv, e = .returned V'.val ∧ SkAt w' V' (tickP X.T X.sl) X.sl X.kl ∧ Below W.heap.size W w' ∧ V.new V' W.heap.size
set_option maxRecDepth 100000 in
set_option maxHeartbeats 1000000 in
theorem etick_any (V : Sv) (T : St) (sl : List Sg) (kl : List Kn) (e : Ev) (w : World) (h : SkAt w V T sl kl) (HT : TickAt ⟨T, sl, kl⟩) :
  Calls Tryz.prog 82 #[.agg (hapC V e)] w (EgB w w.heap.size V ⟨⟨tickP T sl, sl, kl⟩, 0, 0⟩) := by
 have HTK := Lib.hid (fun W (hb : Below w.heap.size w W) => HT W V (h.below hb))
 have HV_0 := Lib.hid h
 have HL_0 := Lib.hid (Below.refl w.heap.size w)
 unfold EgB hapC
 dsimp only at HTK ⊢
 generalize tickP T sl = T3 at HTK ⊢
 obtain ⟨A0, n0, c0, B0, q0, d0, X0, xn0, xc0, Y0, yn0, yc0, t0⟩ := V
 obtain ⟨what, ⟨rk, ro, ra, rb, rm, rl, ru⟩, key, ok⟩ := e
 unfold Sv.val Sv.cells at HTK
 dsimp only at HTK ⊢
 clear h HT
 go_enter Tryz.func82, Tryz.ntmps82
 go_upto_region 1 with fail
 have al := (Below.refl w.heap.size w).alloc (Nat.le_refl _) (.cells #[.slice A0 n0 c0, .slice B0 q0 d0, .slice X0 xn0 xc0, .slice Y0 yn0 yc0, .int .i64 t0, .int .i64 what, .int .i64 rk, .int .i64 ro, .int .i64 ra, .int .i64 rb, .int .i64 rm, .int .i64 rl, .int .i64 ru, .int .i64 key, .bool ok] 118)
 replace al := al.alloc (by simp; try omega) (.cells st0 35)
 replace al := al.alloc (by simp; try omega) (.cells rp0 46)
 have nb0 := ((Blk.new w 118 #[.slice A0 n0 c0, .slice B0 q0 d0, .slice X0 xn0 xc0, .slice Y0 yn0 yc0, .int .i64 t0, .int .i64 what, .int .i64 rk, .int .i64 ro, .int .i64 ra, .int .i64 rb, .int .i64 rm, .int .i64 rl, .int .i64 ru, .int .i64 key, .bool ok]).more (.cells st0 35)).more (.cells rp0 46)
 have nb1 := (Blk.new (w.alloc (.cells #[.slice A0 n0 c0, .slice B0 q0 d0, .slice X0 xn0 xc0, .slice Y0 yn0 yc0, .int .i64 t0, .int .i64 what, .int .i64 rk, .int .i64 ro, .int .i64 ra, .int .i64 rb, .int .i64 rm, .int .i64 rl, .int .i64 ru, .int .i64 key, .bool ok] 118)) 35 st0).more (.cells rp0 46)
 rw [alloc_size] at nb1
 have nb2 := Blk.new ((w.alloc (.cells #[.slice A0 n0 c0, .slice B0 q0 d0, .slice X0 xn0 xc0, .slice Y0 yn0 yc0, .int .i64 t0, .int .i64 what, .int .i64 rk, .int .i64 ro, .int .i64 ra, .int .i64 rb, .int .i64 rm, .int .i64 rl, .int .i64 ru, .int .i64 key, .bool ok] 118)).alloc (.cells st0 35)) 46 rp0
 rw [alloc_size, alloc_size] at nb2
 have HL_1 := Lib.hid (HL_0.out.trans (al.mono HL_0.out.size))
 have HV_1 := Lib.hid (HV_0.out.below al)
 clear al HL_0 HV_0
 have H_1 := Lib.hid (nb0)
 have Z_1 := Lib.hid (nb1)
 have P_1 := Lib.hid (nb2)
 clear nb0 nb1 nb2
 generalize ((w.alloc (.cells #[.slice A0 n0 c0, .slice B0 q0 d0, .slice X0 xn0 xc0, .slice Y0 yn0 yc0, .int .i64 t0, .int .i64 what, .int .i64 rk, .int .i64 ro, .int .i64 ra, .int .i64 rb, .int .i64 rm, .int .i64 rl, .int .i64 ru, .int .i64 key, .bool ok] 118)).alloc (.cells st0 35)).alloc (.cells rp0 46) = w1 at HL_1 HV_1 H_1 Z_1 P_1 ⊢
 have hz1 : w.heap.size + 1 + 1 < w1.heap.size := P_1.out.lt
 obtain ⟨x0, x1, x2, x3, x4⟩ := (show _ ∧ _ ∧ _ ∧ _ ∧ _ from ⟨H_1.out.cell 0 rfl, H_1.out.cell 1 rfl, H_1.out.cell 2 rfl, H_1.out.cell 3 rfl, H_1.out.cell 4 rfl⟩)
 go_wp2_with (first
   | (go_at_call 118; refine (HTK.out _ HL_1.out).mono ?_; rintro _ w3 ⟨V7, rfl, hv, hb, hnw⟩
      obtain ⟨A7, n7, c7, B7, q7, d7, X7, xn7, xc7, Y7, yn7, yc7, t7⟩ := V7
      dsimp only at hv hnw ⊢
      have HV7 := Lib.hid hv
      have HNW := Lib.hid hnw
      have Z7 := Lib.hid (Z_1.out.later hb)
      have P7 := Lib.hid (P_1.out.later hb)
      have L7 := Lib.hid (HL_1.out.trans (hb.mono HL_1.out.size))
      have hsz := HL_1.out.size
      clear hv hb hnw x0 x1 x2 x3 x4
      obtain ⟨y0, y1, y2, y3, y4⟩ := (show _ ∧ _ ∧ _ ∧ _ ∧ _ from ⟨Z7.out.cell 0 rfl, Z7.out.cell 1 rfl, Z7.out.cell 2 rfl, Z7.out.cell 3 rfl, Z7.out.cell 4 rfl⟩)
      obtain ⟨f0, f1, f2, f3, f4⟩ := (show _ ∧ _ ∧ _ ∧ _ ∧ _ from ⟨Z7.out.loose 0, Z7.out.loose 1, Z7.out.loose 2, Z7.out.loose 3, Z7.out.loose 4⟩)
      obtain ⟨z0, z1⟩ := (show _ ∧ _ from ⟨P7.out.cell 0 rfl, P7.out.cell 1 rfl⟩)
      obtain ⟨e0, e1⟩ := (show _ ∧ _ from ⟨P7.out.loose 0, P7.out.loose 1⟩)))
 have HT2 := rp_other (st_put Z7.out rfl (.slice A7 n7 c7) (.slice B7 q7 d7) (.slice X7 xn7 xc7) (.slice Y7 yn7 yc7) (.int .i64 t7)) (show w.heap.size + 1 + 1 ≠ w.heap.size + 1 by omega) (.int .i64 0) (.int .i64 0)
 have P6 := st_other P7.out (show w.heap.size + 1 ≠ w.heap.size + 1 + 1 by omega) (.slice A7 n7 c7) (.slice B7 q7 d7) (.slice X7 xn7 xc7) (.slice Y7 yn7 yc7) (.int .i64 t7)
 have HT3 := rp_put P6 rfl (.int .i64 0) (.int .i64 0)
 have HTV := sk_rp (sk_zero HV7.out Z7.out (.slice A7 n7 c7) (.slice B7 q7 d7) (.slice X7 xn7 xc7) (.slice Y7 yn7 yc7) (.int .i64 t7)) P6 (.int .i64 0) (.int .i64 0)
 have HTB := rp_below (st_below L7.out (show w.heap.size ≤ w.heap.size + 1 by omega) (.slice A7 n7 c7) (.slice B7 q7 d7) (.slice X7 xn7 xc7) (.slice Y7 yn7 yc7) (.int .i64 t7)) (show w.heap.size ≤ w.heap.size + 1 + 1 by omega) (.int .i64 0) (.int .i64 0)
 refine bodyPost_ret (results_two (p := 2) (q := 3) (ty := 35) (tz := 46) rfl _ _ (w.heap.size + 1) (w.heap.size + 1 + 1) _ _ _ _ (0, 0) _ _ rfl HT2 Tryz.underlying35 rfl (by kernel_rfl) rfl HT3 Tryz.underlying46 rfl (by kernel_rfl)) rfl ?_
 exact ⟨⟨A7, n7, c7, B7, q7, d7, X7, xn7, xc7, Y7, yn7, yc7, t7⟩, rfl, HTV, HTB, fun p hp hq => HNW.out p (fun b hb => hp b (by omega)) hq⟩
theorem edo_full (V : Sv) (T : St) (sl : List Sg) (kl : List Kn) (e : Ev) (w : World) (h : SkAt w V T sl kl) (hf : Fits T sl kl) (hkl : kl.length ≤ 900000) (hh : HasErr w) (HT : e.what = 2 → TickAt ⟨T, sl, kl⟩) :
  Calls Tryz.prog 13 #[V.val, .agg e.cells] w (EgB w w.heap.size V (egO ⟨T, sl, kl⟩ e)) :=
 edo_any V T sl kl e ⟨⟨tickP T sl, sl, kl⟩, 0, 0⟩ w h hf hkl hh fun he W hW => etick_any V T sl kl e W (h.below hW) (HT he)
/-- A state, the replies; nothing below is turned. -/
def RvRes (w : World) (Y : Rv) (e : Ending) (w' : World) : Prop :=
 ∃ (V' : Sv) (g n c : Nat), e = .returned (.tuple #[V'.val, .slice (some ⟨g, 0, none⟩) n c]) ∧ SkAt w' V' Y.X.T Y.X.sl Y.X.kl ∧ OwnS rps w' w.heap.size (.slice (some ⟨g, 0, none⟩) n c) Y.os ∧ Y.os.length = n ∧ Below w.heap.size w w'
set_option maxRecDepth 100000 in
set_option maxHeartbeats 4000000 in
theorem erun_any (V0 : Sv) (R : Rv) (w : World) (ra : Option Addr) (rn rc : Nat) (es : List Ev) (hv : SkAt w V0 R.X.T R.X.sl R.X.kl) (hh : HasErr w) (hr : RdS evs w ra es) (hrn : es.length = rn) (hrm : rn ≤ 8796093022207) (hX : R.os = [])
  (hgood : ∀ k, k < rn → Fits (runV R (es.take k)).X.T (runV R (es.take k)).X.sl (runV R (es.take k)).X.kl ∧ (runV R (es.take k)).X.kl.length ≤ 900000 ∧ ∀ e, es[k]? = some e → e.what = 2 → TickAt (runV R (es.take k)).X) :
  Calls Tryz.prog 23 #[V0.val, .slice ra rn rc] w (RvRes w (runV R es)) := by
 have HV := Lib.hid hv
 have HH := Lib.hid hh
 have HR := Lib.hid hr
 have HRN := Lib.hid hrn
 have HXO := Lib.hid hX
 have HGD := Lib.hid hgood
 have hmk := fun W => run_make_rps rn hrm W
 unfold RvRes
 obtain ⟨A0, n0, c0, B0, q0, d0, X0, xn0, xc0, Y0, yn0, yc0, t0⟩ := V0
 unfold Sv.val Sv.cells
 dsimp only
 clear hv hh hr hX hrn hgood
 go_enter Tryz.func23, Tryz.ntmps23
 go_upto_region 1 with fail
 have B1 := Lib.hid (((Below.refl w.heap.size w).alloc (Nat.le_refl _) (.cells #[.slice A0 n0 c0, .slice B0 q0 d0, .slice X0 xn0 xc0, .slice Y0 yn0 yc0, .int .i64 t0] 35)).alloc (by simp) (.cells #[.slice none 0 0, .slice none 0 0, .slice none 0 0, .slice none 0 0, .int .i64 0] 35))
 have S1 := Lib.hid ((Blk.new w 35 #[.slice A0 n0 c0, .slice B0 q0 d0, .slice X0 xn0 xc0, .slice Y0 yn0 yc0, .int .i64 t0]).more (.cells #[.slice none 0 0, .slice none 0 0, .slice none 0 0, .slice none 0 0, .int .i64 0] 35))
 have z1 := Blk.new (w.alloc (.cells #[.slice A0 n0 c0, .slice B0 q0 d0, .slice X0 xn0 xc0, .slice Y0 yn0 yc0, .int .i64 t0] 35)) 35 #[.slice none 0 0, .slice none 0 0, .slice none 0 0, .slice none 0 0, .int .i64 0]
 rw [alloc_size] at z1
 have Z1 := Lib.hid z1
 clear z1
 generalize (w.alloc (.cells #[.slice A0 n0 c0, .slice B0 q0 d0, .slice X0 xn0 xc0, .slice Y0 yn0 yc0, .int .i64 t0] 35)).alloc (.cells #[.slice none 0 0, .slice none 0 0, .slice none 0 0, .slice none 0 0, .int .i64 0] 35) = w1 at B1 S1 Z1 ⊢
 have hg1 : w.heap.size + 1 < w1.heap.size := Z1.out.lt
 have HV_1 := Lib.hid (HV.out.below B1.out)
 have B_1 := Lib.hid B1.out
 have S_1 := Lib.hid S1.out
 have Z_1 := Lib.hid Z1.out
 have HO1 := Lib.hid (own_room w1 rn hrm)
 clear B1 S1 Z1
 go_upto_region 2 with fail
 have al := (Below.refl w1.heap.size w1).alloc (Nat.le_refl _) (.cells (madeCells #[.int .i64 0, .int .i64 0] (rn * 2)) 46)
 have B_2 := Lib.hid (B_1.out.trans (al.mono B_1.out.size))
 have S_2 := Lib.hid (S_1.out.later al)
 have Z_2 := Lib.hid (Z_1.out.later al)
 have HV_2 := Lib.hid (HV_1.out.below al)
 clear al B_1 S_1 Z_1 HV_1
 generalize w1.alloc (.cells (madeCells #[.int .i64 0, .int .i64 0] (rn * 2)) 46) = w2 at B_2 S_2 Z_2 HV_2 HO1 ⊢
 generalize w1.heap.size = gr at hg1 HO1 ⊢
 have hgw2 : w.heap.size ≤ gr := by omega
 go_wp2
 go_loopw [6, 16] (fun rv i wr => ∃ (k : Nat) (V : Sv), k ≤ rn ∧ i = .int .i64 (k : Int) ∧ rv = .slice (some ⟨gr, 0, none⟩) k rn ∧ Blk wr w.heap.size 35 V.cells ∧ Blk wr (w.heap.size + 1) 35 #[.slice none 0 0, .slice none 0 0, .slice none 0 0, .slice none 0 0, .int .i64 0] ∧ SkAt wr V (runV R (es.take k)).X.T (runV R (es.take k)).X.sl (runV R (es.take k)).X.kl ∧ OwnS rps wr gr (.slice (some ⟨gr, 0, none⟩) k rn) (runV R (es.take k)).os ∧ V.in_ (fun b => b ≠ gr) ∧ Below w.heap.size w wr) (fun _ i _ => rn - (intOf i).toNat)
 case atStart => exact ⟨0, ⟨A0, n0, c0, B0, q0, d0, X0, xn0, xc0, Y0, yn0, yc0, t0⟩, by omega, rfl, rfl, S_2.out, Z_2.out, HV_2.out, by rw [List.take_zero, runV_nil, HXO.out]; exact HO1.out, Sv.in_.mono (HV.out.in_lt) (fun b hb => by omega), B_2.out⟩
 case round =>
  obtain ⟨k, V, hk, rfl, rfl, hG, hZ, hV, hO, hI, hB⟩ := hrel
  obtain ⟨A3, n3, c3, B3, q3, d3, X3, xn3, xc3, Y3, yn3, yc3, t3⟩ := V
  unfold Sv.cells at hG
  dsimp only at hG
  have G_0 := Lib.hid hG
  have Z_0 := Lib.hid hZ
  have HV_0 := Lib.hid hV
  have OR_0 := Lib.hid hO
  have HL_0 := Lib.hid hB
  have HIN := Lib.hid hI
  clear hG hZ hV hO hI hB HV_2 S_2 Z_2 B_2 HO1
  have hgrr : gr < wr.heap.size := (World.ownsRow.lt OR_0.out gr rfl).2
  by_cases hlt : k < rn
  · obtain ⟨e, hek⟩ : ∃ e, es[k]? = some e := ⟨_, List.getElem?_eq_getElem (by rw [HRN.out]; exact hlt)⟩
    have hnx := runV_at (R := R) hek
    obtain ⟨ad, rfl, hat⟩ := (HR.out.below HL_0.out).at_ hek
    obtain ⟨p0, p1, p2, p3, p4, p5, p6, p7, p8, p9⟩ := ev_cells hat
    obtain ⟨hfit, hk9, htk⟩ := HGD.out k hlt
    have htk1 := htk e hek
    have hosn : (runV R (es.take k)).os.length = k := by
     have h1 := runV_os (es := es.take k) (R := R)
     have h2 := HRN.out
     rw [HXO.out, List.length_take, List.length_nil] at h1
     omega
    generalize runV R (es.take k) = Y at hnx hfit hk9 htk htk1 hosn HV_0 OR_0
    obtain ⟨⟨T, sl, kl⟩, os⟩ := Y
    unfold goV at hnx
    dsimp only at hnx hfit hk9 htk1 hosn HV_0 OR_0
    have HD1 := Lib.hid (fun W (h1 : SkAt W ⟨A3, n3, c3, B3, q3, d3, X3, xn3, xc3, Y3, yn3, yc3, t3⟩ T sl kl) (h2 : Below w.heap.size w W) => edo_full ⟨A3, n3, c3, B3, q3, d3, X3, xn3, xc3, Y3, yn3, yc3, t3⟩ T sl kl e W h1 hfit hk9 (HH.out.below h2) htk1)
    unfold EgB at HD1
    generalize egO ⟨T, sl, kl⟩ e = OE at HD1 hnx
    obtain ⟨⟨T9, S9, K9⟩, E9, I9⟩ := OE
    dsimp only at HD1 hnx
    have HNX := Lib.hid hnx
    have HOS := Lib.hid hosn
    obtain ⟨what, ⟨rk, ro, ra, rb, rm, rl, ru⟩, key, ok⟩ := e
    unfold Sv.val Sv.cells Ev.cells at HD1
    dsimp only at p0 p1 p2 p3 p4 p5 p6 p7 p8 p9 HD1
    clear hek hat hnx hosn htk htk1 hfit hk9
    go_upto_region 5 with fail
    have al := (Below.refl wr.heap.size wr).alloc (Nat.le_refl _) (.cells #[.int .i64 what, .int .i64 rk, .int .i64 ro, .int .i64 ra, .int .i64 rb, .int .i64 rm, .int .i64 rl, .int .i64 ru, .int .i64 key, .bool ok] 53)
    have nb0 := Blk.new wr 53 #[.int .i64 what, .int .i64 rk, .int .i64 ro, .int .i64 ra, .int .i64 rb, .int .i64 rm, .int .i64 rl, .int .i64 ru, .int .i64 key, .bool ok]
    have HL_1 := Lib.hid (HL_0.out.trans (al.mono HL_0.out.size))
    have HV_1 := Lib.hid (HV_0.out.below al)
    have G_1 := Lib.hid (G_0.out.later al)
    have Z_1 := Lib.hid (Z_0.out.later al)
    have OR_1 := Lib.hid (OR_0.out.below al)
    clear al HL_0 HV_0 G_0 Z_0 OR_0
    have R_1 := Lib.hid (nb0)
    clear nb0
    generalize wr.alloc (.cells #[.int .i64 what, .int .i64 rk, .int .i64 ro, .int .i64 ra, .int .i64 rb, .int .i64 rm, .int .i64 rl, .int .i64 ru, .int .i64 key, .bool ok] 53) = wb at HL_1 HV_1 G_1 Z_1 OR_1 R_1 ⊢
    clear p0 p1 p2 p3 p4 p5 p6 p7 p8 p9
    have hgb : gr < wr.heap.size := hgrr
    generalize wr.heap.size = gq at R_1 hgb ⊢
    have D1 := Lib.hid (HD1.out wb HV_1.out HL_1.out)
    have hgwb : gr < wb.heap.size := (World.ownsRow.lt OR_1.out gr rfl).2
    obtain ⟨x0, x1, x2, x3, x4⟩ := (show _ ∧ _ ∧ _ ∧ _ ∧ _ from ⟨G_1.out.cell 0 rfl, G_1.out.cell 1 rfl, G_1.out.cell 2 rfl, G_1.out.cell 3 rfl, G_1.out.cell 4 rfl⟩)
    obtain ⟨r0, r1, r2, r3, r4, r5, r6, r7, r8, r9⟩ := (show _ ∧ _ ∧ _ ∧ _ ∧ _ ∧ _ ∧ _ ∧ _ ∧ _ ∧ _ from ⟨R_1.out.cell 0 rfl, R_1.out.cell 1 rfl, R_1.out.cell 2 rfl, R_1.out.cell 3 rfl, R_1.out.cell 4 rfl, R_1.out.cell 5 rfl, R_1.out.cell 6 rfl, R_1.out.cell 7 rfl, R_1.out.cell 8 rfl, R_1.out.cell 9 rfl⟩)
    go_upto_region 6 with (first
      | (go_at_call 13; refine D1.out.mono ?_; rintro _ we ⟨V, rfl, hv, hb, hnw⟩
         obtain ⟨A4, n4, c4, B4, q4, d4, X4, xn4, xc4, Y4, yn4, yc4, t4⟩ := V
         dsimp only at hv ⊢
         have HVa := Lib.hid hv
         have HXe := Lib.hid hb
         have HNW := Lib.hid hnw
         clear hv hb hnw x0 x1 x2 x3 x4 r0 r1 r2 r3 r4 r5 r6 r7 r8 r9))
    clear R_1 HV_1
    have HL_2 := Lib.hid (HL_1.out.trans (HXe.out.mono HL_1.out.size))
    have G_2 := Lib.hid (G_1.out.later HXe.out)
    have Z_2 := Lib.hid (Z_1.out.later HXe.out)
    have OR_2 := Lib.hid (OR_1.out.below HXe.out)
    clear HL_1 G_1 Z_1 OR_1
    have HP_2 := Lib.hid (HVa.out)
    clear HVa HXe D1 HD1
    have hgwe : gr < we.heap.size := (World.ownsRow.lt OR_2.out gr rfl).2
    have hzwe : w.heap.size + 1 < we.heap.size := Z_2.out.lt
    have al := (Below.refl we.heap.size we).alloc (Nat.le_refl _) (.cells #[.slice A4 n4 c4, .slice B4 q4 d4, .slice X4 xn4 xc4, .slice Y4 yn4 yc4, .int .i64 t4] 35)
    replace al := al.alloc (by simp; try omega) (.cells #[.int .i64 E9, .int .i64 I9] 46)
    have nb0 := (Blk.new we 35 #[.slice A4 n4 c4, .slice B4 q4 d4, .slice X4 xn4 xc4, .slice Y4 yn4 yc4, .int .i64 t4]).more (.cells #[.int .i64 E9, .int .i64 I9] 46)
    have nb1 := Blk.new (we.alloc (.cells #[.slice A4 n4 c4, .slice B4 q4 d4, .slice X4 xn4 xc4, .slice Y4 yn4 yc4, .int .i64 t4] 35)) 46 #[.int .i64 E9, .int .i64 I9]
    rw [alloc_size] at nb1
    have HL_3 := Lib.hid (HL_2.out.trans (al.mono HL_2.out.size))
    have G_3 := Lib.hid (G_2.out.later al)
    have Z_3 := Lib.hid (Z_2.out.later al)
    have OR_3 := Lib.hid (OR_2.out.below al)
    have HP_3 := Lib.hid (HP_2.out.below al)
    clear al HL_2 G_2 Z_2 OR_2 HP_2
    have S1_3 := Lib.hid (nb0)
    have P1_3 := Lib.hid (nb1)
    clear nb0 nb1
    generalize (we.alloc (.cells #[.slice A4 n4 c4, .slice B4 q4 d4, .slice X4 xn4 xc4, .slice Y4 yn4 yc4, .int .i64 t4] 35)).alloc (.cells #[.int .i64 E9, .int .i64 I9] 46) = wn at HL_3 G_3 Z_3 OR_3 HP_3 S1_3 P1_3 ⊢
    generalize we.heap.size = g13 at S1_3 P1_3 hgwe hzwe ⊢
    have hgs : w.heap.size ≠ g13 := by omega
    obtain ⟨x0, x1, x2, x3, x4⟩ := (show _ ∧ _ ∧ _ ∧ _ ∧ _ from ⟨S1_3.out.cell 0 rfl, S1_3.out.cell 1 rfl, S1_3.out.cell 2 rfl, S1_3.out.cell 3 rfl, S1_3.out.cell 4 rfl⟩)
    obtain ⟨y0, y1, y2, y3, y4⟩ := (show _ ∧ _ ∧ _ ∧ _ ∧ _ from ⟨G_3.out.cell 0 rfl, G_3.out.cell 1 rfl, G_3.out.cell 2 rfl, G_3.out.cell 3 rfl, G_3.out.cell 4 rfl⟩)
    obtain ⟨f0, f1, f2, f3, f4⟩ := (show _ ∧ _ ∧ _ ∧ _ ∧ _ from ⟨G_3.out.loose 0, G_3.out.loose 1, G_3.out.loose 2, G_3.out.loose 3, G_3.out.loose 4⟩)
    go_upto_region 7 with fail
    clear x0 x1 x2 x3 x4 y0 y1 y2 y3 y4 f0 f1 f2 f3 f4
    have GX := Lib.hid (st_put G_3.out rfl (.slice A4 n4 c4) (.slice B4 q4 d4) (.slice X4 xn4 xc4) (.slice Y4 yn4 yc4) (.int .i64 t4))
    have ZX := Lib.hid (st_other Z_3.out (show w.heap.size ≠ w.heap.size + 1 by omega) (.slice A4 n4 c4) (.slice B4 q4 d4) (.slice X4 xn4 xc4) (.slice Y4 yn4 yc4) (.int .i64 t4))
    have PX := Lib.hid (st_other P1_3.out (show w.heap.size ≠ g13 + 1 by omega) (.slice A4 n4 c4) (.slice B4 q4 d4) (.slice X4 xn4 xc4) (.slice Y4 yn4 yc4) (.int .i64 t4))
    have VX := Lib.hid (sk_put (V0 := ⟨A3, n3, c3, B3, q3, d3, X3, xn3, xc3, Y3, yn3, yc3, t3⟩) HP_3.out G_3.out (.slice A4 n4 c4) (.slice B4 q4 d4) (.slice X4 xn4 xc4) (.slice Y4 yn4 yc4) (.int .i64 t4))
    have OX := Lib.hid (own_st OR_3.out (OR_3.out.ne G_3.out (by decide)) (.slice A4 n4 c4) (.slice B4 q4 d4) (.slice X4 xn4 xc4) (.slice Y4 yn4 yc4) (.int .i64 t4))
    have LX := Lib.hid (st_below HL_3.out (Nat.le_refl _) (.slice A4 n4 c4) (.slice B4 q4 d4) (.slice X4 xn4 xc4) (.slice Y4 yn4 yc4) (.int .i64 t4))
    clear HL_3 G_3 Z_3 OR_3 HP_3 S1_3 P1_3
    generalize ((((wn.setCell ⟨w.heap.size, 0, none⟩ (.slice A4 n4 c4)).setCell ⟨w.heap.size, 1, none⟩ (.slice B4 q4 d4)).setCell ⟨w.heap.size, 2, none⟩ (.slice X4 xn4 xc4)).setCell ⟨w.heap.size, 3, none⟩ (.slice Y4 yn4 yc4)).setCell ⟨w.heap.size, 4, none⟩ (.int .i64 t4) = wx at GX ZX PX VX OX LX ⊢
    have hgwx : gr < wx.heap.size := (World.ownsRow.lt OX.out gr rfl).2
    have hgwz : w.heap.size + 1 < wx.heap.size := ZX.out.lt
    obtain ⟨q0, q1⟩ := (show _ ∧ _ from ⟨PX.out.cell 0 rfl, PX.out.cell 1 rfl⟩)
    go_upto_region 8 with (at_builtin; first
      | (refine wpList_append_in (S := rps) _ rfl info_rps rfl _ rfl (.tmp 27) (.tmp 29) rfl gr gr k rn os rfl (OX.out.alloc _) HOS.out (by omega) ⟨_, 0, none⟩ _ (E9, I9) rfl (AtS.new rfl) ?_
         intro w1' ho1 hg1
         have HO1 := Lib.hid ho1
         have HG1 := Lib.hid hg1
         clear ho1 hg1))
    have al := (Below.refl wx.heap.size wx).alloc (Nat.le_refl _) (.cells #[.int .i64 E9, .int .i64 I9] 46)
    have GY := Lib.hid ((GX.out.later al).grow HG1.out (by intro e; injection e with e; omega))
    have ZY := Lib.hid ((ZX.out.later al).grow HG1.out (by intro e; injection e with e; omega))
    have hin4 : Sv.in_ ⟨A4, n4, c4, B4, q4, d4, X4, xn4, xc4, Y4, yn4, yc4, t4⟩ (fun b => b ≠ gr) := HNW.out (fun b => b ≠ gr) (fun b hb => by omega) HIN.out
    have VY := Lib.hid ((VX.out.below al).grow HG1.out (Sv.in_.mono hin4 (fun b hb e => hb (by injection e with e; exact e.symm))))
    have LY := Lib.hid (below_grown (g := gr) (n := 0) (c := 0) (LX.out.trans (al.mono LX.out.size)) HG1.out (by simp; omega) (by omega))
    clear al
    go_wp2
    go_roundw
    · exact ⟨k + 1, ⟨A4, n4, c4, B4, q4, d4, X4, xn4, xc4, Y4, yn4, yc4, t4⟩, by omega, by first | rfl | (congr 1; omega), rfl, GY.out, ZY.out, by rw [HNX.out]; exact VY.out, by rw [HNX.out]; exact HO1.out, hin4, LY.out⟩
    · simp [intOf]; omega
  · obtain rfl : k = rn := by omega
    have htk : es.take k = es := List.take_of_length_le (by rw [HRN.out]; exact Nat.le_refl _)
    rw [htk] at HV_0 OR_0
    have hol : (runV R es).os.length = k := by
     have h1 := runV_os (es := es) (R := R)
     have h2 := HRN.out
     rw [HXO.out, List.length_nil] at h1
     omega
    obtain ⟨x0, x1, x2, x3, x4⟩ := (show _ ∧ _ ∧ _ ∧ _ ∧ _ from ⟨G_0.out.cell 0 rfl, G_0.out.cell 1 rfl, G_0.out.cell 2 rfl, G_0.out.cell 3 rfl, G_0.out.cell 4 rfl⟩)
    obtain ⟨y0, y1, y2, y3, y4⟩ := (show _ ∧ _ ∧ _ ∧ _ ∧ _ from ⟨Z_0.out.cell 0 rfl, Z_0.out.cell 1 rfl, Z_0.out.cell 2 rfl, Z_0.out.cell 3 rfl, Z_0.out.cell 4 rfl⟩)
    obtain ⟨f0, f1, f2, f3, f4⟩ := (show _ ∧ _ ∧ _ ∧ _ ∧ _ from ⟨Z_0.out.loose 0, Z_0.out.loose 1, Z_0.out.loose 2, Z_0.out.loose 3, Z_0.out.loose 4⟩)
    go_wp2
    have HP := st_put Z_0.out rfl (.slice A3 n3 c3) (.slice B3 q3 d3) (.slice X3 xn3 xc3) (.slice Y3 yn3 yc3) (.int .i64 t3)
    have HPB := st_below HL_0.out (show w.heap.size ≤ w.heap.size + 1 by omega) (.slice A3 n3 c3) (.slice B3 q3 d3) (.slice X3 xn3 xc3) (.slice Y3 yn3 yc3) (.int .i64 t3)
    have HPV := sk_zero HV_0.out Z_0.out (.slice A3 n3 c3) (.slice B3 q3 d3) (.slice X3 xn3 xc3) (.slice Y3 yn3 yc3) (.int .i64 t3)
    have HPO := own_st (OR_0.out.less hgw2) (OR_0.out.ne Z_0.out (by decide)) (.slice A3 n3 c3) (.slice B3 q3 d3) (.slice X3 xn3 xc3) (.slice Y3 yn3 yc3) (.int .i64 t3)
    refine bodyPost_ret (results_st1 (p := 4) (x := 5) (ty := 35) rfl _ _ (w.heap.size + 1) _ _ (0, 0) _ rfl HP Tryz.underlying35 rfl (by kernel_rfl)) rfl ?_
    exact ⟨⟨A3, n3, c3, B3, q3, d3, X3, xn3, xc3, Y3, yn3, yc3, t3⟩, _, k, k, rfl, HPV, HPO, hol, HPB⟩
end Go.Proofs.YteifgmdaggiaaaaGreatDoor
