/-
  keys.Find by its contract.
  keys.clone by its contract; what a change hands back.
  A request's cells in a block; a struct as a named result beside two plain ones.
  keys.Tell by its contract.
  A saga: its cells in a block.
  What saga.Begin, Ready, Turn and Leg answer.
  keys.Ask by its contract.
  keys.clone and keys.Put by their contracts.
  The small functions of request by their contracts: isFrom, mayLegs, mayOp, May, Long; money.Amount.
  request.May by its contract.
  The law's Same by its contract, where both are the same.
-/
import Derived.Test.YteifgmdaggiaaaaGreatDoorWGrB
import Derived.LoopTactic
import Derived.IntWalk
import Derived.WalkSpells
import Derived.Test.YteifgmdaggiaaaaGreatDoorWGrA
import Derived.Test.YteifgmdaggiaaaaGreatDoorProg
import Derived.Laws.Rows
import Derived.Laws.ResultCell
import Derived.BigQuiet
import Derived.Below
import Derived.Lib.Hide
import Derived.Deep.QuietTactic
import Derived.Deep.RegionHeld
import Derived.WalkKit
set_option linter.unusedSimpArgs false
namespace Go.Proofs.YteifgmdaggiaaaaGreatDoor
open Go Go.RowKit
set_option linter.unusedVariables false
set_option maxRecDepth 100000 in
set_option maxHeartbeats 1000000 in
theorem find_any (A : Option Addr) (n cap : Nat) (ks : List Kn) (key : Int) (w : World) (hl : ks.length = n) (hr : RdS known w A ks) (hn : n ≤ 9223372036854775807) :
  Calls Tryz.prog 48 #[.slice A n cap, .int .i64 key] w fun e w' => e = .returned (.int .i64 (fi (findN ks key))) ∧ Below w.heap.size w w' := by
 have HR := Lib.hid hr
 have HL := Lib.hid hl
 obtain ⟨res, hres⟩ : ∃ res, fi (findN ks key) = res := ⟨_, rfl⟩
 rw [hres]
 have HRES := Lib.hid hres
 clear hr hl hres
 go_enter Tryz.func48, Tryz.ntmps48
 go_wp2
 go_loopw [9] (fun i wr => ∃ k : Nat, k ≤ n ∧ i = .int .i64 (k : Int) ∧ (∀ (j : Nat) a, j < k → ks[j]? = some a → a.rq.key ≠ key) ∧ Below w.heap.size w wr) (fun i _ => n - (intOf i).toNat)
 case atStart => exact ⟨0, Nat.zero_le _, rfl, fun j a h => absurd h (by omega), Below.refl _ _⟩
 case round =>
  obtain ⟨k, hk, rfl, hrest, hbel⟩ := hrel
  have HREST := Lib.hid hrest
  have HBEL := Lib.hid hbel
  have hsz := hbel.size
  clear hrest hbel
  by_cases hlt : k < n
  · obtain ⟨a, ha⟩ : ∃ a, ks[k]? = some a := ⟨_, List.getElem?_eq_getElem (by rw [HL.out]; exact hlt)⟩
    obtain ⟨ad, rfl, hat⟩ := (HR.out.below HBEL.out).at_ ha
    obtain ⟨c0, c1, c2, c3, c4, c5, c6, c7, c8, c9⟩ := kn_cells hat
    have HA := Lib.hid ha
    clear ha hat
    obtain ⟨⟨key', op, ra, rb, amt, legs, til⟩, er, id, told⟩ := a
    dsimp only at c0 c1 c2 c3 c4 c5 c6 c7 c8 c9
    by_cases h0 : key' = key
    · obtain rfl : res = (k : Int) := by rw [← HRES.out, find_some.2 ⟨⟨_, HA.out, h0⟩, HREST.out⟩]; rfl
      have b0 := eqT h0
      clear h0
      go_wp2
      go_ret
      exact ⟨rfl, HBEL.out.alloc hsz _⟩
    · have b0 := eqF h0
      have HN := Lib.hid (show ∀ (j : Nat) a, j < k + 1 → ks[j]? = some a → a.rq.key ≠ key from fun j a hj ha => by
        by_cases hjk : j < k
        · exact HREST.out j a hjk ha
        · obtain rfl : j = k := by omega
          rw [HA.out] at ha
          injection ha with ha
          subst ha
          exact h0)
      clear h0
      go_wp2
      go_roundw
      case rel => exact ⟨k + 1, by omega, by go_num, HN.out, HBEL.out.alloc hsz _⟩
      case measure => simp [intOf]; omega
  · obtain rfl : k = n := by omega
    obtain rfl : res = -1 := by
     rw [← HRES.out, find_none.2 fun j a ha => HREST.out j a (by have := (List.getElem?_eq_some_iff.1 ha).1; rw [HL.out] at this; exact this) ha]; rfl
    go_wp2
    go_ret
    exact ⟨rfl, HBEL.out⟩
set_option maxRecDepth 100000 in
set_option maxHeartbeats 1000000 in
theorem kclone_any (A : Option Addr) (n cap m : Nat) (ks : List Kn) (w : World) (hl : ks.length = n) (hr : RdS known w A ks) (hnm : n ≤ m) (hm : m ≤ 1000000000000) (hnil : A = none → n = 0 ∧ cap = 0) :
  Calls Tryz.prog 72 #[.slice A n cap, .int .i64 (m : Int)] w fun e w' => ∃ g, e = .returned (.slice (some ⟨g, 0, none⟩) n m) ∧ w.heap.size ≤ g ∧ OwnS known w' w.heap.size (.slice (some ⟨g, 0, none⟩) n m) ks ∧ Below w.heap.size w w' := by
 obtain ⟨i0, hi, hz0, hz1, hz2⟩ := info_parts info_known
 have hmk := run_make (P := Tryz.prog) w 33 124 i0 _ Tryz.underlying33 hi hz0 .i64 .i64 (n : Int) (m : Int) (by omega) (by omega) (by rw [hz2]; omega) (by omega)
 rw [hz1] at hmk
 rw [Int.toNat_natCast, Int.toNat_natCast] at hmk
 obtain ⟨cur, hcur⟩ : ∃ cur, madeCells (Value.agg #[.int .i64 0, .int .i64 0, .int .i64 0, .int .i64 0, .int .i64 0, .int .i64 0, .int .i64 0, .int .i64 0, .int .i64 0, .bool false]).cells (m * 10) = cur := ⟨_, rfl⟩
 have hsz : cur.size = m * 10 := by rw [← hcur]; exact size_madeCells _ _
 rw [hcur] at hmk
 have HR := Lib.hid hr
 have HL := Lib.hid hl
 have HN := Lib.hid hnil
 have hcp := run_copy_rec known (P := Tryz.prog) 33 Tryz.underlying33 size_known (w.alloc (.cells cur 124)) 3 w.heap.size n m A cap cur _ ks (heap_alloc_new w _) hl (hr.alloc _) (show n * 10 ≤ cur.size by rw [hsz]; omega) hnil
 have HOWN := Lib.hid (OwnS.copied known (w := w.alloc (.cells cur 124)) (base := w.heap.size) (heap_alloc_new w _) hl hnm (show m ≤ maxLen by simp only [maxLen]; omega) hsz (Nat.le_refl _))
 have HB := Lib.hid (show Below w.heap.size w ((w.alloc (.cells cur 124)).setRow w.heap.size (known.flat ks ++ cur.toList.drop (n * known.size)).toArray) from
   ((Below.refl w.heap.size w).alloc (Nat.le_refl _) _).trans ⟨rfl, rfl, rfl, by simp [World.setRow], fun k hk => setRow_other _ _ _ _ (by omega)⟩)
 obtain ⟨cs, hcs⟩ : ∃ cs, (known.flat ks ++ cur.toList.drop (n * known.size)).toArray = cs := ⟨_, rfl⟩
 rw [hcs] at hcp HOWN HB
 clear hr hl hnil hcs hcur hi hz0 hz1 hz2 hsz
 go_enter Tryz.func72, Tryz.ntmps72
 go_wp2
 go_ret
 exact ⟨_, rfl, Nat.le_refl _, HOWN.out, HB.out⟩
/-- What a change hands back: elements, and an error by its number. -/
def KeyRes (E : Int) (L : List Kn) (w : World) (e : Ending) (w' : World) : Prop :=
 ∃ v, e = .returned (.tuple #[v, errV E]) ∧ OwnS known w' w.heap.size v L ∧ Below w.heap.size w w'
theorem keyRes_no {E F : Int} {L : List Kn} {w w' : World} (hE : E = F) (h0 : F ≠ 0) (hL : L = []) (hb : Below w.heap.size w w') : KeyRes E L w (.returned (.tuple #[.slice none 0 0, eno F])) w' := by
 subst hL hE
 refine ⟨.slice none 0 0, ?_, OwnS.nil, hb⟩
 rw [errV, if_neg h0]
theorem keyRes_ok {E : Int} {L : List Kn} {w w' : World} {v : Value} (hE : E = 0) (ho : OwnS known w' w.heap.size v L) (hb : Below w.heap.size w w') : KeyRes E L w (.returned (.tuple #[v, .nilIface])) w' := by
 subst hE
 exact ⟨v, rfl, ho, hb⟩
/-- A request's cells in a block. -/
def Rq7 (w : World) (g : Nat) (t : TypeId) (x0 x1 x2 x3 x4 x5 x6 : Int) : Prop := w.heap[g]? = some (.cells #[.int .i64 x0, .int .i64 x1, .int .i64 x2, .int .i64 x3, .int .i64 x4, .int .i64 x5, .int .i64 x6] t (0, 0))
theorem Rq7.new (w : World) (t : TypeId) (x0 x1 x2 x3 x4 x5 x6 : Int) : Rq7 (w.alloc (.cells #[.int .i64 x0, .int .i64 x1, .int .i64 x2, .int .i64 x3, .int .i64 x4, .int .i64 x5, .int .i64 x6] t)) w.heap.size t x0 x1 x2 x3 x4 x5 x6 := heap_alloc_new w _
theorem Rq7.below {w w' : World} {B g : Nat} {t : TypeId} {x0 x1 x2 x3 x4 x5 x6 : Int} (h : Rq7 w g t x0 x1 x2 x3 x4 x5 x6) (hb : Below B w w') (hg : g < B) : Rq7 w' g t x0 x1 x2 x3 x4 x5 x6 := (hb.block g hg).trans h
theorem Rq7.alloc {w : World} {g : Nat} {t : TypeId} {x0 x1 x2 x3 x4 x5 x6 : Int} (h : Rq7 w g t x0 x1 x2 x3 x4 x5 x6) (o : Obj) (hg : g < w.heap.size) : Rq7 (w.alloc o) g t x0 x1 x2 x3 x4 x5 x6 := (Below.heap_alloc w o g hg).trans h
theorem Rq7.cells {w : World} {g : Nat} {t : TypeId} {x0 x1 x2 x3 x4 x5 x6 : Int} (h : Rq7 w g t x0 x1 x2 x3 x4 x5 x6) : w.cell? ⟨g, 0, none⟩ = some (.int .i64 x0) ∧ w.cell? ⟨g, 1, none⟩ = some (.int .i64 x1) ∧ w.cell? ⟨g, 2, none⟩ = some (.int .i64 x2) ∧ w.cell? ⟨g, 3, none⟩ = some (.int .i64 x3) ∧ w.cell? ⟨g, 4, none⟩ = some (.int .i64 x4) ∧ w.cell? ⟨g, 5, none⟩ = some (.int .i64 x5) ∧ w.cell? ⟨g, 6, none⟩ = some (.int .i64 x6) :=
 ⟨cell_of_row w g 0 _ _ _ h, cell_of_row w g 1 _ _ _ h, cell_of_row w g 2 _ _ _ h, cell_of_row w g 3 _ _ _ h, cell_of_row w g 4 _ _ _ h, cell_of_row w g 5 _ _ _ h, cell_of_row w g 6 _ _ _ h⟩
theorem Rq7.loose {w : World} {g : Nat} {t : TypeId} {x0 x1 x2 x3 x4 x5 x6 : Int} (h : Rq7 w g t x0 x1 x2 x3 x4 x5 x6) : w.frozen? ⟨g, 0, none⟩ = false ∧ w.frozen? ⟨g, 1, none⟩ = false ∧ w.frozen? ⟨g, 2, none⟩ = false ∧ w.frozen? ⟨g, 3, none⟩ = false ∧ w.frozen? ⟨g, 4, none⟩ = false ∧ w.frozen? ⟨g, 5, none⟩ = false ∧ w.frozen? ⟨g, 6, none⟩ = false :=
 ⟨frozen_of_row w g 0 _ _ h, frozen_of_row w g 1 _ _ h, frozen_of_row w g 2 _ _ h, frozen_of_row w g 3 _ _ h, frozen_of_row w g 4 _ _ h, frozen_of_row w g 5 _ _ h, frozen_of_row w g 6 _ _ h⟩
theorem Rq7.drew {w : World} {g : Nat} {t : TypeId} {x0 x1 x2 x3 x4 x5 x6 : Int} (h : Rq7 w g t x0 x1 x2 x3 x4 x5 x6) : Rq7 w.drew g t x0 x1 x2 x3 x4 x5 x6 := h
/-- All seven laid anew. -/
theorem Rq7.put {w : World} {g : Nat} {t : TypeId} {x0 x1 x2 x3 x4 x5 x6 : Int} (h : Rq7 w g t x0 x1 x2 x3 x4 x5 x6) (y0 y1 y2 y3 y4 y5 y6 : Int) : Rq7 (((((((w.setCell ⟨g, 0, none⟩ (.int .i64 y0)).setCell ⟨g, 1, none⟩ (.int .i64 y1)).setCell ⟨g, 2, none⟩ (.int .i64 y2)).setCell ⟨g, 3, none⟩ (.int .i64 y3)).setCell ⟨g, 4, none⟩ (.int .i64 y4)).setCell ⟨g, 5, none⟩ (.int .i64 y5)).setCell ⟨g, 6, none⟩ (.int .i64 y6)) g t y0 y1 y2 y3 y4 y5 y6 := by
 unfold Rq7 at h ⊢
 simp [World.setCell, Array.getElem?_modify, h]
theorem Rq7.put_below {w w' : World} {B g : Nat} (h : Below B w w') (hg : B ≤ g) (y0 y1 y2 y3 y4 y5 y6 : Int) : Below B w (((((((w'.setCell ⟨g, 0, none⟩ (.int .i64 y0)).setCell ⟨g, 1, none⟩ (.int .i64 y1)).setCell ⟨g, 2, none⟩ (.int .i64 y2)).setCell ⟨g, 3, none⟩ (.int .i64 y3)).setCell ⟨g, 4, none⟩ (.int .i64 y4)).setCell ⟨g, 5, none⟩ (.int .i64 y5)).setCell ⟨g, 6, none⟩ (.int .i64 y6)) :=
 (((((((h.setCell (p := ⟨g, 0, none⟩) hg _).setCell (p := ⟨g, 1, none⟩) hg _).setCell (p := ⟨g, 2, none⟩) hg _).setCell (p := ⟨g, 3, none⟩) hg _).setCell (p := ⟨g, 4, none⟩) hg _).setCell (p := ⟨g, 5, none⟩) hg _).setCell (p := ⟨g, 6, none⟩) hg _)
/-- A reply's cells in a block. -/
def Rq2 (w : World) (g : Nat) (t : TypeId) (x0 x1 : Int) : Prop := w.heap[g]? = some (.cells #[.int .i64 x0, .int .i64 x1] t (0, 0))
theorem Rq2.new (w : World) (t : TypeId) (x0 x1 : Int) : Rq2 (w.alloc (.cells #[.int .i64 x0, .int .i64 x1] t)) w.heap.size t x0 x1 := heap_alloc_new w _
theorem Rq2.below {w w' : World} {B g : Nat} {t : TypeId} {x0 x1 : Int} (h : Rq2 w g t x0 x1) (hb : Below B w w') (hg : g < B) : Rq2 w' g t x0 x1 := (hb.block g hg).trans h
theorem Rq2.cells {w : World} {g : Nat} {t : TypeId} {x0 x1 : Int} (h : Rq2 w g t x0 x1) : w.cell? ⟨g, 0, none⟩ = some (.int .i64 x0) ∧ w.cell? ⟨g, 1, none⟩ = some (.int .i64 x1) :=
 ⟨cell_of_row w g 0 _ _ _ h, cell_of_row w g 1 _ _ _ h⟩
theorem Rq2.loose {w : World} {g : Nat} {t : TypeId} {x0 x1 : Int} (h : Rq2 w g t x0 x1) : w.frozen? ⟨g, 0, none⟩ = false ∧ w.frozen? ⟨g, 1, none⟩ = false :=
 ⟨frozen_of_row w g 0 _ _ h, frozen_of_row w g 1 _ _ h⟩
theorem Rq2.alloc {w : World} {g : Nat} {t : TypeId} {x0 x1 : Int} (h : Rq2 w g t x0 x1) (o : Obj) (hg : g < w.heap.size) : Rq2 (w.alloc o) g t x0 x1 := (Below.heap_alloc w o g hg).trans h
theorem Rq2.drew {w : World} {g : Nat} {t : TypeId} {x0 x1 : Int} (h : Rq2 w g t x0 x1) : Rq2 w.drew g t x0 x1 := h
/-- Both laid anew. -/
theorem Rq2.put {w : World} {g : Nat} {t : TypeId} {x0 x1 : Int} (h : Rq2 w g t x0 x1) (y0 y1 : Int) : Rq2 ((w.setCell ⟨g, 0, none⟩ (.int .i64 y0)).setCell ⟨g, 1, none⟩ (.int .i64 y1)) g t y0 y1 := by
 unfold Rq2 at h ⊢
 simp [World.setCell, Array.getElem?_modify, h]
theorem Rq2.put_below {w w' : World} {B g : Nat} (h : Below B w w') (hg : B ≤ g) (y0 y1 : Int) : Below B w ((w'.setCell ⟨g, 0, none⟩ (.int .i64 y0)).setCell ⟨g, 1, none⟩ (.int .i64 y1)) :=
 (h.setCell (p := ⟨g, 0, none⟩) hg _).setCell (p := ⟨g, 1, none⟩) hg _
theorem results_row2 {P : Program} {fn : Func} {p x : Tmp} {ty : TypeId} (h : fn.results = #[.cell p ty, .tmp x]) (tmps : Array Value) (w : World) (g : Nat) (t : TypeId) (cs : Array Value) (fr : Nat × Nat) (d : TypeDesc)
  (hp : tmps.getD p undef = .pointer (some ⟨g, 0, none⟩)) (hg : w.heap[g]? = some (.cells cs t fr))
  (hu : P.underlying ty = some d) (hd : (match d with | .struct _ | .array _ _ => true | _ => false) = true) (hi : (P.info? ty).map (·.size) = some cs.size) :
  (results fn tmps).run P w = .ok (.tuple #[.agg cs, tmps.getD x undef]) w := by
 have hp' : tmps[p]?.getD undef = .pointer (some ⟨g, 0, none⟩) := by simpa using hp
 simp [results, h, hp', asAddr, run_loadVar_row w g t ty cs fr d hg hu hd hi, Result.andThen]
theorem tell_none {ks : List Kn} {key : Int} (e x : Int) (h : findN ks key = none) : tellE ks key = 2 ∧ tellL ks key e x = [] := by simp [tellE, tellL, h]
theorem tell_told {ks : List Kn} {key : Int} {i : Nat} {a : Kn} (e x : Int) (h : findN ks key = some i) (ha : ks[i]? = some a) (ht : a.told = true) : tellE ks key = 6 ∧ tellL ks key e x = [] := by
 simp [tellE, tellL, h, knAt_of ha, ht]
theorem tell_ok {ks : List Kn} {key : Int} {i : Nat} {a : Kn} (e x : Int) (h : findN ks key = some i) (ha : ks[i]? = some a) (ht : a.told = false) : tellE ks key = 0 ∧ tellL ks key e x = ks.set i ⟨a.rq, e, x, true⟩ := by
 simp [tellE, tellL, h, knAt_of ha, ht]
/-- A reply laid into an element, and that it was told. -/
theorem kn_put {w : World} {base g n cap i : Nat} {ks : List Kn} {a : Kn} (h : OwnS known w base (.slice (some ⟨g, 0, none⟩) n cap) ks) (hn : n = ks.length) (ha : ks[i]? = some a) (e x : Int) :
  OwnS known (((w.setCell ⟨g, i * 10 + 7, none⟩ (.int .i64 e)).setCell ⟨g, i * 10 + 8, none⟩ (.int .i64 x)).setCell ⟨g, i * 10 + 9, none⟩ (.bool true)) base (.slice (some ⟨g, 0, none⟩) n cap) (ks.set i ⟨a.rq, e, x, true⟩) := by
 have hl := (List.getElem?_eq_some_iff.1 ha).1
 obtain ⟨rq, er, id, told⟩ := a
 have h1 := h.set hn ha 7 (.int .i64 e) ⟨rq, e, id, told⟩ (show 7 < 10 by omega) rfl
 have a1 : (ks.set i ⟨rq, e, id, told⟩)[i]? = some ⟨rq, e, id, told⟩ := List.getElem?_set_self hl
 have h2 := h1.set (by rw [List.length_set]; exact hn) a1 8 (.int .i64 x) ⟨rq, e, x, told⟩ (show 8 < 10 by omega) rfl
 rw [List.set_set] at h2
 have a2 : (ks.set i ⟨rq, e, x, told⟩)[i]? = some ⟨rq, e, x, told⟩ := List.getElem?_set_self hl
 have h3 := h2.set (by rw [List.length_set]; exact hn) a2 9 (.bool true) ⟨rq, e, x, true⟩ (show 9 < 10 by omega) rfl
 rw [List.set_set] at h3
 exact h3
set_option maxRecDepth 100000 in
set_option maxHeartbeats 1000000 in
theorem ktell_any (A : Option Addr) (n cap : Nat) (ks : List Kn) (key e x : Int) (w : World) (hl : ks.length = n) (hr : RdS known w A ks) (hn : n ≤ 1000000000000) (hnil : A = none → n = 0 ∧ cap = 0) :
  Calls Tryz.prog 41 #[.slice A n cap, .int .i64 key, .agg #[.int .i64 e, .int .i64 x]] w (KeyRes (tellE ks key) (tellL ks key e x) w) := by
 obtain ⟨E, hE⟩ : ∃ E, tellE ks key = E := ⟨_, rfl⟩
 obtain ⟨L, hL⟩ : ∃ L, tellL ks key e x = L := ⟨_, rfl⟩
 rw [hE, hL]
 have HF := Lib.hid (fun W (h : RdS known W A ks) => find_any A n cap ks key W hl h (by omega))
 have HC := Lib.hid (fun W (h : RdS known W A ks) => kclone_any A n cap n ks W hl h (Nat.le_refl _) hn hnil)
 have HR := Lib.hid hr
 have HZ := Lib.hid (Rq2.new w 46 e x)
 have HB0 := Lib.hid ((Below.refl w.heap.size w).alloc (Nat.le_refl _) (.cells #[.int .i64 e, .int .i64 x] 46))
 have HL := Lib.hid hl
 obtain ⟨q, hq⟩ : ∃ q, findN ks key = q := ⟨_, rfl⟩
 rw [hq] at HF
 cases q with
 | none =>
   obtain ⟨h1, h2⟩ := tell_none e x hq
   obtain rfl : E = 2 := hE.symm.trans h1
   obtain rfl : L = [] := hL.symm.trans h2
   clear hl hr hnil hE hL hq h1 h2 HC
   rw [show fi none = -1 from rfl] at HF
   go_enter Tryz.func41, Tryz.ntmps41
   go_wp2_with fail
   refine (HF.out _ (HR.out.alloc _)).mono ?_
   rintro _ w2 ⟨rfl, hb2⟩
   have HB2 := Lib.hid (HB0.out.trans (hb2.mono (by simp)))
   clear hb2
   go_wp2
   go_ret2
   exact keyRes_no rfl (by omega) rfl HB2.out
 | some i =>
   rw [show fi (some i) = (i : Int) from rfl] at HF
   obtain ⟨a, ha, _⟩ := find_get hq
   have hi : i < n := by rw [← hl]; exact find_lt hq
   obtain ⟨told, htold⟩ : ∃ t, a.told = t := ⟨_, rfl⟩
   have HA := Lib.hid ha
   have HT := Lib.hid htold
   cases told with
   | true =>
     obtain ⟨h1, h2⟩ := tell_told e x hq ha htold
     obtain rfl : E = 6 := hE.symm.trans h1
     obtain rfl : L = [] := hL.symm.trans h2
     clear hl hr hnil hE hL hq h1 h2 HC ha htold
     go_enter Tryz.func41, Tryz.ntmps41
     go_wp2_with fail
     refine (HF.out _ (HR.out.alloc _)).mono ?_
     rintro _ w2 ⟨rfl, hb2⟩
     have HB2 := Lib.hid (HB0.out.trans (hb2.mono (by simp)))
     obtain ⟨ad, rfl, hat⟩ := ((HR.out.alloc _).below hb2).at_ HA.out
     obtain ⟨_, _, _, _, _, _, _, _, _, c9⟩ := kn_cells hat
     rw [HT.out] at c9
     clear hb2 hat
     go_wp2
     go_ret2
     exact keyRes_no rfl (by omega) rfl HB2.out
   | false =>
     obtain ⟨h1, h2⟩ := tell_ok e x hq ha htold
     obtain rfl : E = 0 := hE.symm.trans h1
     obtain rfl : L = _ := hL.symm.trans h2
     clear hl hr hnil hE hL hq h1 h2 ha htold
     go_enter Tryz.func41, Tryz.ntmps41
     go_wp2_with fail
     refine (HF.out _ (HR.out.alloc _)).mono ?_
     rintro _ w2 ⟨rfl, hb2⟩
     have hz2 : w.heap.size < w2.heap.size := by have := hb2.size; simp at this; omega
     have HB2 := Lib.hid (HB0.out.trans (hb2.mono (by simp)))
     have HZ2 := Lib.hid (HZ.out.below hb2 (by simp))
     have HR2 := Lib.hid ((HR.out.alloc _).below hb2)
     obtain ⟨ad, had, hat⟩ := HR2.out.at_ HA.out
     obtain ⟨_, _, _, _, _, _, _, _, _, c9⟩ := kn_cells hat
     rw [HT.out] at c9
     have hc9 : w2.cell? ⟨(ad.add (i * 10)).block, (ad.add (i * 10)).off + 9, none⟩ = some (.bool false) := c9
     clear hb2 hat c9
     subst had
     go_wp2_with fail
     refine (HC.out _ HR2.out).mono ?_
     rintro _ w3 ⟨g, rfl, hg, ho3, hb3⟩
     have HB3 := Lib.hid (HB2.out.trans (hb3.mono HB2.out.size))
     have HZ3 := Lib.hid (HZ2.out.below hb3 hz2)
     have HO3 : Hid (OwnS known w3 w.heap.size (.slice (some ⟨g, 0, none⟩) n n) ks) := Lib.hid (ho3.less (Nat.le_of_lt hz2))
     have hzg : w.heap.size < g := Nat.lt_of_lt_of_le hz2 hg
     obtain ⟨z0, z1⟩ := HZ3.out.cells
     have d7 := HO3.out.at_ HA.out 7 _ rfl
     have d8 := HO3.out.at_ HA.out 8 _ rfl
     have d9 := HO3.out.at_ HA.out 9 _ rfl
     rw [show known.size = 10 from rfl] at d7 d8 d9
     have f7 := HO3.out.unfrozen HL.out.symm (i * 10 + 7)
     have f8 := HO3.out.unfrozen HL.out.symm (i * 10 + 8)
     have f9 := HO3.out.unfrozen HL.out.symm (i * 10 + 9)
     have HP := Lib.hid (kn_put HO3.out HL.out.symm HA.out e x)
     clear ho3 hb3 hc9
     go_wp2
     go_ret2
     exact keyRes_ok rfl HP.out (((HB3.out.setCell (p := ⟨g, i * 10 + 7, none⟩) (Nat.le_of_lt hzg) _).setCell (p := ⟨g, i * 10 + 8, none⟩) (Nat.le_of_lt hzg) _).setCell (p := ⟨g, i * 10 + 9, none⟩) (Nat.le_of_lt hzg) _)
def Sg11 (w : World) (g : Nat) (t : TypeId) (x0 x1 x2 x3 x4 x5 x6 x7 x8 x9 x10 : Int) : Prop := w.heap[g]? = some (.cells #[.int .i64 x0, .int .i64 x1, .int .i64 x2, .int .i64 x3, .int .i64 x4, .int .i64 x5, .int .i64 x6, .int .i64 x7, .int .i64 x8, .int .i64 x9, .int .i64 x10] t (0, 0))
theorem Sg11.new (w : World) (t : TypeId) (x0 x1 x2 x3 x4 x5 x6 x7 x8 x9 x10 : Int) : Sg11 (w.alloc (.cells #[.int .i64 x0, .int .i64 x1, .int .i64 x2, .int .i64 x3, .int .i64 x4, .int .i64 x5, .int .i64 x6, .int .i64 x7, .int .i64 x8, .int .i64 x9, .int .i64 x10] t)) w.heap.size t x0 x1 x2 x3 x4 x5 x6 x7 x8 x9 x10 := heap_alloc_new w _
theorem Sg11.below {w w' : World} {B g : Nat} {t : TypeId} {x0 x1 x2 x3 x4 x5 x6 x7 x8 x9 x10 : Int} (h : Sg11 w g t x0 x1 x2 x3 x4 x5 x6 x7 x8 x9 x10) (hb : Below B w w') (hg : g < B) : Sg11 w' g t x0 x1 x2 x3 x4 x5 x6 x7 x8 x9 x10 := (hb.block g hg).trans h
theorem Sg11.alloc {w : World} {g : Nat} {t : TypeId} {x0 x1 x2 x3 x4 x5 x6 x7 x8 x9 x10 : Int} (h : Sg11 w g t x0 x1 x2 x3 x4 x5 x6 x7 x8 x9 x10) (o : Obj) (hg : g < w.heap.size) : Sg11 (w.alloc o) g t x0 x1 x2 x3 x4 x5 x6 x7 x8 x9 x10 := (Below.heap_alloc w o g hg).trans h
theorem Sg11.lt {w : World} {g : Nat} {t : TypeId} {x0 x1 x2 x3 x4 x5 x6 x7 x8 x9 x10 : Int} (h : Sg11 w g t x0 x1 x2 x3 x4 x5 x6 x7 x8 x9 x10) : g < w.heap.size := (Array.getElem?_eq_some_iff.1 h).1
theorem Sg11.cells {w : World} {g : Nat} {t : TypeId} {x0 x1 x2 x3 x4 x5 x6 x7 x8 x9 x10 : Int} (h : Sg11 w g t x0 x1 x2 x3 x4 x5 x6 x7 x8 x9 x10) : w.cell? ⟨g, 0, none⟩ = some (.int .i64 x0) ∧ w.cell? ⟨g, 1, none⟩ = some (.int .i64 x1) ∧ w.cell? ⟨g, 2, none⟩ = some (.int .i64 x2) ∧ w.cell? ⟨g, 3, none⟩ = some (.int .i64 x3) ∧ w.cell? ⟨g, 4, none⟩ = some (.int .i64 x4) ∧ w.cell? ⟨g, 5, none⟩ = some (.int .i64 x5) ∧ w.cell? ⟨g, 6, none⟩ = some (.int .i64 x6) ∧ w.cell? ⟨g, 7, none⟩ = some (.int .i64 x7) ∧ w.cell? ⟨g, 8, none⟩ = some (.int .i64 x8) ∧ w.cell? ⟨g, 9, none⟩ = some (.int .i64 x9) ∧ w.cell? ⟨g, 10, none⟩ = some (.int .i64 x10) :=
 ⟨cell_of_row w g 0 _ _ _ h, cell_of_row w g 1 _ _ _ h, cell_of_row w g 2 _ _ _ h, cell_of_row w g 3 _ _ _ h, cell_of_row w g 4 _ _ _ h, cell_of_row w g 5 _ _ _ h, cell_of_row w g 6 _ _ _ h, cell_of_row w g 7 _ _ _ h, cell_of_row w g 8 _ _ _ h, cell_of_row w g 9 _ _ _ h, cell_of_row w g 10 _ _ _ h⟩
theorem Sg11.loose {w : World} {g : Nat} {t : TypeId} {x0 x1 x2 x3 x4 x5 x6 x7 x8 x9 x10 : Int} (h : Sg11 w g t x0 x1 x2 x3 x4 x5 x6 x7 x8 x9 x10) : w.frozen? ⟨g, 0, none⟩ = false ∧ w.frozen? ⟨g, 1, none⟩ = false ∧ w.frozen? ⟨g, 2, none⟩ = false ∧ w.frozen? ⟨g, 3, none⟩ = false ∧ w.frozen? ⟨g, 4, none⟩ = false ∧ w.frozen? ⟨g, 5, none⟩ = false ∧ w.frozen? ⟨g, 6, none⟩ = false ∧ w.frozen? ⟨g, 7, none⟩ = false ∧ w.frozen? ⟨g, 8, none⟩ = false ∧ w.frozen? ⟨g, 9, none⟩ = false ∧ w.frozen? ⟨g, 10, none⟩ = false :=
 ⟨frozen_of_row w g 0 _ _ h, frozen_of_row w g 1 _ _ h, frozen_of_row w g 2 _ _ h, frozen_of_row w g 3 _ _ h, frozen_of_row w g 4 _ _ h, frozen_of_row w g 5 _ _ h, frozen_of_row w g 6 _ _ h, frozen_of_row w g 7 _ _ h, frozen_of_row w g 8 _ _ h, frozen_of_row w g 9 _ _ h, frozen_of_row w g 10 _ _ h⟩
theorem Sg11.drew {w : World} {g : Nat} {t : TypeId} {x0 x1 x2 x3 x4 x5 x6 x7 x8 x9 x10 : Int} (h : Sg11 w g t x0 x1 x2 x3 x4 x5 x6 x7 x8 x9 x10) : Sg11 w.drew g t x0 x1 x2 x3 x4 x5 x6 x7 x8 x9 x10 := h
theorem Sg11.setOther {w : World} {g : Nat} {t : TypeId} {x0 x1 x2 x3 x4 x5 x6 x7 x8 x9 x10 : Int} (h : Sg11 w g t x0 x1 x2 x3 x4 x5 x6 x7 x8 x9 x10) {b : Nat} (hb : b ≠ g) (i : Nat) (y : Int) : Sg11 (w.setCell ⟨b, i, none⟩ (.int .i64 y)) g t x0 x1 x2 x3 x4 x5 x6 x7 x8 x9 x10 := by
 unfold Sg11 at h ⊢
 simp [World.setCell, Array.getElem?_modify, h, hb]
theorem Sg11.put {w : World} {g : Nat} {t : TypeId} {x0 x1 x2 x3 x4 x5 x6 x7 x8 x9 x10 : Int} (h : Sg11 w g t x0 x1 x2 x3 x4 x5 x6 x7 x8 x9 x10) (y0 y1 y2 y3 y4 y5 y6 y7 y8 y9 y10 : Int) : Sg11 (((((((((((w.setCell ⟨g, 0, none⟩ (.int .i64 y0)).setCell ⟨g, 1, none⟩ (.int .i64 y1)).setCell ⟨g, 2, none⟩ (.int .i64 y2)).setCell ⟨g, 3, none⟩ (.int .i64 y3)).setCell ⟨g, 4, none⟩ (.int .i64 y4)).setCell ⟨g, 5, none⟩ (.int .i64 y5)).setCell ⟨g, 6, none⟩ (.int .i64 y6)).setCell ⟨g, 7, none⟩ (.int .i64 y7)).setCell ⟨g, 8, none⟩ (.int .i64 y8)).setCell ⟨g, 9, none⟩ (.int .i64 y9)).setCell ⟨g, 10, none⟩ (.int .i64 y10)) g t y0 y1 y2 y3 y4 y5 y6 y7 y8 y9 y10 := by
 unfold Sg11 at h ⊢
 simp [World.setCell, Array.getElem?_modify, h]
theorem Sg11.put_below {w w' : World} {B g : Nat} (h : Below B w w') (hg : B ≤ g) (y0 y1 y2 y3 y4 y5 y6 y7 y8 y9 y10 : Int) : Below B w (((((((((((w'.setCell ⟨g, 0, none⟩ (.int .i64 y0)).setCell ⟨g, 1, none⟩ (.int .i64 y1)).setCell ⟨g, 2, none⟩ (.int .i64 y2)).setCell ⟨g, 3, none⟩ (.int .i64 y3)).setCell ⟨g, 4, none⟩ (.int .i64 y4)).setCell ⟨g, 5, none⟩ (.int .i64 y5)).setCell ⟨g, 6, none⟩ (.int .i64 y6)).setCell ⟨g, 7, none⟩ (.int .i64 y7)).setCell ⟨g, 8, none⟩ (.int .i64 y8)).setCell ⟨g, 9, none⟩ (.int .i64 y9)).setCell ⟨g, 10, none⟩ (.int .i64 y10)) :=
 (((((((((((h.setCell (p := ⟨g, 0, none⟩) hg _).setCell (p := ⟨g, 1, none⟩) hg _).setCell (p := ⟨g, 2, none⟩) hg _).setCell (p := ⟨g, 3, none⟩) hg _).setCell (p := ⟨g, 4, none⟩) hg _).setCell (p := ⟨g, 5, none⟩) hg _).setCell (p := ⟨g, 6, none⟩) hg _).setCell (p := ⟨g, 7, none⟩) hg _).setCell (p := ⟨g, 8, none⟩) hg _).setCell (p := ⟨g, 9, none⟩) hg _).setCell (p := ⟨g, 10, none⟩) hg _)
theorem Sg11.put_other {w : World} {g b : Nat} (hb : g ≠ b) (y0 y1 y2 y3 y4 y5 y6 y7 y8 y9 y10 : Int) : (((((((((((w.setCell ⟨g, 0, none⟩ (.int .i64 y0)).setCell ⟨g, 1, none⟩ (.int .i64 y1)).setCell ⟨g, 2, none⟩ (.int .i64 y2)).setCell ⟨g, 3, none⟩ (.int .i64 y3)).setCell ⟨g, 4, none⟩ (.int .i64 y4)).setCell ⟨g, 5, none⟩ (.int .i64 y5)).setCell ⟨g, 6, none⟩ (.int .i64 y6)).setCell ⟨g, 7, none⟩ (.int .i64 y7)).setCell ⟨g, 8, none⟩ (.int .i64 y8)).setCell ⟨g, 9, none⟩ (.int .i64 y9)).setCell ⟨g, 10, none⟩ (.int .i64 y10)).heap[b]? = w.heap[b]? := by
 simp [World.setCell, Array.getElem?_modify, hb]
theorem Sg11.put_size {w : World} {g : Nat} (y0 y1 y2 y3 y4 y5 y6 y7 y8 y9 y10 : Int) : (((((((((((w.setCell ⟨g, 0, none⟩ (.int .i64 y0)).setCell ⟨g, 1, none⟩ (.int .i64 y1)).setCell ⟨g, 2, none⟩ (.int .i64 y2)).setCell ⟨g, 3, none⟩ (.int .i64 y3)).setCell ⟨g, 4, none⟩ (.int .i64 y4)).setCell ⟨g, 5, none⟩ (.int .i64 y5)).setCell ⟨g, 6, none⟩ (.int .i64 y6)).setCell ⟨g, 7, none⟩ (.int .i64 y7)).setCell ⟨g, 8, none⟩ (.int .i64 y8)).setCell ⟨g, 9, none⟩ (.int .i64 y9)).setCell ⟨g, 10, none⟩ (.int .i64 y10)).heap.size = w.heap.size := by simp
/-- A saga, and nothing below is turned. -/
def SgRes (w : World) (s : Sg) (e : Ending) (w' : World) : Prop := e = .returned s.val ∧ Below w.heap.size w w'
set_option maxRecDepth 100000 in
theorem sbegin_any (r : Rq) (w : World) : Calls Tryz.prog 104 #[r.val] w (SgRes w (beginS r)) := by
 obtain ⟨k, o, a, b, m, l, u⟩ := r
 unfold SgRes beginS Sg.val Rq.val
 dsimp only
 go_enter Tryz.func104, Tryz.ntmps104
 go_wp2
 refine bodyPost_ret (results_cell_row (p := 2) (ty := 68) rfl _ _ (w.heap.size + 1) _ _ (0, 0) _ rfl (heap_alloc2_new w _ _) Tryz.underlying68 rfl (by kernel_rfl)) rfl ?_
 exact ⟨rfl, ((Below.refl _ _).alloc (Nat.le_refl _) _).alloc (by simp) _⟩
set_option maxRecDepth 100000 in
theorem sready_any (s : Sg) (w : World) : Calls Tryz.prog 114 #[s.val] w (BoolRes w (decide (readyS s))) := by
 obtain ⟨⟨k, o, a, b, m, l, u⟩, p, e, t, y⟩ := s
 unfold BoolRes readyS Sg.val
 dsimp only
 by_cases hp : p = 0
 · have q1 := eqT hp
   by_cases hl : l ≤ e
   · rw [decide_eq_true (show p = 0 ∧ l ≤ e from ⟨hp, hl⟩)]
     have q2 := decide_eq_true hl
     clear hp hl
     go_enter Tryz.func114, Tryz.ntmps114
     go_wp2
     go_ret
     exact ⟨rfl, (Below.refl _ _).alloc (Nat.le_refl _) _⟩
   · rw [decide_eq_false (show ¬ (p = 0 ∧ l ≤ e) from fun h => hl h.2)]
     have q2 := decide_eq_false hl
     clear hp hl
     go_enter Tryz.func114, Tryz.ntmps114
     go_wp2
     go_ret
     exact ⟨rfl, (Below.refl _ _).alloc (Nat.le_refl _) _⟩
 · rw [decide_eq_false (show ¬ (p = 0 ∧ l ≤ e) from fun h => hp h.1)]
   have q1 := eqF hp
   clear hp
   go_enter Tryz.func114, Tryz.ntmps114
   go_wp2
   go_ret
   exact ⟨rfl, (Below.refl _ _).alloc (Nat.le_refl _) _⟩
set_option maxRecDepth 100000 in
theorem sturn_any (s : Sg) (why : Int) (w : World) : Calls Tryz.prog 148 #[s.val, .int .i64 why] w (SgRes w (turnS s why)) := by
 obtain ⟨⟨k, o, a, b, m, l, u⟩, p, e, t, y⟩ := s
 unfold SgRes turnS
 by_cases hp : p = 0
 · have q1 := eqT hp
   rw [if_pos (show p = 0 from hp)]
   unfold Sg.val
   dsimp only
   clear hp
   go_enter Tryz.func148, Tryz.ntmps148
   go_wp2
   refine bodyPost_ret (results_cell_row (p := 4) (ty := 68) rfl _ _ (w.heap.size + 1) _ _ (0, 0) _ rfl (heap_alloc2_new w _ _) Tryz.underlying68 rfl (by kernel_rfl)) rfl ?_
   exact ⟨rfl, ((Below.refl _ _).alloc (Nat.le_refl _) _).alloc (by simp) _⟩
 · have q1 := eqF hp
   rw [if_neg (show ¬ p = 0 from hp)]
   unfold Sg.val
   dsimp only
   clear hp
   go_enter Tryz.func148, Tryz.ntmps148
   go_wp2
   refine bodyPost_ret (results_cell_row (p := 4) (ty := 68) rfl _ _ (w.heap.size + 1) _ _ (0, 0) _ rfl (heap_alloc2_new w _ _) Tryz.underlying68 rfl (by kernel_rfl)) rfl ?_
   exact ⟨rfl, ((Below.refl _ _).alloc (Nat.le_refl _) _).alloc (by simp) _⟩
theorem turn_fwd (s : Sg) (why : Int) (h : s.ph = 0) (w : World) : Calls Tryz.prog 148 #[s.val, .int .i64 why] w (SgRes w ⟨s.rq, 1, s.leg, s.tries, why⟩) := by
 have := sturn_any s why w
 unfold turnS at this
 rwa [if_pos h] at this
set_option maxRecDepth 100000 in
set_option maxHeartbeats 1000000 in
theorem sleg_any (s : Sg) (ok : Bool) (w : World) : Calls Tryz.prog 117 #[s.val, .bool ok] w (SgRes w (legS s ok)) := by
 have HRD := Lib.hid (sready_any s)
 obtain ⟨⟨k, o, a, b, m, l, u⟩, p, e, t, y⟩ := s
 unfold BoolRes readyS Sg.val at HRD
 unfold SgRes
 dsimp only at HRD
 by_cases hp : p = 0
 · have q1 := neF hp
   by_cases hl : l ≤ e
   · have hE := legS_stay (s := ⟨⟨k, o, a, b, m, l, u⟩, p, e, t, y⟩) ok (by unfold waitS; dsimp only; omega)
     rw [decide_eq_true (show p = 0 ∧ l ≤ e from ⟨hp, hl⟩)] at HRD
     rw [hE]
     unfold Sg.val
     dsimp only
     clear hE hp hl
     go_enter Tryz.func117, Tryz.ntmps117
     go_wp2_with fail
     refine (HRD.out _).mono ?_
     rintro _ w1 ⟨rfl, hb1⟩
     have HM := Lib.hid (((Sg11.new w 68 k o a b m l u p e t y).alloc (.cells #[.int .i64 0, .int .i64 0, .int .i64 0, .int .i64 0, .int .i64 0, .int .i64 0, .int .i64 0, .int .i64 0, .int .i64 0, .int .i64 0, .int .i64 0] 68) (by simp)).below hb1 (by simp; omega))
     have hr := (Sg11.new (w.alloc (.cells #[.int .i64 k, .int .i64 o, .int .i64 a, .int .i64 b, .int .i64 m, .int .i64 l, .int .i64 u, .int .i64 p, .int .i64 e, .int .i64 t, .int .i64 y] 68)) 68 0 0 0 0 0 0 0 0 0 0 0).below hb1 (by simp)
     rw [alloc_size] at hr
     have HR := Lib.hid hr
     have HB := Lib.hid ((((Below.refl w.heap.size w).alloc (Nat.le_refl _) (.cells #[.int .i64 k, .int .i64 o, .int .i64 a, .int .i64 b, .int .i64 m, .int .i64 l, .int .i64 u, .int .i64 p, .int .i64 e, .int .i64 t, .int .i64 y] 68)).alloc (by simp) (.cells #[.int .i64 0, .int .i64 0, .int .i64 0, .int .i64 0, .int .i64 0, .int .i64 0, .int .i64 0, .int .i64 0, .int .i64 0, .int .i64 0, .int .i64 0] 68)).trans (hb1.mono (by simp; omega)))
     obtain ⟨x0, x1, x2, x3, x4, x5, x6, x7, x8, x9, x10⟩ := HM.out.cells
     obtain ⟨f0, f1, f2, f3, f4, f5, f6, f7, f8, f9, f10⟩ := HR.out.loose
     obtain ⟨z0, z1, z2, z3, z4, z5, z6, z7, z8, z9, z10⟩ := HR.out.cells
     clear hb1 hr HRD
     go_wp2
     refine bodyPost_ret (results_cell_row (p := 4) (ty := 68) rfl _ _ (w.heap.size + 1) _ _ (0, 0) _ rfl (HR.out.put k o a b m l u p e t y) Tryz.underlying68 rfl (by kernel_rfl)) rfl ?_
     exact ⟨rfl, Sg11.put_below HB.out (Nat.le_succ _) k o a b m l u p e t y⟩
   · have hw : waitS ⟨⟨k, o, a, b, m, l, u⟩, p, e, t, y⟩ := ⟨hp, by dsimp only; omega⟩
     rw [decide_eq_false (show ¬ (p = 0 ∧ l ≤ e) from fun h => hl h.2)] at HRD
     cases ok
     · obtain ⟨x, hx⟩ : ∃ x, wrap64 (t + 1) = x := ⟨_, rfl⟩
       by_cases ht : 3 < x
       · have hE := legS_back hw (by dsimp only; rw [hx]; exact ht)
         (try dsimp only at hE)
         rw [hE]
         unfold Sg.val
         dsimp only
         rw [hx]
         have q3 := decide_eq_true ht
         have HTN := Lib.hid (turn_fwd ⟨⟨k, o, a, b, m, l, u⟩, p, e, x, y⟩ 9 hp)
         unfold SgRes Sg.val at HTN
         dsimp only at HTN
         clear hE hp hl hw ht
         go_enter Tryz.func117, Tryz.ntmps117
         go_wp2_with fail
         refine (HRD.out _).mono ?_
         rintro _ w1 ⟨rfl, hb1⟩
         have HM := Lib.hid (((Sg11.new w 68 k o a b m l u p e t y).alloc (.cells #[.int .i64 0, .int .i64 0, .int .i64 0, .int .i64 0, .int .i64 0, .int .i64 0, .int .i64 0, .int .i64 0, .int .i64 0, .int .i64 0, .int .i64 0] 68) (by simp)).below hb1 (by simp; omega))
         have hr := (Sg11.new (w.alloc (.cells #[.int .i64 k, .int .i64 o, .int .i64 a, .int .i64 b, .int .i64 m, .int .i64 l, .int .i64 u, .int .i64 p, .int .i64 e, .int .i64 t, .int .i64 y] 68)) 68 0 0 0 0 0 0 0 0 0 0 0).below hb1 (by simp)
         rw [alloc_size] at hr
         have HR := Lib.hid hr
         have HB := Lib.hid ((((Below.refl w.heap.size w).alloc (Nat.le_refl _) (.cells #[.int .i64 k, .int .i64 o, .int .i64 a, .int .i64 b, .int .i64 m, .int .i64 l, .int .i64 u, .int .i64 p, .int .i64 e, .int .i64 t, .int .i64 y] 68)).alloc (by simp) (.cells #[.int .i64 0, .int .i64 0, .int .i64 0, .int .i64 0, .int .i64 0, .int .i64 0, .int .i64 0, .int .i64 0, .int .i64 0, .int .i64 0, .int .i64 0] 68)).trans (hb1.mono (by simp; omega)))
         obtain ⟨x0, x1, x2, x3, x4, x5, x6, x7, x8, x9, x10⟩ := HM.out.cells
         obtain ⟨f0, f1, f2, f3, f4, f5, f6, f7, f8, f9, f10⟩ := HM.out.loose
         obtain ⟨y0, y1, y2, y3, y4, y5, y6, y7, y8, y9, y10⟩ := HR.out.loose
         obtain ⟨z0, z1, z2, z3, z4, z5, z6, z7, z8, z9, z10⟩ := HR.out.cells
         clear hb1 hr HRD
         go_wp2_with fail
         (try rw [hx])
         have hlt : w.heap.size + 1 < w1.heap.size := HR.out.lt
         have HR2 := Lib.hid (HR.out.setOther (b := w.heap.size) (by omega) 9 x)
         have HB2 := Lib.hid (HB.out.setCell (p := ⟨w.heap.size, 9, none⟩) (Nat.le_refl _) (.int .i64 x))
         clear x0 x1 x2 x3 x4 x5 x6 x7 x8 x9 x10 y0 y1 y2 y3 y4 y5 y6 y7 y8 y9 y10 f0 f1 f2 f3 f4 f5 f6 f7 f8 f9 f10 z0 z1 z2 z3 z4 z5 z6 z7 z8 z9 z10 HM HR HB
         generalize w1.setCell ⟨w.heap.size, 9, none⟩ (.int .i64 x) = w2 at HR2 HB2 ⊢
         refine (HTN.out _).mono ?_
         rintro _ w3 ⟨rfl, hb3⟩
         have HR3 := Lib.hid (HR2.out.below hb3 HR2.out.lt)
         have HB3 := Lib.hid (HB2.out.trans (hb3.mono HB2.out.size))
         obtain ⟨z0, z1, z2, z3, z4, z5, z6, z7, z8, z9, z10⟩ := HR3.out.cells
         obtain ⟨f0, f1, f2, f3, f4, f5, f6, f7, f8, f9, f10⟩ := HR3.out.loose
         clear hb3 HTN HR2 HB2
         go_wp2
         refine bodyPost_ret (results_cell_row (p := 4) (ty := 68) rfl _ _ (w.heap.size + 1) _ _ (0, 0) _ rfl (HR3.out.put k o a b m l u 1 e x 9) Tryz.underlying68 rfl (by kernel_rfl)) rfl ?_
         exact ⟨rfl, Sg11.put_below HB3.out (Nat.le_succ _) k o a b m l u 1 e x 9⟩
       · have hE := legS_no hw (by dsimp only; rw [hx]; exact ht)
         (try dsimp only at hE)
         rw [hE]
         unfold Sg.val
         dsimp only
         rw [hx]
         have q3 := decide_eq_false ht
         clear hE hp hl hw ht
         go_enter Tryz.func117, Tryz.ntmps117
         go_wp2_with fail
         refine (HRD.out _).mono ?_
         rintro _ w1 ⟨rfl, hb1⟩
         have HM := Lib.hid (((Sg11.new w 68 k o a b m l u p e t y).alloc (.cells #[.int .i64 0, .int .i64 0, .int .i64 0, .int .i64 0, .int .i64 0, .int .i64 0, .int .i64 0, .int .i64 0, .int .i64 0, .int .i64 0, .int .i64 0] 68) (by simp)).below hb1 (by simp; omega))
         have hr := (Sg11.new (w.alloc (.cells #[.int .i64 k, .int .i64 o, .int .i64 a, .int .i64 b, .int .i64 m, .int .i64 l, .int .i64 u, .int .i64 p, .int .i64 e, .int .i64 t, .int .i64 y] 68)) 68 0 0 0 0 0 0 0 0 0 0 0).below hb1 (by simp)
         rw [alloc_size] at hr
         have HR := Lib.hid hr
         have HB := Lib.hid ((((Below.refl w.heap.size w).alloc (Nat.le_refl _) (.cells #[.int .i64 k, .int .i64 o, .int .i64 a, .int .i64 b, .int .i64 m, .int .i64 l, .int .i64 u, .int .i64 p, .int .i64 e, .int .i64 t, .int .i64 y] 68)).alloc (by simp) (.cells #[.int .i64 0, .int .i64 0, .int .i64 0, .int .i64 0, .int .i64 0, .int .i64 0, .int .i64 0, .int .i64 0, .int .i64 0, .int .i64 0, .int .i64 0] 68)).trans (hb1.mono (by simp; omega)))
         obtain ⟨x0, x1, x2, x3, x4, x5, x6, x7, x8, x9, x10⟩ := HM.out.cells
         obtain ⟨f0, f1, f2, f3, f4, f5, f6, f7, f8, f9, f10⟩ := HM.out.loose
         obtain ⟨y0, y1, y2, y3, y4, y5, y6, y7, y8, y9, y10⟩ := HR.out.loose
         obtain ⟨z0, z1, z2, z3, z4, z5, z6, z7, z8, z9, z10⟩ := HR.out.cells
         clear hb1 hr HRD
         go_wp2
         (try rw [hx])
         have HR2 := Lib.hid (HR.out.setOther (b := w.heap.size) (by omega) 9 x)
         have HB2 := Lib.hid (HB.out.setCell (p := ⟨w.heap.size, 9, none⟩) (Nat.le_refl _) (.int .i64 x))
         refine bodyPost_ret (results_cell_row (p := 4) (ty := 68) rfl _ _ (w.heap.size + 1) _ _ (0, 0) _ rfl (HR2.out.put k o a b m l u p e x y) Tryz.underlying68 rfl (by kernel_rfl)) rfl ?_
         exact ⟨rfl, Sg11.put_below HB2.out (Nat.le_succ _) k o a b m l u p e x y⟩
     · obtain ⟨x, hx⟩ : ∃ x, wrap64 (e + 1) = x := ⟨_, rfl⟩
       have hE := legS_yes hw
       (try dsimp only at hE)
       rw [hE]
       unfold Sg.val
       dsimp only
       rw [hx]
       clear hE hp hl hw
       go_enter Tryz.func117, Tryz.ntmps117
       go_wp2_with fail
       refine (HRD.out _).mono ?_
       rintro _ w1 ⟨rfl, hb1⟩
       have HM := Lib.hid (((Sg11.new w 68 k o a b m l u p e t y).alloc (.cells #[.int .i64 0, .int .i64 0, .int .i64 0, .int .i64 0, .int .i64 0, .int .i64 0, .int .i64 0, .int .i64 0, .int .i64 0, .int .i64 0, .int .i64 0] 68) (by simp)).below hb1 (by simp; omega))
       have hr := (Sg11.new (w.alloc (.cells #[.int .i64 k, .int .i64 o, .int .i64 a, .int .i64 b, .int .i64 m, .int .i64 l, .int .i64 u, .int .i64 p, .int .i64 e, .int .i64 t, .int .i64 y] 68)) 68 0 0 0 0 0 0 0 0 0 0 0).below hb1 (by simp)
       rw [alloc_size] at hr
       have HR := Lib.hid hr
       have HB := Lib.hid ((((Below.refl w.heap.size w).alloc (Nat.le_refl _) (.cells #[.int .i64 k, .int .i64 o, .int .i64 a, .int .i64 b, .int .i64 m, .int .i64 l, .int .i64 u, .int .i64 p, .int .i64 e, .int .i64 t, .int .i64 y] 68)).alloc (by simp) (.cells #[.int .i64 0, .int .i64 0, .int .i64 0, .int .i64 0, .int .i64 0, .int .i64 0, .int .i64 0, .int .i64 0, .int .i64 0, .int .i64 0, .int .i64 0] 68)).trans (hb1.mono (by simp; omega)))
       obtain ⟨x0, x1, x2, x3, x4, x5, x6, x7, x8, x9, x10⟩ := HM.out.cells
       obtain ⟨f0, f1, f2, f3, f4, f5, f6, f7, f8, f9, f10⟩ := HM.out.loose
       obtain ⟨y0, y1, y2, y3, y4, y5, y6, y7, y8, y9, y10⟩ := HR.out.loose
       obtain ⟨z0, z1, z2, z3, z4, z5, z6, z7, z8, z9, z10⟩ := HR.out.cells
       clear hb1 hr HRD
       go_wp2
       (try rw [hx])
       have HR2 := Lib.hid ((HR.out.setOther (b := w.heap.size) (by omega) 8 x).setOther (b := w.heap.size) (by omega) 9 0)
       have HB2 := Lib.hid ((HB.out.setCell (p := ⟨w.heap.size, 8, none⟩) (Nat.le_refl _) (.int .i64 x)).setCell (p := ⟨w.heap.size, 9, none⟩) (Nat.le_refl _) (.int .i64 0))
       refine bodyPost_ret (results_cell_row (p := 4) (ty := 68) rfl _ _ (w.heap.size + 1) _ _ (0, 0) _ rfl (HR2.out.put k o a b m l u p x 0 y) Tryz.underlying68 rfl (by kernel_rfl)) rfl ?_
       exact ⟨rfl, Sg11.put_below HB2.out (Nat.le_succ _) k o a b m l u p x 0 y⟩
 · have q1 := neT hp
   have hE := legS_stay (s := ⟨⟨k, o, a, b, m, l, u⟩, p, e, t, y⟩) ok (fun h => hp h.1)
   rw [hE]
   unfold Sg.val
   dsimp only
   clear hE hp HRD
   go_enter Tryz.func117, Tryz.ntmps117
   go_wp2
   refine bodyPost_ret (results_cell_row (p := 4) (ty := 68) rfl _ _ (w.heap.size + 1) _ _ (0, 0) _ rfl (heap_alloc2_new w _ _) Tryz.underlying68 rfl (by kernel_rfl)) rfl ?_
   exact ⟨rfl, ((Below.refl _ _).alloc (Nat.le_refl _) _).alloc (by simp) _⟩
/-- A reply, and a bool. -/
def AskTold (w : World) (R : Int × Int × Bool) (e : Ending) (w' : World) : Prop := e = .returned (.tuple #[.agg #[.int .i64 R.1, .int .i64 R.2.1], .bool R.2.2]) ∧ Below w.heap.size w w'
theorem askR_none {ks : List Kn} {r : Rq} (h : findN ks r.key = none) : askR ks r = (0, 0, false) := by unfold askR; rw [h]
theorem askR_some {ks : List Kn} {r : Rq} {i : Nat} {a : Kn} (h : findN ks r.key = some i) (ha : ks[i]? = some a) : askR ks r = if a.rq = r then (if a.told = true then (a.err, a.id, true) else (10, 0, true)) else (5, 0, true) := by
 unfold askR; rw [h]; dsimp only; rw [knAt_of ha]
set_option maxRecDepth 100000 in
set_option maxHeartbeats 4000000 in
theorem kask_any (A : Option Addr) (n cap : Nat) (ks : List Kn) (r : Rq) (w : World) (hl : ks.length = n) (hr : RdS known w A ks) (hn : n ≤ 9223372036854775807) :
  Calls Tryz.prog 20 #[.slice A n cap, r.val] w (AskTold w (askR ks r)) := by
 obtain ⟨R, hR⟩ : ∃ R, askR ks r = R := ⟨_, rfl⟩
 rw [hR]
 have HF := Lib.hid (fun W (h : RdS known W A ks) => find_any A n cap ks r.key W hl h hn)
 have HR := Lib.hid hr
 have HZ := Lib.hid (((Rq7.new w 42 r.key r.op r.a r.b r.amt r.legs r.til).alloc (.cells #[.int .i64 0, .int .i64 0] 46) (by simp)))
 have HY := Lib.hid (Rq2.new (w.alloc (.cells #[.int .i64 r.key, .int .i64 r.op, .int .i64 r.a, .int .i64 r.b, .int .i64 r.amt, .int .i64 r.legs, .int .i64 r.til] 42)) 46 0 0)
 have hz1 : (w.alloc (.cells #[.int .i64 r.key, .int .i64 r.op, .int .i64 r.a, .int .i64 r.b, .int .i64 r.amt, .int .i64 r.legs, .int .i64 r.til] 42)).heap.size = w.heap.size + 1 := by simp
 rw [hz1] at HY
 have HB0 := Lib.hid (((Below.refl w.heap.size w).alloc (Nat.le_refl _) (.cells #[.int .i64 r.key, .int .i64 r.op, .int .i64 r.a, .int .i64 r.b, .int .i64 r.amt, .int .i64 r.legs, .int .i64 r.til] 42)).alloc (by simp) (.cells #[.int .i64 0, .int .i64 0] 46))
 have HL := Lib.hid hl
 have HRR := Lib.hid hR
 obtain ⟨q, hq⟩ : ∃ q, findN ks r.key = q := ⟨_, rfl⟩
 rw [hq] at HF
 have HQ := Lib.hid hq
 clear hz1 hr hl hR hq
 obtain ⟨key, op, ra, rb, amt, legs, til⟩ := r
 unfold Rq.val
 dsimp only at HF HZ HY HB0 HRR HQ ⊢
 go_enter Tryz.func20, Tryz.ntmps20
 go_wp2_with fail
 refine (HF.out _ ((HR.out.alloc _).alloc _)).mono ?_
 rintro _ w2 ⟨rfl, hb2⟩
 have hz2 : w.heap.size + 2 ≤ w2.heap.size := by have := hb2.size; simp at this; omega
 have HZ2 := Lib.hid (HZ.out.below hb2 (by simp; omega))
 have HY2 := Lib.hid (HY.out.below hb2 (by simp))
 have HB2 := Lib.hid (HB0.out.trans (hb2.mono (by simp; omega)))
 have HR2 := Lib.hid (((HR.out.alloc _).alloc _).below hb2)
 clear hb2 HF HZ HY HB0 HR
 cases q with
 | none =>
   obtain rfl : R = (0, 0, false) := by rw [← HRR.out, askR_none HQ.out]
   rw [show fi none = -1 from rfl]
   obtain ⟨y0, y1⟩ := HY2.out.cells
   obtain ⟨f0, f1⟩ := HY2.out.loose
   go_wp2
   refine bodyPost_ret (results_row2 (p := 4) (x := 5) (ty := 46) rfl _ _ (w.heap.size + 1) _ _ (0, 0) _ rfl (HY2.out.put 0 0) Tryz.underlying46 rfl (by kernel_rfl)) rfl ?_
   exact ⟨rfl, Rq2.put_below HB2.out (by omega) 0 0⟩
 | some i =>
   obtain ⟨a, ha, hak⟩ := find_get HQ.out
   have HRS := Lib.hid (HRR.out.symm.trans (askR_some HQ.out ha))
   have hi : i < n := by rw [← HL.out]; exact find_lt HQ.out
   obtain ⟨ad, rfl, hat⟩ := HR2.out.at_ ha
   obtain ⟨c0, c1, c2, c3, c4, c5, c6, c7, c8, c9⟩ := kn_cells hat
   have hne := World.new_ne w2 _ c0
   clear hat ha HR2 HQ HRR
   rw [show fi (some i) = (i : Int) from rfl]
   obtain ⟨⟨key', op', ra', rb', amt', legs', til'⟩, er, id, told⟩ := a
   dsimp only at c0 c1 c2 c3 c4 c5 c6 c7 c8 c9 hak HRS
   subst hak
   have hgs : w.heap.size < w2.heap.size := by omega
   have hgs1 : w.heap.size + 1 < w2.heap.size := by omega
   obtain ⟨z0, z1, z2, z3, z4, z5, z6⟩ := HZ2.out.cells
   obtain ⟨y0, y1⟩ := HY2.out.cells
   obtain ⟨f0, f1⟩ := HY2.out.loose
   have g0 := eqT (rfl : key' = key')
   rcases rq_parts key' op' ra' rb' amt' legs' til' key' op ra rb amt legs til with ⟨h0, h1, h2, h3, h4, h5, h6⟩ | h0 | ⟨h0, h1⟩ | ⟨h0, h1, h2⟩ | ⟨h0, h1, h2, h3⟩ | ⟨h0, h1, h2, h3, h4⟩ | ⟨h0, h1, h2, h3, h4, h5⟩ | ⟨h0, h1, h2, h3, h4, h5, h6⟩
   case inl =>
    subst h1 h2 h3 h4 h5 h6
    rw [if_pos rfl] at HRS
    have b1 := eqT (rfl : op' = op')
    have b2 := eqT (rfl : ra' = ra')
    have b3 := eqT (rfl : rb' = rb')
    have b4 := eqT (rfl : amt' = amt')
    have b5 := eqT (rfl : legs' = legs')
    have b6 := eqT (rfl : til' = til')
    clear h0
    cases told with
    | false =>
      obtain rfl : R = (10, 0, true) := HRS.out.trans (if_neg (by simp))
      go_wp2
      refine bodyPost_ret (results_row2 (p := 4) (x := 5) (ty := 46) rfl _ _ (w.heap.size + 1) _ _ (0, 0) _ rfl ((HY2.out.put 10 0).alloc _ (by simp; omega)) Tryz.underlying46 rfl (by kernel_rfl)) rfl ?_
      exact ⟨rfl, (Rq2.put_below HB2.out (by omega) 10 0).alloc (by simp; omega) _⟩
    | true =>
      obtain rfl : R = (er, id, true) := HRS.out.trans (if_pos rfl)
      go_wp2
      refine bodyPost_ret (results_row2 (p := 4) (x := 5) (ty := 46) rfl _ _ (w.heap.size + 1) _ _ (0, 0) _ rfl ((HY2.out.put er id).alloc _ (by simp; omega)) Tryz.underlying46 rfl (by kernel_rfl)) rfl ?_
      exact ⟨rfl, (Rq2.put_below HB2.out (by omega) er id).alloc (by simp; omega) _⟩
   case inr.inl => exact absurd rfl h0
   case' inr.inr.inl =>
    have b1 := eqF h1
    obtain rfl : R = (5, 0, true) := HRS.out.trans (if_neg fun h => h1 (congrArg Rq.op h))
   case' inr.inr.inr.inl =>
    have b1 := eqT h1
    have b2 := eqF h2
    obtain rfl : R = (5, 0, true) := HRS.out.trans (if_neg fun h => h2 (congrArg Rq.a h))
    clear h1
   case' inr.inr.inr.inr.inl =>
    have b1 := eqT h1
    have b2 := eqT h2
    have b3 := eqF h3
    obtain rfl : R = (5, 0, true) := HRS.out.trans (if_neg fun h => h3 (congrArg Rq.b h))
    clear h1 h2
   case' inr.inr.inr.inr.inr.inl =>
    have b1 := eqT h1
    have b2 := eqT h2
    have b3 := eqT h3
    have b4 := eqF h4
    obtain rfl : R = (5, 0, true) := HRS.out.trans (if_neg fun h => h4 (congrArg Rq.amt h))
    clear h1 h2 h3
   case' inr.inr.inr.inr.inr.inr.inl =>
    have b1 := eqT h1
    have b2 := eqT h2
    have b3 := eqT h3
    have b4 := eqT h4
    have b5 := eqF h5
    obtain rfl : R = (5, 0, true) := HRS.out.trans (if_neg fun h => h5 (congrArg Rq.legs h))
    clear h1 h2 h3 h4
   case' inr.inr.inr.inr.inr.inr.inr =>
    have b1 := eqT h1
    have b2 := eqT h2
    have b3 := eqT h3
    have b4 := eqT h4
    have b5 := eqT h5
    have b6 := eqF h6
    obtain rfl : R = (5, 0, true) := HRS.out.trans (if_neg fun h => h6 (congrArg Rq.til h))
    clear h1 h2 h3 h4 h5
   all_goals
    clear h0 HRS
    go_wp2
    refine bodyPost_ret (results_row2 (p := 4) (x := 5) (ty := 46) rfl _ _ (w.heap.size + 1) _ _ (0, 0) _ rfl ((HY2.out.put 5 0).alloc _ (by simp; omega)) Tryz.underlying46 rfl (by kernel_rfl)) rfl ?_
    exact ⟨rfl, (Rq2.put_below HB2.out (by omega) 5 0).alloc (by simp; omega) _⟩
theorem putE_key {ks : List Kn} {r : Rq} {i : Nat} (h : findN ks r.key = some i) : kputE ks r = 5 ∧ putL ks r = [] := by simp [kputE, putL, h]
theorem putE_full {ks : List Kn} {r : Rq} (h : findN ks r.key = none) (hn : 256 ≤ ks.length) : kputE ks r = 7 ∧ putL ks r = [] := by simp [kputE, putL, h, hn]
theorem kputE_ok {ks : List Kn} {r : Rq} (h : findN ks r.key = none) (hn : ks.length < 256) : kputE ks r = 0 ∧ putL ks r = ks ++ [⟨r, 0, 0, false⟩] := by
 have : ¬ 256 ≤ ks.length := by omega
 simp [kputE, putL, h, this]
set_option maxRecDepth 100000 in
set_option maxHeartbeats 4000000 in
theorem kput_any (A : Option Addr) (n cap : Nat) (ks : List Kn) (r : Rq) (w : World) (hl : ks.length = n) (hr : RdS known w A ks) (hn : n ≤ 9223372036854775807) (hnil : A = none → n = 0 ∧ cap = 0) :
  Calls Tryz.prog 36 #[.slice A n cap, r.val] w (KeyRes (kputE ks r) (putL ks r) w) := by
 obtain ⟨E, hE⟩ : ∃ E, kputE ks r = E := ⟨_, rfl⟩
 obtain ⟨L, hL⟩ : ∃ L, putL ks r = L := ⟨_, rfl⟩
 rw [hE, hL]
 have HF := Lib.hid (fun W (h : RdS known W A ks) => find_any A n cap ks r.key W hl h hn)
 have HC : Hid (∀ W, RdS known W A ks → n < 256 → Calls Tryz.prog 72 #[.slice A n cap, .int .i64 (IntKind.i64.wrap ((n : Int) + 1))] W fun e w' => ∃ g, e = .returned (.slice (some ⟨g, 0, none⟩) n (n + 1)) ∧ W.heap.size ≤ g ∧ OwnS known w' W.heap.size (.slice (some ⟨g, 0, none⟩) n (n + 1)) ks ∧ Below W.heap.size W w') := Lib.hid (fun W h h1 => by
   have e : IntKind.i64.wrap ((n : Int) + 1) = ((n + 1 : Nat) : Int) := by rw [IntKind.wrap_i64]; omega
   rw [e]
   exact kclone_any A n cap (n + 1) ks W hl h (by omega) (by omega) hnil)
 have HR := Lib.hid hr
 have HZ := Lib.hid (Rq7.new w 42 r.key r.op r.a r.b r.amt r.legs r.til)
 have HB0 := Lib.hid ((Below.refl w.heap.size w).alloc (Nat.le_refl _) (.cells #[.int .i64 r.key, .int .i64 r.op, .int .i64 r.a, .int .i64 r.b, .int .i64 r.amt, .int .i64 r.legs, .int .i64 r.til] 42))
 have HL := Lib.hid hl
 obtain ⟨q, hq⟩ : ∃ q, findN ks r.key = q := ⟨_, rfl⟩
 rw [hq] at HF
 cases q with
 | some i =>
   obtain ⟨h1, h2⟩ := putE_key hq
   obtain rfl : E = 5 := hE.symm.trans h1
   obtain rfl : L = [] := hL.symm.trans h2
   clear hl hr hnil hE hL hq h1 h2 HC
   rw [show fi (some i) = (i : Int) from rfl] at HF
   obtain ⟨key, op, ra, rb, amt, legs, til⟩ := r
   unfold Rq.val
   dsimp only at HF HZ HB0 ⊢
   go_enter Tryz.func36, Tryz.ntmps36
   go_wp2_with fail
   refine (HF.out _ (HR.out.alloc _)).mono ?_
   rintro _ w2 ⟨rfl, hb2⟩
   have HB2 := Lib.hid (HB0.out.trans (hb2.mono (by simp)))
   clear hb2
   go_wp2
   go_ret2
   exact keyRes_no rfl (by omega) rfl HB2.out
 | none =>
   rw [show fi none = -1 from rfl] at HF
   by_cases h256 : 256 ≤ n
   · obtain ⟨h1, h2⟩ := putE_full hq (by rw [hl]; exact h256)
     obtain rfl : E = 7 := hE.symm.trans h1
     obtain rfl : L = [] := hL.symm.trans h2
     clear hl hr hnil hE hL hq h1 h2 HC
     obtain ⟨key, op, ra, rb, amt, legs, til⟩ := r
     unfold Rq.val
     dsimp only at HF HZ HB0 ⊢
     go_enter Tryz.func36, Tryz.ntmps36
     go_wp2_with fail
     refine (HF.out _ (HR.out.alloc _)).mono ?_
     rintro _ w2 ⟨rfl, hb2⟩
     have HB2 := Lib.hid (HB0.out.trans (hb2.mono (by simp)))
     clear hb2
     go_wp2
     go_ret2
     exact keyRes_no rfl (by omega) rfl HB2.out
   · have hlt : n < 256 := by omega
     obtain ⟨h1, h2⟩ := kputE_ok hq (by rw [hl]; exact hlt)
     obtain rfl : E = 0 := hE.symm.trans h1
     obtain rfl : L = _ := hL.symm.trans h2
     clear hl hr hnil hE hL hq h1 h2 h256
     obtain ⟨key, op, ra, rb, amt, legs, til⟩ := r
     unfold Rq.val
     dsimp only at HF HZ HB0 ⊢
     go_enter Tryz.func36, Tryz.ntmps36
     go_wp2_with fail
     refine (HF.out _ (HR.out.alloc _)).mono ?_
     rintro _ w2 ⟨rfl, hb2⟩
     have hz2 : w.heap.size < w2.heap.size := by have := hb2.size; simp at this; omega
     have HZ2 := Lib.hid (HZ.out.below hb2 (by simp))
     have HB2 := Lib.hid (HB0.out.trans (hb2.mono (by simp)))
     have HR2 := Lib.hid ((HR.out.alloc _).below hb2)
     clear hb2 HF HZ HB0 HR
     go_wp2
     refine wp_region_held_drew (S := fun w' => Rq7 w' w.heap.size 42 key op ra rb amt legs til) (by kernel_rfl) HZ2.out.drew (fun hHeld => ?_)
     refine tk 0 16 (v := ?_) ?_ ?_
     rotate_left
     · intro w' hSw
       go_simp
       (try with_reducible rfl)
     (try simp only [Act.put, sA, sB, sC])
     refine tk 1 17 (v := ?_) ?_ ?_
     rotate_left
     · intro w' hSw
       go_simp
       (try with_reducible rfl)
     (try simp only [Act.put, sA, sB, sC])
     refine tk 2 18 (v := ?_) ?_ ?_
     rotate_left
     · intro w' hSw
       go_simp
       (try with_reducible rfl)
     (try simp only [Act.put, sA, sB, sC])
     refine tk 3 19 (v := ?_) ?_ ?_
     rotate_left
     · intro w' hSw
       go_simp
       (try with_reducible rfl)
     (try simp only [Act.put, sA, sB, sC])
     refine tk 5 21 (v := ?_) ?_ ?_
     rotate_left
     · intro w' hSw
       have hSw' := hSw
       (try dsimp only at hSw')
       obtain ⟨z0, z1, z2, z3, z4, z5, z6⟩ := Rq7.cells hSw'
       go_simp
       (try with_reducible rfl)
     (try simp only [Act.put, sA, sB, sC])
     refine tk 6 22 (v := ?_) ?_ ?_
     rotate_left
     · intro w' hSw
       go_simp
       (try with_reducible rfl)
     (try simp only [Act.put, sA, sB, sC])
     refine wpAnyH_ready (rs := [4, 7]) (by kernel_rfl) (by simp) ?_
     refine AllReadyH.cons (i := 4) rfl (fun K hK => ?_) (AllReadyH.cons (i := 7) rfl (fun K hK => ?_) AllReadyH.nil)
     · go_simp
       go_at_call 72
       refine (HC.out _ HR2.out.drew hlt).mono ?_
       rintro _ w3 ⟨g3, rfl, hg3, ho3, hb3'⟩
       have hs3 : w2.heap.size ≤ w2.drew.heap.size := Nat.le_refl _
       have hb3 : Below w2.heap.size w2 w3 := (Below.refl _ _).drew.trans hb3'
       have hg3' : w.heap.size < g3 := Nat.lt_of_lt_of_le hz2 (Nat.le_trans hs3 hg3)
       have hz3 : w.heap.size ≤ w3.heap.size := Nat.le_trans (Nat.le_of_lt hz2) hb3.size
       have hlt3 : w.heap.size < w3.heap.size := Nat.lt_of_lt_of_le hz2 hb3.size
       have HZ3 := Lib.hid (HZ2.out.below hb3 hz2)
       have HO3 : Hid (OwnS known w3 w.heap.size (.slice (some ⟨g3, 0, none⟩) n (n + 1)) ks) := Lib.hid (ho3.less (Nat.le_trans (Nat.le_of_lt hz2) hs3))
       have HB3 := Lib.hid (HB2.out.trans (hb3.mono HB2.out.size))
       clear ho3
       refine hK.out _ _ HZ3.out (fun hHeld => ?_)
       clear hK K
       (try simp only [Act.put, sA, sB, sC])
       refine wpAnyH_ready (rs := [7]) (by kernel_rfl) (by simp) ?_
       refine AllReadyH.cons (i := 7) rfl (fun K hK => ?_) AllReadyH.nil
       go_simp
       refine hK.out _ _ (Rq7.alloc HZ3.out _ (Nat.lt_of_lt_of_le hz2 hb3.size)) (fun hHeld => ?_)
       clear hK K
       (try simp only [Act.put, sA, sB, sC])
       refine wpAnyH_ready (rs := [8]) (by kernel_rfl) (by simp) ?_
       refine AllReadyH.cons (i := 8) rfl (fun K hK => ?_) AllReadyH.nil
       refine step_append_rec known 33 Tryz.underlying33 info_known rfl rfl 24 rfl (.tmp 20) (.tmp 23) rfl w.heap.size _ ks rfl (HO3.out.alloc _) _ _ ⟨⟨key, op, ra, rb, amt, legs, til⟩, 0, 0, false⟩ rfl (AtS.new rfl) (by rw [HL.out]; omega) (by rw [HL.out]; omega) (by simp; omega) ?_
       intro v4 w4 ho4 hg4
       have HO4 := Lib.hid ho4
       have HB4 : Hid (Below w.heap.size w w4) := Lib.hid (below_grown (HB3.out.alloc hz3 _) hg4 (by simp; omega) (by omega))
       have HZ4 : Hid (Rq7 w4 w.heap.size 42 key op ra rb amt legs til) := Lib.hid ((grown_at hg4 (by simp; omega) (by omega)).trans hHeld)
       clear ho4 hg4
       refine hK.out _ _ HZ4.out (fun hHeld => ?_)
       clear hK K
       (try simp only [Act.put, sA, sB, sC])
       refine tk 9 4 (v := ?_) ?_ ?_
       rotate_left
       · intro w' hSw
         go_simp
         (try with_reducible rfl)
       (try simp only [Act.put, sA, sB, sC])
       refine tk 10 5 (v := ?_) ?_ ?_
       rotate_left
       · intro w' hSw
         go_simp
         (try with_reducible rfl)
       (try simp only [Act.put, sA, sB, sC])
       refine wpAnyH_done (by kernel_rfl) ?_ _
       go_wp2
       go_ret2
       exact keyRes_ok rfl HO4.out HB4.out
     · go_simp
       refine hK.out _ _ (Rq7.alloc HZ2.out _ hz2) (fun hHeld => ?_)
       clear hK K
       (try simp only [Act.put, sA, sB, sC])
       refine wpAnyH_ready (rs := [4]) (by kernel_rfl) (by simp) ?_
       refine AllReadyH.cons (i := 4) rfl (fun K hK => ?_) AllReadyH.nil
       go_simp
       go_at_call 72
       refine (HC.out _ (HR2.out.drew.alloc _) hlt).mono ?_
       rintro _ w3 ⟨g3, rfl, hg3, ho3, hb3'⟩
       have hs3 : w2.heap.size ≤ (w2.drew.alloc (.cells #[.int .i64 key, .int .i64 op, .int .i64 ra, .int .i64 rb, .int .i64 amt, .int .i64 legs, .int .i64 til, .int .i64 0, .int .i64 0, .bool false] 124)).heap.size := (by simp)
       have hb3 : Below w2.heap.size w2 w3 := ((Below.refl _ _).drew.alloc (Nat.le_refl _) _).trans (hb3'.mono (by simp))
       have hg3' : w.heap.size < g3 := Nat.lt_of_lt_of_le hz2 (Nat.le_trans hs3 hg3)
       have hz3 : w.heap.size ≤ w3.heap.size := Nat.le_trans (Nat.le_of_lt hz2) hb3.size
       have hlt3 : w.heap.size < w3.heap.size := Nat.lt_of_lt_of_le hz2 hb3.size
       have HZ3 := Lib.hid (HZ2.out.below hb3 hz2)
       have HO3 : Hid (OwnS known w3 w.heap.size (.slice (some ⟨g3, 0, none⟩) n (n + 1)) ks) := Lib.hid (ho3.less (Nat.le_trans (Nat.le_of_lt hz2) hs3))
       have HB3 := Lib.hid (HB2.out.trans (hb3.mono HB2.out.size))
       clear ho3
       refine hK.out _ _ HZ3.out (fun hHeld => ?_)
       clear hK K
       (try simp only [Act.put, sA, sB, sC])
       have hat : AtS known w3 ⟨w2.heap.size, 0, none⟩ 0 ⟨⟨key, op, ra, rb, amt, legs, til⟩, 0, 0, false⟩ := AtS.below (AtS.new (w := w2.drew) rfl) hb3'
       refine wpAnyH_ready (rs := [8]) (by kernel_rfl) (by simp) ?_
       refine AllReadyH.cons (i := 8) rfl (fun K hK => ?_) AllReadyH.nil
       refine step_append_rec known 33 Tryz.underlying33 info_known rfl rfl 24 rfl (.tmp 20) (.tmp 23) rfl w.heap.size _ ks rfl HO3.out _ _ ⟨⟨key, op, ra, rb, amt, legs, til⟩, 0, 0, false⟩ rfl hat (by rw [HL.out]; omega) (by rw [HL.out]; omega) hz3 ?_
       intro v4 w4 ho4 hg4
       have HO4 := Lib.hid ho4
       have HB4 : Hid (Below w.heap.size w w4) := Lib.hid (below_grown HB3.out hg4 hz3 (by omega))
       have HZ4 : Hid (Rq7 w4 w.heap.size 42 key op ra rb amt legs til) := Lib.hid ((grown_at hg4 (by omega) (by omega)).trans hHeld)
       clear ho4 hg4
       refine hK.out _ _ HZ4.out (fun hHeld => ?_)
       clear hK K
       (try simp only [Act.put, sA, sB, sC])
       refine tk 9 4 (v := ?_) ?_ ?_
       rotate_left
       · intro w' hSw
         go_simp
         (try with_reducible rfl)
       (try simp only [Act.put, sA, sB, sC])
       refine tk 10 5 (v := ?_) ?_ ?_
       rotate_left
       · intro w' hSw
         go_simp
         (try with_reducible rfl)
       (try simp only [Act.put, sA, sB, sC])
       refine wpAnyH_done (by kernel_rfl) ?_ _
       go_wp2
       go_ret2
       exact keyRes_ok rfl HO4.out HB4.out
theorem ramount_any (n : Int) (w : World) : Calls Tryz.prog 98 #[.int .i64 n] w fun e w' => e = .returned (.bool (decide (1 ≤ n ∧ n ≤ 1099511627776))) ∧ w = w' := by
 by_cases h1 : 1 ≤ n
 · by_cases h2 : n ≤ 1099511627776
   · rw [show decide (1 ≤ n ∧ n ≤ 1099511627776) = true from decide_eq_true ⟨h1, h2⟩]
     go_enter Tryz.func98, Tryz.ntmps98
     go_wp2
     go_ret
     exact ⟨rfl, rfl⟩
   · rw [show decide (1 ≤ n ∧ n ≤ 1099511627776) = false from decide_eq_false fun h => h2 h.2]
     go_enter Tryz.func98, Tryz.ntmps98
     go_wp2
     go_ret
     exact ⟨rfl, rfl⟩
 · rw [show decide (1 ≤ n ∧ n ≤ 1099511627776) = false from decide_eq_false fun h => h1 h.1]
   go_enter Tryz.func98, Tryz.ntmps98
   go_wp2
   go_ret
   exact ⟨rfl, rfl⟩
theorem ramount_is (b : Bool) (x : Int) (w : World) (h : b = decide (1 ≤ x ∧ x ≤ 1099511627776)) : Calls Tryz.prog 98 #[.int .i64 x] w fun e w' => e = .returned (.bool b) ∧ w = w' := by
 subst h
 exact ramount_any x w
theorem isFrom_any (l n g : Int) (w : World) : Calls Tryz.prog 69 #[.int .i64 l, .int .i64 n, .int .i64 g] w fun e w' => e = .returned (.bool (decide (l ≤ n ∧ n ≤ g))) ∧ w = w' := by
 by_cases h1 : l ≤ n
 · by_cases h2 : n ≤ g
   · rw [show decide (l ≤ n ∧ n ≤ g) = true from decide_eq_true ⟨h1, h2⟩]
     go_enter Tryz.func69, Tryz.ntmps69
     go_wp2
     go_ret
     exact ⟨rfl, rfl⟩
   · rw [show decide (l ≤ n ∧ n ≤ g) = false from decide_eq_false fun h => h2 h.2]
     go_enter Tryz.func69, Tryz.ntmps69
     go_wp2
     go_ret
     exact ⟨rfl, rfl⟩
 · rw [show decide (l ≤ n ∧ n ≤ g) = false from decide_eq_false fun h => h1 h.1]
   go_enter Tryz.func69, Tryz.ntmps69
   go_wp2
   go_ret
   exact ⟨rfl, rfl⟩
theorem isFrom_is (b : Bool) (l n g : Int) (w : World) (h : b = decide (l ≤ n ∧ n ≤ g)) : Calls Tryz.prog 69 #[.int .i64 l, .int .i64 n, .int .i64 g] w fun e w' => e = .returned (.bool b) ∧ w = w' := by
 subst h
 exact isFrom_any l n g w
set_option maxRecDepth 100000 in
theorem mayLegs_any (r : Rq) (w : World) : Calls Tryz.prog 70 #[r.val] w (BoolRes w (decide (legsOk r))) := by
 obtain ⟨key, op, a, b, amt, legs, til⟩ := r
 unfold Rq.val legsOk
 dsimp only
 by_cases h2 : op = 2
 · have q2 := eqT h2
   rw [show decide (if op = 2 then 0 ≤ legs ∧ legs ≤ 4 else legs = 0) = decide (0 ≤ legs ∧ legs ≤ 4) from by simp [h2]]
   obtain ⟨t, ht⟩ : ∃ t, t = decide (0 ≤ legs ∧ legs ≤ 4) := ⟨_, rfl⟩
   rw [← ht]
   have HF := Lib.hid (fun W => isFrom_is t 0 legs 4 W ht)
   clear ht h2
   go_enter Tryz.func70, Tryz.ntmps70
   go_wp2_with (first | (go_at_call 69; refine (HF.out _).mono ?_; rintro e w1 ⟨rfl, rfl⟩))
   go_ret
   exact ⟨rfl, (Below.refl _ _).alloc (Nat.le_refl _) _⟩
 · have q2 := eqF h2
   rw [show decide (if op = 2 then 0 ≤ legs ∧ legs ≤ 4 else legs = 0) = decide (legs = 0) from by simp [h2]]
   by_cases h0 : legs = 0
   · have q0 := eqT h0
     rw [decide_eq_true h0]
     clear h2 h0
     go_enter Tryz.func70, Tryz.ntmps70
     go_wp2
     go_ret
     exact ⟨rfl, (Below.refl _ _).alloc (Nat.le_refl _) _⟩
   · have q0 := eqF h0
     rw [decide_eq_false h0]
     clear h2 h0
     go_enter Tryz.func70, Tryz.ntmps70
     go_wp2
     go_ret
     exact ⟨rfl, (Below.refl _ _).alloc (Nat.le_refl _) _⟩
set_option maxRecDepth 100000 in
theorem mayOp_any (r : Rq) (w : World) : Calls Tryz.prog 71 #[r.val] w (BoolRes w (decide (opOk r))) := by
 obtain ⟨key, op, a, b, amt, legs, til⟩ := r
 unfold Rq.val opOk
 dsimp only
 by_cases h0 : op = 0
 · rw [show decide (if op = 0 then 0 ≤ a ∧ a ≤ 2 else op = 5 ∨ (0 < op ∧ op < 8 ∧ 1 ≤ amt ∧ amt ≤ 1099511627776)) = decide (0 ≤ a ∧ a ≤ 2) from by simp [h0]]
   obtain ⟨t, ht⟩ : ∃ t, t = decide (0 ≤ a ∧ a ≤ 2) := ⟨_, rfl⟩
   rw [← ht]
   have HF := Lib.hid (fun W => isFrom_is t 0 a 2 W ht)
   have q0 := eqT h0
   clear ht h0
   go_enter Tryz.func71, Tryz.ntmps71
   go_wp2_with (first | (go_at_call 69; refine (HF.out _).mono ?_; rintro e w1 ⟨rfl, rfl⟩))
   go_ret
   exact ⟨rfl, (Below.refl _ _).alloc (Nat.le_refl _) _⟩
 · have q0 := eqF h0
   by_cases h5 : op = 5
   · rw [show decide (if op = 0 then 0 ≤ a ∧ a ≤ 2 else op = 5 ∨ (0 < op ∧ op < 8 ∧ 1 ≤ amt ∧ amt ≤ 1099511627776)) = true from by simp [h5]]
     have q5 := eqT h5
     clear h0 h5
     go_enter Tryz.func71, Tryz.ntmps71
     go_wp2
     go_ret
     exact ⟨rfl, (Below.refl _ _).alloc (Nat.le_refl _) _⟩
   · have q5 := eqF h5
     by_cases hop : 0 < op ∧ op < 8
     · rw [show decide (if op = 0 then 0 ≤ a ∧ a ≤ 2 else op = 5 ∨ (0 < op ∧ op < 8 ∧ 1 ≤ amt ∧ amt ≤ 1099511627776)) = decide (1 ≤ amt ∧ amt ≤ 1099511627776) from by simp [h0, h5, hop.1, hop.2]]
       obtain ⟨t, ht⟩ : ∃ t, t = decide (1 ≤ amt ∧ amt ≤ 1099511627776) := ⟨_, rfl⟩
       rw [← ht]
       have HF := Lib.hid (fun W => ramount_is t amt W ht)
       clear ht q0 q5
       rcases (show op = 1 ∨ op = 2 ∨ op = 3 ∨ op = 4 ∨ op = 6 ∨ op = 7 by omega) with rfl | rfl | rfl | rfl | rfl | rfl
       all_goals
        clear h0 h5 hop
        go_enter Tryz.func71, Tryz.ntmps71
        go_wp2_with (first | (go_at_call 98; refine (HF.out _).mono ?_; rintro e w1 ⟨rfl, rfl⟩))
        go_ret
        exact ⟨rfl, (Below.refl _ _).alloc (Nat.le_refl _) _⟩
     · rw [show decide (if op = 0 then 0 ≤ a ∧ a ≤ 2 else op = 5 ∨ (0 < op ∧ op < 8 ∧ 1 ≤ amt ∧ amt ≤ 1099511627776)) = false from decide_eq_false (by rw [if_neg h0]; omega)]
       have q1 := eqF (show ¬ op = 1 by omega)
       have q2 := eqF (show ¬ op = 2 by omega)
       have q3 := eqF (show ¬ op = 3 by omega)
       have q4 := eqF (show ¬ op = 4 by omega)
       have q6 := eqF (show ¬ op = 6 by omega)
       have q7 := eqF (show ¬ op = 7 by omega)
       clear h0 h5 hop
       go_enter Tryz.func71, Tryz.ntmps71
       go_wp2
       go_ret
       exact ⟨rfl, (Below.refl _ _).alloc (Nat.le_refl _) _⟩
set_option maxRecDepth 100000 in
theorem long_any (r : Rq) (w : World) : Calls Tryz.prog 74 #[r.val] w (BoolRes w (decide (r.op = 2 ∧ 0 < r.legs))) := by
 obtain ⟨key, op, a, b, amt, legs, til⟩ := r
 unfold Rq.val
 dsimp only
 by_cases h2 : op = 2
 · have q2 := eqT h2
   by_cases h0 : 0 < legs
   · rw [decide_eq_true ⟨h2, h0⟩]
     clear h2
     go_enter Tryz.func74, Tryz.ntmps74
     go_wp2
     go_ret
     exact ⟨rfl, (Below.refl _ _).alloc (Nat.le_refl _) _⟩
   · rw [decide_eq_false fun h : op = 2 ∧ 0 < legs => h0 h.2]
     clear h2
     go_enter Tryz.func74, Tryz.ntmps74
     go_wp2
     go_ret
     exact ⟨rfl, (Below.refl _ _).alloc (Nat.le_refl _) _⟩
 · have q2 := eqF h2
   rw [decide_eq_false fun h : op = 2 ∧ 0 < legs => h2 h.1]
   clear h2
   go_enter Tryz.func74, Tryz.ntmps74
   go_wp2
   go_ret
   exact ⟨rfl, (Below.refl _ _).alloc (Nat.le_refl _) _⟩
set_option maxRecDepth 100000 in
set_option maxHeartbeats 4000000 in
theorem rmay_any (r : Rq) (w : World) : Calls Tryz.prog 35 #[r.val] w (BoolRes w (decide r.may)) := by
 have HL := Lib.hid (fun (t : Bool) (W : World) (ht : t = decide (legsOk r)) => show Calls Tryz.prog 70 #[r.val] W (BoolRes W t) from ht ▸ mayLegs_any r W)
 have HO := Lib.hid (fun (t : Bool) (W : World) (ht : t = decide (opOk r)) => show Calls Tryz.prog 71 #[r.val] W (BoolRes W t) from ht ▸ mayOp_any r W)
 have hmay : r.may ↔ (0 ≤ r.key ∧ r.key ≤ 1073741823) ∧ legsOk r ∧ (0 ≤ r.til ∧ r.til ≤ 1073741824) ∧ opOk r := Iff.rfl
 obtain ⟨lg, hlg⟩ : ∃ lg, lg = decide (legsOk r) := ⟨_, rfl⟩
 obtain ⟨ok, hok⟩ : ∃ ok, ok = decide (opOk r) := ⟨_, rfl⟩
 obtain ⟨m, hm⟩ : ∃ m, m = decide r.may := ⟨_, rfl⟩
 have hm' : m = (decide (0 ≤ r.key ∧ r.key ≤ 1073741823) && lg && decide (0 ≤ r.til ∧ r.til ≤ 1073741824) && ok) := by
  rw [hm, hlg, hok, Bool.eq_iff_iff]
  simp only [decide_eq_true_eq, Bool.and_eq_true, hmay, and_assoc]
 rw [← hm]
 have HL := Lib.hid (fun W => HL.out lg W hlg)
 have HO := Lib.hid (fun W => HO.out ok W hok)
 clear hmay hlg hok hm
 obtain ⟨key, op, a, b, amt, legs, til⟩ := r
 unfold Rq.val at HL HO ⊢
 dsimp only at HL HO hm' ⊢
 obtain ⟨kk, hkk⟩ : ∃ t, t = decide (0 ≤ key ∧ key ≤ 1073741823) := ⟨_, rfl⟩
 obtain ⟨tt, htt⟩ : ∃ t, t = decide (0 ≤ til ∧ til ≤ 1073741824) := ⟨_, rfl⟩
 rw [← hkk, ← htt] at hm'
 have HK := Lib.hid (fun W => isFrom_is kk 0 key 1073741823 W hkk)
 have HT := Lib.hid (fun W => isFrom_is tt 0 til 1073741824 W htt)
 clear hkk htt
 have HB0 := Lib.hid ((Below.refl w.heap.size w).alloc (Nat.le_refl _) (.cells #[.int .i64 key, .int .i64 op, .int .i64 a, .int .i64 b, .int .i64 amt, .int .i64 legs, .int .i64 til] 42))
 cases kk
 · obtain rfl : m = false := by rw [hm']; rfl
   clear hm'
   go_enter Tryz.func35, Tryz.ntmps35
   go_wp2_with fail
   refine (HK.out _).mono ?_
   rintro e w1 ⟨rfl, rfl⟩
   go_wp2
   go_ret
   exact ⟨rfl, HB0.out⟩
 · go_enter Tryz.func35, Tryz.ntmps35
   go_wp2_with fail
   refine (HK.out _).mono ?_
   rintro e w1 ⟨rfl, rfl⟩
   go_wp2_with fail
   refine (HL.out _).mono ?_
   rintro e w2 ⟨rfl, hb2⟩
   have k0 : w2.cell? ⟨w.heap.size, 0, none⟩ = some (.int .i64 key) := by rw [hb2.cell (by simp)]; simp
   have k1 : w2.cell? ⟨w.heap.size, 1, none⟩ = some (.int .i64 op) := by rw [hb2.cell (by simp)]; simp
   have k2 : w2.cell? ⟨w.heap.size, 2, none⟩ = some (.int .i64 a) := by rw [hb2.cell (by simp)]; simp
   have k3 : w2.cell? ⟨w.heap.size, 3, none⟩ = some (.int .i64 b) := by rw [hb2.cell (by simp)]; simp
   have k4 : w2.cell? ⟨w.heap.size, 4, none⟩ = some (.int .i64 amt) := by rw [hb2.cell (by simp)]; simp
   have k5 : w2.cell? ⟨w.heap.size, 5, none⟩ = some (.int .i64 legs) := by rw [hb2.cell (by simp)]; simp
   have k6 : w2.cell? ⟨w.heap.size, 6, none⟩ = some (.int .i64 til) := by rw [hb2.cell (by simp)]; simp
   have HB2 := Lib.hid (HB0.out.trans (hb2.mono (by simp)))
   clear hb2
   cases lg
   · obtain rfl : m = false := by rw [hm']; rfl
     clear hm'
     go_wp2
     go_ret
     exact ⟨rfl, HB2.out⟩
   · go_wp2_with fail
     refine (HT.out _).mono ?_
     rintro e w3 ⟨rfl, rfl⟩
     cases tt
     · obtain rfl : m = false := by rw [hm']; rfl
       clear hm'
       go_wp2
       go_ret
       exact ⟨rfl, HB2.out⟩
     · obtain rfl : m = ok := by rw [hm']; cases ok <;> rfl
       clear hm'
       go_wp2_with fail
       refine (HO.out _).mono ?_
       rintro e w4 ⟨rfl, hb4⟩
       have HB4 := Lib.hid (HB2.out.trans (hb4.mono HB2.out.size))
       clear hb4
       go_wp2
       go_ret
       exact ⟨rfl, HB4.out⟩
set_option maxRecDepth 100000 in
set_option maxHeartbeats 4000000 in
theorem ksame_yes (A B : Option Addr) (n cap capb : Nat) (ks : List Kn) (w : World) (hl : ks.length = n) (hrx : RdS known w A ks) (hry : RdS known w B ks) (hn : n ≤ 9223372036854775807) :
  Calls Tryz.prog 24 #[.slice A n cap, .slice B n capb] w (BoolRes w true) := by
 have HX := Lib.hid hrx
 have HY := Lib.hid hry
 have HL := Lib.hid hl
 clear hrx hry hl
 go_enter Tryz.func24, Tryz.ntmps24
 go_wp2
 go_loopw [13] (fun i wr => ∃ k : Nat, k ≤ n ∧ i = .int .i64 (k : Int) ∧ Below w.heap.size w wr) (fun i _ => n - (intOf i).toNat)
 case atStart => exact ⟨0, Nat.zero_le _, rfl, Below.refl _ _⟩
 case round =>
  obtain ⟨k, hk, rfl, hbel⟩ := hrel
  have HBEL := Lib.hid hbel
  clear hbel
  by_cases hlt : k < n
  · obtain ⟨a, ha⟩ : ∃ a, ks[k]? = some a := ⟨_, List.getElem?_eq_getElem (by rw [HL.out]; exact hlt)⟩
    obtain ⟨ax, rfl, hax⟩ := (HX.out.below HBEL.out).at_ ha
    obtain ⟨ay, rfl, hay⟩ := (HY.out.below HBEL.out).at_ ha
    obtain ⟨c0, c1, c2, c3, c4, c5, c6, c7, c8, c9⟩ := kn_cells hax
    obtain ⟨d0, d1, d2, d3, d4, d5, d6, d7, d8, d9⟩ := kn_cells hay
    clear ha hax hay
    obtain ⟨⟨key, op, ra, rb, amt, legs, til⟩, er, id, told⟩ := a
    dsimp only at c0 c1 c2 c3 c4 c5 c6 c7 c8 c9 d0 d1 d2 d3 d4 d5 d6 d7 d8 d9
    go_wp2
    go_quiet (fail)
    go_wp2
    go_roundw
    case rel => exact ⟨k + 1, by omega, by go_num, below_drewN HBEL.out _⟩
    case measure => simp [intOf]; omega
  · obtain rfl : k = n := by omega
    go_wp2
    go_ret
    exact ⟨rfl, HBEL.out⟩
end Go.Proofs.YteifgmdaggiaaaaGreatDoor
