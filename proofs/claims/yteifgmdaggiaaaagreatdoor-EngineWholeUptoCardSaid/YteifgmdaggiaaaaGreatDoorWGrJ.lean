/-
  What an engine does of an event: plain words, no program.
  Sagas in a slice: their cells, one stored over another; engine.Find by its contract.
  A saga is stored over what it was: the engine's goOn by its contract.
  A saga is removed: slices.Delete by its contract.
  A key is told, where it waits for a reply: the engine's told by its contract; failed.
  A saga is at its end: slices.Delete of it, the engine's end, by their contracts.
  A saga that goes back, a saga that is settled: the engine's undo and settle by their contracts.
-/
import Derived.Test.YteifgmdaggiaaaaGreatDoorWBankPlain
import Derived.Test.YteifgmdaggiaaaaGreatDoorWBankTwo
import Derived.LoopTactic
import Derived.IntWalk
import Derived.WalkSpells
import Derived.Maps.AppendAt
import Derived.Deep.RegionHeld3
import Derived.Test.YteifgmdaggiaaaaGreatDoorWGrA
import Derived.Deep.CutRange
import Derived.Test.YteifgmdaggiaaaaGreatDoorWBankSt
import Derived.Test.YteifgmdaggiaaaaGreatDoorWGrN
import Derived.Test.YteifgmdaggiaaaaGreatDoorWGrD
import Derived.Test.YteifgmdaggiaaaaGreatDoorWBankRsv
set_option linter.unusedSimpArgs false
namespace Go.Proofs.YteifgmdaggiaaaaGreatDoor
open Go Go.RowKit
set_option linter.unusedVariables false
/-- Where a key's saga lies. -/
def findS (sl : List Sg) (key : Int) : Option Nat := sl.findIdx? fun g => decide (g.rq.key = key)
theorem findS_none {sl : List Sg} {key : Int} : findS sl key = none ↔ ∀ (j : Nat) g, sl[j]? = some g → g.rq.key ≠ key := by
 unfold findS
 rw [List.findIdx?_eq_none_iff]
 constructor
 · intro h j a ha
   have := h a (List.mem_of_getElem? ha)
   simpa using this
 · intro h a ha
   obtain ⟨j, hj, rfl⟩ := List.getElem_of_mem ha
   have := h j _ (List.getElem?_eq_getElem hj)
   simpa using this
theorem findS_some {sl : List Sg} {key : Int} {i : Nat} : findS sl key = some i ↔ (∃ g, sl[i]? = some g ∧ g.rq.key = key) ∧ ∀ (j : Nat) g, j < i → sl[j]? = some g → g.rq.key ≠ key := by
 unfold findS
 rw [List.findIdx?_eq_some_iff_getElem]
 constructor
 · rintro ⟨h, h1, h2⟩
   refine ⟨⟨_, List.getElem?_eq_getElem h, by simpa using h1⟩, fun j a hj ha => ?_⟩
   obtain ⟨hl, rfl⟩ := List.getElem?_eq_some_iff.1 ha
   simpa using h2 j hj
 · rintro ⟨⟨a, ha, hk⟩, h2⟩
   obtain ⟨hl, rfl⟩ := List.getElem?_eq_some_iff.1 ha
   exact ⟨hl, by simpa using hk, fun j hj => by simpa using h2 j _ hj (List.getElem?_eq_getElem (by omega))⟩
/-- A state with its sagas and what is known. -/
structure Eg where
 T : St
 sl : List Sg
 kl : List Kn
/-- An event. -/
structure Ev where
 what : Int
 rq : Rq
 key : Int
 ok : Bool
/-- The state behind an event, and what is told. -/
structure Eo where
 X : Eg
 E : Int
 I : Int
/-- Keys of which one has its reply, where it waits for one. -/
def toldL (kl : List Kn) (key e i : Int) : List Kn := if tellE kl key = 0 then tellL kl key e i else kl
/-- What goes on in steps begins. -/
def begO (X : Eg) (r : Rq) : Eo :=
 if rsvE X.T r = 0 then ⟨⟨rsvS X.T r, X.sl ++ [beginS r], X.kl⟩, 10, 0⟩ else ⟨⟨X.T, X.sl, toldL X.kl r.key (rsvE X.T r) 0⟩, rsvE X.T r, 0⟩
def subO (X : Eg) (r : Rq) : Eo :=
 if r.may then
  (if (askR X.kl r).2.2 = true then ⟨X, (askR X.kl r).1, (askR X.kl r).2.1⟩
   else if isLong r ∧ 16 ≤ X.sl.length then ⟨X, 7, 0⟩
   else if kputE X.kl r = 0 then
     (if isLong r then begO ⟨X.T, X.sl, putL X.kl r⟩ r
      else ⟨⟨opS X.T r, X.sl, toldL (putL X.kl r) r.key (opE X.T r) (opI X.T r)⟩, opE X.T r, opI X.T r⟩)
   else ⟨X, kputE X.kl r, 0⟩)
 else ⟨X, 1, 0⟩
/-- A saga is at its end. -/
def endO (X : Eg) (i : Nat) (g : Sg) (why : Int) : Eo := ⟨⟨X.T, X.sl.eraseIdx i, toldL X.kl g.rq.key why 0⟩, why, 0⟩
def goO (X : Eg) (i : Nat) (g : Sg) : Eo := ⟨⟨X.T, X.sl.set i g, X.kl⟩, 10, 0⟩
/-- The saga g, at i, has its next step. -/
def stepAt (X : Eg) (i : Nat) (g : Sg) (ok : Bool) : Eo :=
 if g.ph = 1 then endO ⟨undS X.T g.rq, X.sl, X.kl⟩ i g g.why
 else if readyS g then (if setE X.T g.rq = 0 then endO ⟨setS X.T g.rq, X.sl, X.kl⟩ i g 0 else goO X i (turnS g (setE X.T g.rq)))
 else goO X i (legS g ok)
def stpO (X : Eg) (key : Int) (ok : Bool) : Eo :=
 match findS X.sl key with
 | none => ⟨X, 2, 0⟩
 | some i => stepAt X i (X.sl.getD i (beginS Rq.zero)) ok
/-- The cells of the saga at j. -/
theorem sg_cells {w : World} {ad : Addr} {j : Nat} {k : Sg} (h : AtS sagas w ad j k) :
  w.cell? (ad.add (j * 11)) = some (.int .i64 k.rq.key) ∧
  w.cell? ⟨(ad.add (j * 11)).block, (ad.add (j * 11)).off + 1, none⟩ = some (.int .i64 k.rq.op) ∧
  w.cell? ⟨(ad.add (j * 11)).block, (ad.add (j * 11)).off + 2, none⟩ = some (.int .i64 k.rq.a) ∧
  w.cell? ⟨(ad.add (j * 11)).block, (ad.add (j * 11)).off + 3, none⟩ = some (.int .i64 k.rq.b) ∧
  w.cell? ⟨(ad.add (j * 11)).block, (ad.add (j * 11)).off + 4, none⟩ = some (.int .i64 k.rq.amt) ∧
  w.cell? ⟨(ad.add (j * 11)).block, (ad.add (j * 11)).off + 5, none⟩ = some (.int .i64 k.rq.legs) ∧
  w.cell? ⟨(ad.add (j * 11)).block, (ad.add (j * 11)).off + 6, none⟩ = some (.int .i64 k.rq.til) ∧
  w.cell? ⟨(ad.add (j * 11)).block, (ad.add (j * 11)).off + 7, none⟩ = some (.int .i64 k.ph) ∧
  w.cell? ⟨(ad.add (j * 11)).block, (ad.add (j * 11)).off + 8, none⟩ = some (.int .i64 k.leg) ∧
  w.cell? ⟨(ad.add (j * 11)).block, (ad.add (j * 11)).off + 9, none⟩ = some (.int .i64 k.tries) ∧
  w.cell? ⟨(ad.add (j * 11)).block, (ad.add (j * 11)).off + 10, none⟩ = some (.int .i64 k.why) := by
 refine ⟨h 0 _ rfl, ?_, ?_, ?_, ?_, ?_, ?_, ?_, ?_, ?_, ?_⟩ <;> rw [← add_next _ _ _ (by omega)]
 · exact h 1 _ rfl
 · exact h 2 _ rfl
 · exact h 3 _ rfl
 · exact h 4 _ rfl
 · exact h 5 _ rfl
 · exact h 6 _ rfl
 · exact h 7 _ rfl
 · exact h 8 _ rfl
 · exact h 9 _ rfl
 · exact h 10 _ rfl
/-- One saga of a slice of the call's own is another one. -/
theorem sagas_put {w : World} {base g n cap j : Nat} {ps : List Sg} {p y : Sg} (h : OwnS sagas w base (.slice (some ⟨g, 0, none⟩) n cap) ps) (hn : n = ps.length) (hj : ps[j]? = some p) :
  OwnS sagas (((((((((((w.setCell ⟨g, j * 11, none⟩ (.int .i64 y.rq.key)).setCell ⟨g, j * 11 + 1, none⟩ (.int .i64 y.rq.op)).setCell ⟨g, j * 11 + 2, none⟩ (.int .i64 y.rq.a)).setCell ⟨g, j * 11 + 3, none⟩ (.int .i64 y.rq.b)).setCell ⟨g, j * 11 + 4, none⟩ (.int .i64 y.rq.amt)).setCell ⟨g, j * 11 + 5, none⟩ (.int .i64 y.rq.legs)).setCell ⟨g, j * 11 + 6, none⟩ (.int .i64 y.rq.til)).setCell ⟨g, j * 11 + 7, none⟩ (.int .i64 y.ph)).setCell ⟨g, j * 11 + 8, none⟩ (.int .i64 y.leg)).setCell ⟨g, j * 11 + 9, none⟩ (.int .i64 y.tries)).setCell ⟨g, j * 11 + 10, none⟩ (.int .i64 y.why))
   base (.slice (some ⟨g, 0, none⟩) n cap) (ps.set j y) := by
 obtain ⟨⟨p0, p1, p2, p3, p4, p5, p6⟩, p7, p8, p9, p10⟩ := p
 obtain ⟨⟨y0, y1, y2, y3, y4, y5, y6⟩, y7, y8, y9, y10⟩ := y
 dsimp only
 have hlt : j < ps.length := (List.getElem?_eq_some_iff.1 hj).1
 have hat : ∀ z : Sg, (ps.set j z)[j]? = some z := fun z => by rw [List.getElem?_set_self hlt]
 have hln : ∀ z : Sg, n = (ps.set j z).length := fun z => by rw [List.length_set]; exact hn
 have h0 := h.set hn hj 0 (.int .i64 y0) ⟨⟨y0, p1, p2, p3, p4, p5, p6⟩, p7, p8, p9, p10⟩ (by decide) rfl
 have h1 := h0.set (hln _) (hat _) 1 (.int .i64 y1) ⟨⟨y0, y1, p2, p3, p4, p5, p6⟩, p7, p8, p9, p10⟩ (by decide) rfl
 rw [List.set_set] at h1
 have h2 := h1.set (hln _) (hat _) 2 (.int .i64 y2) ⟨⟨y0, y1, y2, p3, p4, p5, p6⟩, p7, p8, p9, p10⟩ (by decide) rfl
 rw [List.set_set] at h2
 have h3 := h2.set (hln _) (hat _) 3 (.int .i64 y3) ⟨⟨y0, y1, y2, y3, p4, p5, p6⟩, p7, p8, p9, p10⟩ (by decide) rfl
 rw [List.set_set] at h3
 have h4 := h3.set (hln _) (hat _) 4 (.int .i64 y4) ⟨⟨y0, y1, y2, y3, y4, p5, p6⟩, p7, p8, p9, p10⟩ (by decide) rfl
 rw [List.set_set] at h4
 have h5 := h4.set (hln _) (hat _) 5 (.int .i64 y5) ⟨⟨y0, y1, y2, y3, y4, y5, p6⟩, p7, p8, p9, p10⟩ (by decide) rfl
 rw [List.set_set] at h5
 have h6 := h5.set (hln _) (hat _) 6 (.int .i64 y6) ⟨⟨y0, y1, y2, y3, y4, y5, y6⟩, p7, p8, p9, p10⟩ (by decide) rfl
 rw [List.set_set] at h6
 have h7 := h6.set (hln _) (hat _) 7 (.int .i64 y7) ⟨⟨y0, y1, y2, y3, y4, y5, y6⟩, y7, p8, p9, p10⟩ (by decide) rfl
 rw [List.set_set] at h7
 have h8 := h7.set (hln _) (hat _) 8 (.int .i64 y8) ⟨⟨y0, y1, y2, y3, y4, y5, y6⟩, y7, y8, p9, p10⟩ (by decide) rfl
 rw [List.set_set] at h8
 have h9 := h8.set (hln _) (hat _) 9 (.int .i64 y9) ⟨⟨y0, y1, y2, y3, y4, y5, y6⟩, y7, y8, y9, p10⟩ (by decide) rfl
 rw [List.set_set] at h9
 have h10 := h9.set (hln _) (hat _) 10 (.int .i64 y10) ⟨⟨y0, y1, y2, y3, y4, y5, y6⟩, y7, y8, y9, y10⟩ (by decide) rfl
 rw [List.set_set] at h10
 exact h10
theorem sagas_at {w : World} {base g n cap j : Nat} {ps : List Sg} {p : Sg} (h : OwnS sagas w base (.slice (some ⟨g, 0, none⟩) n cap) ps) (hj : ps[j]? = some p) :
  w.cell? ⟨g, j * 11, none⟩ = some (.int .i64 p.rq.key) ∧ w.cell? ⟨g, j * 11 + 1, none⟩ = some (.int .i64 p.rq.op) ∧ w.cell? ⟨g, j * 11 + 2, none⟩ = some (.int .i64 p.rq.a) ∧ w.cell? ⟨g, j * 11 + 3, none⟩ = some (.int .i64 p.rq.b) ∧ w.cell? ⟨g, j * 11 + 4, none⟩ = some (.int .i64 p.rq.amt) ∧ w.cell? ⟨g, j * 11 + 5, none⟩ = some (.int .i64 p.rq.legs) ∧ w.cell? ⟨g, j * 11 + 6, none⟩ = some (.int .i64 p.rq.til) ∧ w.cell? ⟨g, j * 11 + 7, none⟩ = some (.int .i64 p.ph) ∧ w.cell? ⟨g, j * 11 + 8, none⟩ = some (.int .i64 p.leg) ∧ w.cell? ⟨g, j * 11 + 9, none⟩ = some (.int .i64 p.tries) ∧ w.cell? ⟨g, j * 11 + 10, none⟩ = some (.int .i64 p.why) :=
 ⟨h.at_ hj 0 _ rfl, h.at_ hj 1 _ rfl, h.at_ hj 2 _ rfl, h.at_ hj 3 _ rfl, h.at_ hj 4 _ rfl, h.at_ hj 5 _ rfl, h.at_ hj 6 _ rfl, h.at_ hj 7 _ rfl, h.at_ hj 8 _ rfl, h.at_ hj 9 _ rfl, h.at_ hj 10 _ rfl⟩
theorem sg_heap (w : World) (g : Nat) (i0 i1 i2 i3 i4 i5 i6 i7 i8 i9 i10 : Nat) (a0 a1 a2 a3 a4 a5 a6 a7 a8 a9 a10 : Value) (k : Nat) (hk : k ≠ g) : ((((((((((((w.setCell ⟨g, i0, none⟩ a0).setCell ⟨g, i1, none⟩ a1).setCell ⟨g, i2, none⟩ a2).setCell ⟨g, i3, none⟩ a3).setCell ⟨g, i4, none⟩ a4).setCell ⟨g, i5, none⟩ a5).setCell ⟨g, i6, none⟩ a6).setCell ⟨g, i7, none⟩ a7).setCell ⟨g, i8, none⟩ a8).setCell ⟨g, i9, none⟩ a9).setCell ⟨g, i10, none⟩ a10)).heap[k]? = w.heap[k]? := by
 rw [Below.heap_setCell _ _ _ _ hk, Below.heap_setCell _ _ _ _ hk, Below.heap_setCell _ _ _ _ hk, Below.heap_setCell _ _ _ _ hk, Below.heap_setCell _ _ _ _ hk, Below.heap_setCell _ _ _ _ hk, Below.heap_setCell _ _ _ _ hk, Below.heap_setCell _ _ _ _ hk, Below.heap_setCell _ _ _ _ hk, Below.heap_setCell _ _ _ _ hk, Below.heap_setCell _ _ _ _ hk]
theorem sg_on {F : Nat → Prop} {w W : World} {g i0 i1 i2 i3 i4 i5 i6 i7 i8 i9 i10 : Nat} (h : On F w W) (hg : ¬ F g) (a0 a1 a2 a3 a4 a5 a6 a7 a8 a9 a10 : Value) :
  On F w (((((((((((W.setCell ⟨g, i0, none⟩ a0).setCell ⟨g, i1, none⟩ a1).setCell ⟨g, i2, none⟩ a2).setCell ⟨g, i3, none⟩ a3).setCell ⟨g, i4, none⟩ a4).setCell ⟨g, i5, none⟩ a5).setCell ⟨g, i6, none⟩ a6).setCell ⟨g, i7, none⟩ a7).setCell ⟨g, i8, none⟩ a8).setCell ⟨g, i9, none⟩ a9).setCell ⟨g, i10, none⟩ a10) :=
 ((((((((((h.setCell (p := ⟨g, i0, none⟩) hg a0).setCell (p := ⟨g, i1, none⟩) hg a1).setCell (p := ⟨g, i2, none⟩) hg a2).setCell (p := ⟨g, i3, none⟩) hg a3).setCell (p := ⟨g, i4, none⟩) hg a4).setCell (p := ⟨g, i5, none⟩) hg a5).setCell (p := ⟨g, i6, none⟩) hg a6).setCell (p := ⟨g, i7, none⟩) hg a7).setCell (p := ⟨g, i8, none⟩) hg a8).setCell (p := ⟨g, i9, none⟩) hg a9).setCell (p := ⟨g, i10, none⟩) hg a10
set_option maxRecDepth 100000 in
theorem efind1_any (s : Sg) (key : Int) (k : Nat) (w : World) (h : Blk w k 3 #[.int .i64 key]) :
  Calls Tryz.prog 146 #[s.val, .pointer (some ⟨k, 0, none⟩)] w (BoolRes w (decide (s.rq.key = key))) := by
 have k0 := h.cell 0 rfl
 have hlt := h.lt
 obtain ⟨⟨k0', k1, k2, k3, k4, k5, k6⟩, ph, lg, tr, wy⟩ := s
 unfold Sg.val BoolRes
 dsimp only
 by_cases he : k0' = key
 · have qe := eqT he
   rw [decide_eq_true he]
   clear h he
   go_enter Tryz.func146, Tryz.ntmps146
   go_wp2
   go_ret
   exact ⟨rfl, (Below.refl _ _).alloc (Nat.le_refl _) _⟩
 · have qe := eqF he
   rw [decide_eq_false he]
   clear h he
   go_enter Tryz.func146, Tryz.ntmps146
   go_wp2
   go_ret
   exact ⟨rfl, (Below.refl _ _).alloc (Nat.le_refl _) _⟩
set_option maxRecDepth 100000 in
set_option maxHeartbeats 1000000 in
theorem sindex_any (A : Option Addr) (n c : Nat) (sl : List Sg) (key : Int) (g : Nat) (w : World) (hl : sl.length = n) (hr : RdS sagas w A sl) (hg : Blk w g 3 #[.int .i64 key]) (hn : n ≤ 2000000) :
  Calls Tryz.prog 145 #[.slice A n c, .func (.func 146) #[] #[.pointer (some ⟨g, 0, none⟩)]] w fun e w' => e = .returned (.int .i64 (fi (findS sl key))) ∧ Below w.heap.size w w' := by
 have HR := Lib.hid hr
 have HL := Lib.hid hl
 have HG := Lib.hid hg
 obtain ⟨res, hres⟩ : ∃ res, fi (findS sl key) = res := ⟨_, rfl⟩
 rw [hres]
 have HRES := Lib.hid hres
 clear hr hl hres hg
 go_enter Tryz.func145, Tryz.ntmps145
 go_wp2
 go_loopw [8] (fun i wr => ∃ k : Nat, k ≤ n ∧ i = .int .i64 (k : Int) ∧ (∀ (j : Nat) a, j < k → sl[j]? = some a → a.rq.key ≠ key) ∧ Below w.heap.size w wr) (fun i _ => n - (intOf i).toNat)
 case atStart => exact ⟨0, Nat.zero_le _, rfl, fun j a h => absurd h (by omega), Below.refl _ _⟩
 case round =>
  obtain ⟨k, hk, rfl, hrest, hbel⟩ := hrel
  have HREST := Lib.hid hrest
  have HBEL := Lib.hid hbel
  have hsz := hbel.size
  clear hrest hbel
  by_cases hlt : k < n
  · obtain ⟨a, ha⟩ : ∃ a, sl[k]? = some a := ⟨_, List.getElem?_eq_getElem (by rw [HL.out]; exact hlt)⟩
    obtain ⟨ad, rfl, hat⟩ := (HR.out.below HBEL.out).at_ ha
    obtain ⟨c0, c1, c2, c3, c4, c5, c6, c7, c8, c9, c10⟩ := sg_cells hat
    have HA := Lib.hid ha
    have HF := Lib.hid (efind1_any a key g wr (HG.out.later HBEL.out))
    clear ha hat
    obtain ⟨⟨k0, k1, k2, k3, k4, k5, k6⟩, ph, lg, tr, wy⟩ := a
    unfold Sg.val BoolRes at HF
    dsimp only at c0 c1 c2 c3 c4 c5 c6 c7 c8 c9 c10 HF
    by_cases h0 : k0 = key
    · obtain rfl : res = (k : Int) := by rw [← HRES.out, findS_some.2 ⟨⟨_, HA.out, h0⟩, HREST.out⟩]; rfl
      rw [decide_eq_true h0] at HF
      clear h0
      go_wp2_with (go_at_call 146; refine HF.out.mono ?_; rintro _ w1 ⟨rfl, hb1⟩)
      go_ret
      exact ⟨rfl, HBEL.out.trans (hb1.mono hsz)⟩
    · rw [decide_eq_false h0] at HF
      have HN := Lib.hid (show ∀ (j : Nat) a, j < k + 1 → sl[j]? = some a → a.rq.key ≠ key from fun j a hj ha => by
        by_cases hjk : j < k
        · exact HREST.out j a hjk ha
        · obtain rfl : j = k := by omega
          rw [HA.out] at ha
          injection ha with ha
          subst ha
          exact h0)
      clear h0
      go_wp2_with (go_at_call 146; refine HF.out.mono ?_; rintro _ w1 ⟨rfl, hb1⟩)
      go_roundw
      case rel => exact ⟨k + 1, by omega, by go_num, HN.out, HBEL.out.trans (hb1.mono hsz)⟩
      case measure => simp [intOf]; omega
  · obtain rfl : k = n := by omega
    obtain rfl : res = -1 := by
     rw [← HRES.out, findS_none.2 fun j a ha => HREST.out j a (by have := (List.getElem?_eq_some_iff.1 ha).1; rw [HL.out] at this; exact this) ha]; rfl
    go_wp2
    go_ret
    exact ⟨rfl, HBEL.out⟩
set_option maxRecDepth 100000 in
theorem efind_any (V : Sv) (T : St) (sl : List Sg) (kl : List Kn) (key : Int) (w : World) (h : SkAt w V T sl kl) (hsl : sl.length ≤ 2000000) :
  Calls Tryz.prog 111 #[V.val, .int .i64 key] w fun e w' => e = .returned (.int .i64 (fi (findS sl key))) ∧ Below w.heap.size w w' := by
 have HIX := Lib.hid (fun W g (hb : Below w.heap.size w W) (hg : Blk W g 3 #[.int .i64 key]) => sindex_any V.X V.xn V.xc sl key g W h.xn (h.sag.below hb) hg (by have := h.xn; omega))
 obtain ⟨A0, n0, c0, B0, q0, d0, X0, xn0, xc0, Y0, yn0, yc0, t0⟩ := V
 unfold Sv.val Sv.cells
 dsimp only at HIX ⊢
 clear h hsl
 have hmf : ∀ (fn : Fn) (first cap : Array Value) (w : World), (Instr.makeFunc fn first cap).run Tryz.prog w = .ok (.func fn first cap) w := fun _ _ _ _ => rfl
 go_enter Tryz.func111, Tryz.ntmps111
 go_upto_region 1 with fail
 have HL_0 := Lib.hid (Below.refl w.heap.size w)
 have al := (Below.refl w.heap.size w).alloc (Nat.le_refl _) (.cells #[.slice A0 n0 c0, .slice B0 q0 d0, .slice X0 xn0 xc0, .slice Y0 yn0 yc0, .int .i64 t0] 35)
 replace al := al.alloc (by simp; try omega) (.cells #[.int .i64 key] 3)
 have nb0 := (Blk.new w 35 #[.slice A0 n0 c0, .slice B0 q0 d0, .slice X0 xn0 xc0, .slice Y0 yn0 yc0, .int .i64 t0]).more (.cells #[.int .i64 key] 3)
 have nb1 := Blk.new (w.alloc (.cells #[.slice A0 n0 c0, .slice B0 q0 d0, .slice X0 xn0 xc0, .slice Y0 yn0 yc0, .int .i64 t0] 35)) 3 #[.int .i64 key]
 rw [alloc_size] at nb1
 have HL_1 := Lib.hid (HL_0.out.trans (al.mono HL_0.out.size))
 clear al HL_0
 have S_1 := Lib.hid (nb0)
 have K_1 := Lib.hid (nb1)
 clear nb0 nb1
 generalize (w.alloc (.cells #[.slice A0 n0 c0, .slice B0 q0 d0, .slice X0 xn0 xc0, .slice Y0 yn0 yc0, .int .i64 t0] 35)).alloc (.cells #[.int .i64 key] 3) = w1 at HL_1 S_1 K_1 ⊢
 have x2 := S_1.out.cell 2 rfl
 go_wp2_with (go_at_call 145; refine (HIX.out _ _ HL_1.out K_1.out).mono ?_; rintro _ w2 ⟨rfl, hb2⟩)
 go_ret
 exact ⟨rfl, HL_1.out.trans (hb2.mono HL_1.out.size)⟩
section
variable {w w' : World} {xb : Nat}
theorem RdS.away {α : Type} {S : Shape α} {A : Option Addr} {zs : List α} (h : RdS S w A zs) (hb : ∀ k, k < w.heap.size → k ≠ xb → w'.heap[k]? = w.heap[k]?) (hf : 0 < zs.length → ∀ a, A = some a → a.block ≠ xb) : RdS S w' A zs := fun hn => by
 obtain ⟨ad, he, hc⟩ := h hn
 have hlt := h.lt hn ad he
 have hne := hf hn ad he
 have hb' : ∀ i, w'.cell? (ad.add i) = w.cell? (ad.add i) := fun i => World.cell?_of_block (hb _ (by rw [add_block]; exact hlt) (by rw [add_block]; exact hne))
 exact ⟨ad, he, fun j b hj i u hu => by rw [hb']; exact hc j b hj i u hu⟩
theorem RdA.away {A : Option Addr} {zs : List Ac} (h : RdA w A zs) (hb : ∀ k, k < w.heap.size → k ≠ xb → w'.heap[k]? = w.heap[k]?) (hf : 0 < zs.length → ∀ a, A = some a → a.block ≠ xb) : RdA w' A zs := fun hn => by
 obtain ⟨ad, he, hc⟩ := h hn
 have hlt := h.lt hn ad he
 have hne := hf hn ad he
 have hb' : ∀ i, w'.cell? (ad.add i) = w.cell? (ad.add i) := fun i => World.cell?_of_block (hb _ (by rw [add_block]; exact hlt) (by rw [add_block]; exact hne))
 exact ⟨ad, he, fun j b hj => ⟨by rw [hb']; exact (hc j b hj).c0, by rw [hb']; exact (hc j b hj).c1, by rw [hb']; exact (hc j b hj).c2⟩⟩
/-- Other sagas, in a block in which nothing else lies. -/
theorem SkAt.newX {V : Sv} {T : St} {sl sl' : List Sg} {kl : List Kn} {X' : Option Addr} {xn' xc' : Nat} (h : SkAt w V T sl kl) (hb : ∀ k, k < w.heap.size → k ≠ xb → w'.heap[k]? = w.heap[k]?) (hf : inP (fun k => k ≠ xb) V.A V.n V.B V.q (.slice none 0 0) (.slice V.Y V.yn V.yc)) (ho : RdS sagas w' X' sl') (hn : sl'.length = xn') (hs : Sl X' xn' xc') :
  SkAt w' ⟨V.A, V.n, V.c, V.B, V.q, V.d, X', xn', xc', V.Y, V.yn, V.yc, V.t⟩ T sl' kl :=
 ⟨h.n, h.q, hn, h.yn, h.t, h.accs.away hb (by rw [h.n]; exact hf.1), h.pays.away hb (by rw [h.q]; exact hf.2.1), ho, h.kn.away hb (fun hl a e => hf.2.2.2 a.block (full_some (by rw [← h.yn]; exact hl) e)), h.sa, h.sp, hs, h.sy⟩
theorem Blk.away {b : Nat} {t : TypeId} {vs : Array Value} (h : Blk w b t vs) (hb : ∀ k, k < w.heap.size → k ≠ xb → w'.heap[k]? = w.heap[k]?) (hn : xb ≠ b) : Blk w' b t vs := (hb b h.lt (fun e => hn e.symm)).trans h
end
theorem est_on {F : Nat → Prop} {a w : World} {g : Nat} (h : On F a w) (hg : ¬ F g) (x0 x1 x2 x3 x4 : Value) : On F a (((((w.setCell ⟨g, 0, none⟩ x0).setCell ⟨g, 1, none⟩ x1).setCell ⟨g, 2, none⟩ x2).setCell ⟨g, 3, none⟩ x3).setCell ⟨g, 4, none⟩ x4) :=
 ((((h.setCell (p := ⟨g, 0, none⟩) hg x0).setCell (p := ⟨g, 1, none⟩) hg x1).setCell (p := ⟨g, 2, none⟩) hg x2).setCell (p := ⟨g, 3, none⟩) hg x3).setCell (p := ⟨g, 4, none⟩) hg x4
theorem erp_on {F : Nat → Prop} {a w : World} {g : Nat} (h : On F a w) (hg : ¬ F g) (x0 x1 : Value) : On F a ((w.setCell ⟨g, 0, none⟩ x0).setCell ⟨g, 1, none⟩ x1) :=
 (h.setCell (p := ⟨g, 0, none⟩) hg x0).setCell (p := ⟨g, 1, none⟩) hg x1
/-- A state and a reply; of what lay only the block of the sagas is turned. -/
def EgO (w : World) (V : Sv) (O : Eo) (e : Ending) (w' : World) : Prop :=
 ∃ V' : Sv, e = .returned (.tuple #[V'.val, .agg #[.int .i64 O.E, .int .i64 O.I]]) ∧ SkAt w' V' O.X.T O.X.sl O.X.kl ∧ On (fun k => k < w.heap.size ∧ (Value.slice V.X V.xn V.xc).ownBlock ≠ some k) w w' ∧ V.new V' w.heap.size
/-- The same; nothing below base is turned. -/
def EgB (w : World) (base : Nat) (V : Sv) (O : Eo) (e : Ending) (w' : World) : Prop :=
 ∃ V' : Sv, e = .returned (.tuple #[V'.val, .agg #[.int .i64 O.E, .int .i64 O.I]]) ∧ SkAt w' V' O.X.T O.X.sl O.X.kl ∧ Below base w w' ∧ V.new V' base
theorem Blk.ne {w : World} {a b : Nat} {t u : TypeId} {vs us : Array Value} (h : Blk w a t vs) (k : Blk w b u us) (ht : t ≠ u) : a ≠ b := fun e => by
 subst e
 unfold Blk at h k
 rw [h] at k
 injection k with k
 injection k with _ k _
 exact ht k
set_option maxRecDepth 100000 in
set_option maxHeartbeats 1000000 in
theorem egoon_any (V : Sv) (T : St) (sl : List Sg) (kl : List Kn) (i : Nat) (s : Sg) (base : Nat) (w : World) (h : SkAt w V T sl kl) (ha : Apart w V base sl) (hi : i < sl.length) (hsl : sl.length ≤ 2000000) :
  Calls Tryz.prog 116 #[V.val, .int .i64 (i : Int), s.val] w (EgO w V (goO ⟨T, sl, kl⟩ i s)) := by
 unfold goO EgO
 dsimp only
 obtain ⟨xb, cap, hX, hxb, hxl, hxc, hxm⟩ := ha.own.open_ (by omega)
 obtain ⟨p, hp⟩ : ∃ p, sl[i]? = some p := ⟨_, List.getElem?_eq_getElem hi⟩
 obtain ⟨A0, n0, c0, B0, q0, d0, X0, xn0, xc0, Y0, yn0, yc0, t0⟩ := V
 injection hX with hX1 hX2 hX3
 dsimp only at hX1 hX2 hX3
 subst hX1 hX2 hX3
 have HA := Lib.hid ha
 have HFAR := Lib.hid (ha.far xb rfl)
 have HP := Lib.hid hp
 have HV_0 := Lib.hid h
 have HL_0 := Lib.hid (Below.refl w.heap.size w)
 have OW_0 := Lib.hid (show OwnS sagas w base (.slice (some ⟨xb, 0, none⟩) sl.length xc0) sl from ha.own)
 unfold Sv.val Sv.cells Sg.val
 dsimp only
 obtain ⟨⟨k0, k1, k2, k3, k4, k5, k6⟩, ph, lg, tr, wy⟩ := s
 dsimp only
 clear h ha hp
 go_enter Tryz.func116, Tryz.ntmps116
 go_upto_region 1 with fail
 have al := (Below.refl w.heap.size w).alloc (Nat.le_refl _) (.cells #[.slice A0 n0 c0, .slice B0 q0 d0, .slice (some ⟨xb, 0, none⟩) sl.length xc0, .slice Y0 yn0 yc0, .int .i64 t0] 35)
 replace al := al.alloc (by simp; try omega) (.cells #[.int .i64 k0, .int .i64 k1, .int .i64 k2, .int .i64 k3, .int .i64 k4, .int .i64 k5, .int .i64 k6, .int .i64 ph, .int .i64 lg, .int .i64 tr, .int .i64 wy] 68)
 replace al := al.alloc (by simp; try omega) (.cells st0 35)
 replace al := al.alloc (by simp; try omega) (.cells rp0 46)
 have nb0 := (((Blk.new w 35 #[.slice A0 n0 c0, .slice B0 q0 d0, .slice (some ⟨xb, 0, none⟩) sl.length xc0, .slice Y0 yn0 yc0, .int .i64 t0]).more (.cells #[.int .i64 k0, .int .i64 k1, .int .i64 k2, .int .i64 k3, .int .i64 k4, .int .i64 k5, .int .i64 k6, .int .i64 ph, .int .i64 lg, .int .i64 tr, .int .i64 wy] 68)).more (.cells st0 35)).more (.cells rp0 46)
 have nb1 := ((Blk.new (w.alloc (.cells #[.slice A0 n0 c0, .slice B0 q0 d0, .slice (some ⟨xb, 0, none⟩) sl.length xc0, .slice Y0 yn0 yc0, .int .i64 t0] 35)) 68 #[.int .i64 k0, .int .i64 k1, .int .i64 k2, .int .i64 k3, .int .i64 k4, .int .i64 k5, .int .i64 k6, .int .i64 ph, .int .i64 lg, .int .i64 tr, .int .i64 wy]).more (.cells st0 35)).more (.cells rp0 46)
 rw [alloc_size] at nb1
 have nb2 := (Blk.new ((w.alloc (.cells #[.slice A0 n0 c0, .slice B0 q0 d0, .slice (some ⟨xb, 0, none⟩) sl.length xc0, .slice Y0 yn0 yc0, .int .i64 t0] 35)).alloc (.cells #[.int .i64 k0, .int .i64 k1, .int .i64 k2, .int .i64 k3, .int .i64 k4, .int .i64 k5, .int .i64 k6, .int .i64 ph, .int .i64 lg, .int .i64 tr, .int .i64 wy] 68)) 35 st0).more (.cells rp0 46)
 rw [alloc_size, alloc_size] at nb2
 have nb3 := Blk.new (((w.alloc (.cells #[.slice A0 n0 c0, .slice B0 q0 d0, .slice (some ⟨xb, 0, none⟩) sl.length xc0, .slice Y0 yn0 yc0, .int .i64 t0] 35)).alloc (.cells #[.int .i64 k0, .int .i64 k1, .int .i64 k2, .int .i64 k3, .int .i64 k4, .int .i64 k5, .int .i64 k6, .int .i64 ph, .int .i64 lg, .int .i64 tr, .int .i64 wy] 68)).alloc (.cells st0 35)) 46 rp0
 rw [alloc_size, alloc_size, alloc_size] at nb3
 have HL_1 := Lib.hid (HL_0.out.trans (al.mono HL_0.out.size))
 have HV_1 := Lib.hid (HV_0.out.below al)
 have OW_1 := Lib.hid (OW_0.out.below al)
 clear al HL_0 HV_0 OW_0
 have S_1 := Lib.hid (nb0)
 have G_1 := Lib.hid (nb1)
 have Z_1 := Lib.hid (nb2)
 have P_1 := Lib.hid (nb3)
 clear nb0 nb1 nb2 nb3
 generalize (((w.alloc (.cells #[.slice A0 n0 c0, .slice B0 q0 d0, .slice (some ⟨xb, 0, none⟩) sl.length xc0, .slice Y0 yn0 yc0, .int .i64 t0] 35)).alloc (.cells #[.int .i64 k0, .int .i64 k1, .int .i64 k2, .int .i64 k3, .int .i64 k4, .int .i64 k5, .int .i64 k6, .int .i64 ph, .int .i64 lg, .int .i64 tr, .int .i64 wy] 68)).alloc (.cells st0 35)).alloc (.cells rp0 46) = w1 at HL_1 HV_1 OW_1 S_1 G_1 Z_1 P_1 ⊢
 have hz1 : w.heap.size + 1 + 1 + 1 < w1.heap.size := P_1.out.lt
 have hne0 : xb ≠ w.heap.size := OW_1.out.ne S_1.out (by decide) xb rfl
 have hne2 : xb ≠ w.heap.size + 1 + 1 := OW_1.out.ne Z_1.out (by decide) xb rfl
 have hne3 : xb ≠ w.heap.size + 1 + 1 + 1 := OW_1.out.ne P_1.out (by decide) xb rfl
 have x2 := S_1.out.cell 2 rfl
 obtain ⟨h0, h1, h2, h3, h4, h5, h6, h7, h8, h9, h10⟩ := (show _ ∧ _ ∧ _ ∧ _ ∧ _ ∧ _ ∧ _ ∧ _ ∧ _ ∧ _ ∧ _ from ⟨G_1.out.cell 0 rfl, G_1.out.cell 1 rfl, G_1.out.cell 2 rfl, G_1.out.cell 3 rfl, G_1.out.cell 4 rfl, G_1.out.cell 5 rfl, G_1.out.cell 6 rfl, G_1.out.cell 7 rfl, G_1.out.cell 8 rfl, G_1.out.cell 9 rfl, G_1.out.cell 10 rfl⟩)
 obtain ⟨e0, e1, e2, e3, e4, e5, e6, e7, e8, e9, e10⟩ := sagas_at OW_1.out HP.out
 obtain ⟨f0, f1, f2, f3, f4, f5, f6, f7, f8, f9, f10⟩ := (show _ ∧ _ ∧ _ ∧ _ ∧ _ ∧ _ ∧ _ ∧ _ ∧ _ ∧ _ ∧ _ from ⟨OW_1.out.unfrozen rfl (i * 11), OW_1.out.unfrozen rfl (i * 11 + 1), OW_1.out.unfrozen rfl (i * 11 + 2), OW_1.out.unfrozen rfl (i * 11 + 3), OW_1.out.unfrozen rfl (i * 11 + 4), OW_1.out.unfrozen rfl (i * 11 + 5), OW_1.out.unfrozen rfl (i * 11 + 6), OW_1.out.unfrozen rfl (i * 11 + 7), OW_1.out.unfrozen rfl (i * 11 + 8), OW_1.out.unfrozen rfl (i * 11 + 9), OW_1.out.unfrozen rfl (i * 11 + 10)⟩)
 go_upto_region 2 with fail
 clear x2 e0 e1 e2 e3 e4 e5 e6 e7 e8 e9 e10 f0 f1 f2 f3 f4 f5 f6 f7 f8 f9 f10 h0 h1 h2 h3 h4 h5 h6 h7 h8 h9 h10
 have hhp : ∀ k, k < w1.heap.size → k ≠ xb → (((((((((((w1.setCell ⟨xb, i * 11, none⟩ (.int .i64 k0)).setCell ⟨xb, i * 11 + 1, none⟩ (.int .i64 k1)).setCell ⟨xb, i * 11 + 2, none⟩ (.int .i64 k2)).setCell ⟨xb, i * 11 + 3, none⟩ (.int .i64 k3)).setCell ⟨xb, i * 11 + 4, none⟩ (.int .i64 k4)).setCell ⟨xb, i * 11 + 5, none⟩ (.int .i64 k5)).setCell ⟨xb, i * 11 + 6, none⟩ (.int .i64 k6)).setCell ⟨xb, i * 11 + 7, none⟩ (.int .i64 ph)).setCell ⟨xb, i * 11 + 8, none⟩ (.int .i64 lg)).setCell ⟨xb, i * 11 + 9, none⟩ (.int .i64 tr)).setCell ⟨xb, i * 11 + 10, none⟩ (.int .i64 wy)).heap[k]? = w1.heap[k]? := fun k _ hk => sg_heap w1 xb _ _ _ _ _ _ _ _ _ _ _ _ _ _ _ _ _ _ _ _ _ _ k hk
 have OX := Lib.hid (sagas_put (y := ⟨⟨k0, k1, k2, k3, k4, k5, k6⟩, ph, lg, tr, wy⟩) OW_1.out rfl HP.out)
 have LX := Lib.hid (sg_on (On.of HL_1.out (F := fun k => k < w.heap.size ∧ (Value.slice (some ⟨xb, 0, none⟩) sl.length xc0).ownBlock ≠ some k) (fun k hk => hk.1)) (g := xb) (fun hF => hF.2 rfl) (.int .i64 k0) (.int .i64 k1) (.int .i64 k2) (.int .i64 k3) (.int .i64 k4) (.int .i64 k5) (.int .i64 k6) (.int .i64 ph) (.int .i64 lg) (.int .i64 tr) (.int .i64 wy) (i0 := i * 11) (i1 := i * 11 + 1) (i2 := i * 11 + 2) (i3 := i * 11 + 3) (i4 := i * 11 + 4) (i5 := i * 11 + 5) (i6 := i * 11 + 6) (i7 := i * 11 + 7) (i8 := i * 11 + 8) (i9 := i * 11 + 9) (i10 := i * 11 + 10))
 dsimp only at OX
 obtain ⟨_, _, eX, ox1, ox2, ox3, ox4⟩ := OX.out.form
 injection eX with eX1 eX2 eX3
 subst eX1 eX3
 clear eX2
 have VX' := Lib.hid (SkAt.newX (X' := some ⟨xb, 0, none⟩) (xn' := sl.length) (xc' := xc0) HV_1.out hhp HFAR.out ox1 (List.length_set ..) (show Sl _ _ _ from ⟨by rw [List.length_set] at ox4; exact ox4, by rw [List.length_set] at ox2; exact ox2, ox3⟩))
 have SX := Lib.hid (S_1.out.away hhp hne0)
 have ZX := Lib.hid (Z_1.out.away hhp hne2)
 have PX := Lib.hid (P_1.out.away hhp hne3)
 dsimp only at VX'
 clear hhp ox1 ox2 ox3 ox4 OX HL_1 HV_1 OW_1 S_1 G_1 Z_1 P_1
 generalize ((((((((((w1.setCell ⟨xb, i * 11, none⟩ (.int .i64 k0)).setCell ⟨xb, i * 11 + 1, none⟩ (.int .i64 k1)).setCell ⟨xb, i * 11 + 2, none⟩ (.int .i64 k2)).setCell ⟨xb, i * 11 + 3, none⟩ (.int .i64 k3)).setCell ⟨xb, i * 11 + 4, none⟩ (.int .i64 k4)).setCell ⟨xb, i * 11 + 5, none⟩ (.int .i64 k5)).setCell ⟨xb, i * 11 + 6, none⟩ (.int .i64 k6)).setCell ⟨xb, i * 11 + 7, none⟩ (.int .i64 ph)).setCell ⟨xb, i * 11 + 8, none⟩ (.int .i64 lg)).setCell ⟨xb, i * 11 + 9, none⟩ (.int .i64 tr)).setCell ⟨xb, i * 11 + 10, none⟩ (.int .i64 wy) = wx at LX VX' SX ZX PX ⊢
 obtain ⟨x0, x1, x2, x3, x4⟩ := (show _ ∧ _ ∧ _ ∧ _ ∧ _ from ⟨SX.out.cell 0 rfl, SX.out.cell 1 rfl, SX.out.cell 2 rfl, SX.out.cell 3 rfl, SX.out.cell 4 rfl⟩)
 obtain ⟨y0, y1, y2, y3, y4⟩ := (show _ ∧ _ ∧ _ ∧ _ ∧ _ from ⟨ZX.out.cell 0 rfl, ZX.out.cell 1 rfl, ZX.out.cell 2 rfl, ZX.out.cell 3 rfl, ZX.out.cell 4 rfl⟩)
 obtain ⟨f0, f1, f2, f3, f4⟩ := (show _ ∧ _ ∧ _ ∧ _ ∧ _ from ⟨ZX.out.loose 0, ZX.out.loose 1, ZX.out.loose 2, ZX.out.loose 3, ZX.out.loose 4⟩)
 obtain ⟨z0, z1⟩ := (show _ ∧ _ from ⟨PX.out.cell 0 rfl, PX.out.cell 1 rfl⟩)
 obtain ⟨e0, e1⟩ := (show _ ∧ _ from ⟨PX.out.loose 0, PX.out.loose 1⟩)
 go_wp2
 have HT2 := rp_other (st_put ZX.out rfl (.slice A0 n0 c0) (.slice B0 q0 d0) (.slice (some ⟨xb, 0, none⟩) sl.length xc0) (.slice Y0 yn0 yc0) (.int .i64 t0)) (show w.heap.size + 1 + 1 + 1 ≠ w.heap.size + 1 + 1 by omega) (.int .i64 10) (.int .i64 0)
 have PX2 := st_other PX.out (show w.heap.size + 1 + 1 ≠ w.heap.size + 1 + 1 + 1 by omega) (.slice A0 n0 c0) (.slice B0 q0 d0) (.slice (some ⟨xb, 0, none⟩) sl.length xc0) (.slice Y0 yn0 yc0) (.int .i64 t0)
 have HT3 := rp_put PX2 rfl (.int .i64 10) (.int .i64 0)
 have HTV := sk_rp (sk_zero VX'.out ZX.out (.slice A0 n0 c0) (.slice B0 q0 d0) (.slice (some ⟨xb, 0, none⟩) sl.length xc0) (.slice Y0 yn0 yc0) (.int .i64 t0)) PX2 (.int .i64 10) (.int .i64 0)
 have HTO := erp_on (est_on LX.out (g := w.heap.size + 1 + 1) (fun hF => by have := hF.1; omega) (.slice A0 n0 c0) (.slice B0 q0 d0) (.slice (some ⟨xb, 0, none⟩) sl.length xc0) (.slice Y0 yn0 yc0) (.int .i64 t0)) (g := w.heap.size + 1 + 1 + 1) (fun hF => by have := hF.1; omega) (.int .i64 10) (.int .i64 0)
 refine bodyPost_ret (results_two (p := 6) (q := 7) (ty := 35) (tz := 46) rfl _ _ (w.heap.size + 1 + 1) (w.heap.size + 1 + 1 + 1) _ _ _ _ (0, 0) _ _ rfl HT2 Tryz.underlying35 rfl (by kernel_rfl) rfl HT3 Tryz.underlying46 rfl (by kernel_rfl)) rfl ?_
 exact ⟨⟨A0, n0, c0, B0, q0, d0, some ⟨xb, 0, none⟩, sl.length, xc0, Y0, yn0, yc0, t0⟩, rfl, HTV, HTO, Sv.new.refl _ _⟩
theorem sgs_slice : Tryz.prog.underlying 32 = some (.slice (Tryz.prog.elem 32)) := by kernel_rfl
theorem sgs_size (W : World) : (sizeOf (Tryz.prog.elem 32)).run Tryz.prog W = .ok 11 W := by kernel_rfl
theorem run_frontSg (W : World) (A : Option Addr) (n c k : Nat) (hk : k ≤ c) : (Instr.sliceAt 32 (.slice A n c) none (some (.int .i64 (k : Int))) none).run Tryz.prog W = .ok (.slice A k c) W := by
 rw [run_sliceAt_slice _ _ _ _ _ _ sgs_slice, run_slice_h W _ _ _ _ sgs_slice _ _ (by omega) (by omega), sgs_size]
 have e : (A.map fun x => x.add 0) = A := by cases A <;> simp [Addr.add]
 simp [Result.andThen, sliced, e]
/-- From a place on: always some place. -/
theorem run_backSg (g n c k : Nat) (hk : k ≤ n) : ∃ ad : Addr, (∀ W : World, (Instr.sliceAt 32 (.slice (some ⟨g, 0, none⟩) n c) (some (.int .i64 (k : Int))) none none).run Tryz.prog W = .ok (.slice (some ad) (n - k) (c - k)) W) ∧ (k < c → ad = ⟨g, k * 11, none⟩) := by
 refine ⟨if c = k then ⟨g, 0, none⟩ else (⟨g, 0, none⟩ : Addr).add (k * 11), fun W => ?_, fun h => ?_⟩
 · rw [run_sliceAt_slice _ _ _ _ _ _ sgs_slice, run_slice_l W _ _ _ _ sgs_slice _ _ (by omega) (by omega), sgs_size]
   by_cases h : c = k
   · simp [Result.andThen, sliced, h]
   · simp [Result.andThen, sliced, h]
 · rw [if_neg (by omega)]
   simp [Addr.add]
   exact fun e => e.symm
theorem run_midSg (g n c i : Nat) (hi : i < n) (hc : n ≤ c) : ∃ v : Value, ∀ W : World, (Instr.sliceAt 32 (.slice (some ⟨g, 0, none⟩) n c) (some (.int .i64 (i : Int))) (some (.int .i64 ((i : Int) + 1))) (some (.int .i64 (n : Int)))).run Tryz.prog W = .ok v W := by
 refine ⟨sliced (some ⟨g, 0, none⟩) ((i : Int)).toNat ((i : Int) + 1).toNat ((n : Int)).toNat 11, fun W => ?_⟩
 rw [run_sliceAt_slice _ _ _ _ _ _ sgs_slice, run_slice_lhm W _ _ _ _ sgs_slice _ _ _ _ _ _ (by omega) (by omega) (by omega) (by omega), sgs_size]
 rfl
theorem run_tailSg (g n c k : Nat) (hk : k + 1 = n) (hc : n ≤ c) : ∃ d : Nat, ∀ W : World, (Instr.sliceAt 32 (.slice (some ⟨g, 0, none⟩) k c) (some (.int .i64 (k : Int))) (some (.int .i64 (n : Int))) none).run Tryz.prog W = .ok (.slice (some ⟨g, k * 11, none⟩) 1 d) W := by
 refine ⟨c - k, fun W => ?_⟩
 rw [run_sliceAt_slice _ _ _ _ _ _ sgs_slice, run_slice_lh W _ _ _ _ sgs_slice _ _ _ _ (by omega) (by omega) (by omega), sgs_size]
 have h1 : c ≠ k := by omega
 have h2 : n - k = 1 := by omega
 simp [Result.andThen, sliced, h1, h2, Addr.add]
 exact fun e => e.symm
section
variable {α : Type} {S : Shape α}
/-- Records behind others, with room for them: where they lie. -/
theorem own_append_in {P : Program} (st ty : TypeId) (i0 : TypeInfo) (hu : P.underlying st = some (.slice S.ty)) (hi : P.info? S.ty = some i0) (hz1 : i0.size = S.size) {w : World} {base g n cap : Nat} {zs bs : List α} (hown : OwnS S w base (.slice (some ⟨g, 0, none⟩) n cap) zs) (hn : zs.length = n) (ad : Addr) (m c : Nat) (hm : bs.length = m) (hroom : n + m ≤ cap) (hc : RdS S w (some ad) bs) :
  ∃ w', (Builtin.append_ #[st, st] ty #[.slice (some ⟨g, 0, none⟩) n cap, .slice (some ad) m c]).run P w = .ok (.slice (some ⟨g, 0, none⟩) (n + m) cap) w' ∧ OwnS S w' base (.slice (some ⟨g, 0, none⟩) (n + m) cap) (zs ++ bs) ∧ On (fun k => k ≠ g) w w' := by
 subst hn
 rcases hown.2 with ⟨e, _⟩ | ⟨g', cap', cur, e, hbg, hg, hnc, hcm, hcs, htake⟩
 · injection e with e1 _ _
   exact absurd e1 (by simp)
 · injection e with e1 e2 e3
   injection e1 with e1
   injection e1 with e1 _ _
   subst e1
   subst e3
   have hl : (S.flat bs).length = m * i0.size := by rw [S.flat_len, hm, hz1]
   have hfit : zs.length * i0.size + (S.flat bs).length ≤ cur.size := by rw [hl, hcs, hz1, ← Nat.add_mul]; exact Nat.mul_le_mul_right _ hroom
   have hr := run_append_room (P := P) w st ty S.ty i0 hu hi g zs.length cap cur hg ad m c (S.flat bs) hl hc.cells (S.flat_one _) hroom hfit
   refine ⟨_, hr, ?_, ⟨rfl, rfl, rfl, by simp, fun k hk => setRow_other w g k _ hk⟩⟩
   have hlen : (S.flat zs ++ S.flat bs).length = (zs.length + m) * S.size := by rw [List.length_append, hl, S.flat_len, hz1, ← Nat.add_mul]
   unfold OwnS
   rw [List.length_append, S.flat_append, hm]
   refine ⟨hlen, .inr ⟨g, cap, _, rfl, hbg, setRow_heap w g cur _ S.ty _ hg, hroom, hcm, ?_, ?_⟩⟩
   · simp only [List.size_toArray, List.length_append, List.length_take, List.length_drop, Array.length_toList]
     omega
   · rw [hz1, htake, ← hlen]
     exact List.take_left
/-- Cells behind the list are stored. -/
theorem own_tail {P : Program} {w : World} {base g n cap : Nat} {zs : List α} (hown : OwnS S w base (.slice (some ⟨g, 0, none⟩) n cap) zs) (hn : zs.length = n) (hroom : n + 1 ≤ cap) (vs : List Value) (hv : vs.length = S.size) (h1 : ∀ u ∈ vs, u.oneCell' = true) :
  ∃ w', (storeCells ⟨g, n * S.size, none⟩ vs).run P w = .ok () w' ∧ OwnS S w' base (.slice (some ⟨g, 0, none⟩) n cap) zs ∧ On (fun k => k ≠ g) w w' := by
 subst hn
 rcases hown.2 with ⟨e, _⟩ | ⟨g', cap', cur, e, hbg, hg, hnc, hcm, hcs, htake⟩
 · injection e with e1 _ _
   exact absurd e1 (by simp)
 · injection e with e1 e2 e3
   injection e1 with e1
   injection e1 with e1 _ _
   subst e1
   subst e3
   have hfit : zs.length * S.size + vs.length ≤ cur.size := by
    rw [hv, hcs]
    have := Nat.mul_le_mul_right S.size hroom
    rw [Nat.add_mul, Nat.one_mul] at this
    exact this
   have hr := run_storeCells_at P g (zs.length * S.size) S.ty vs 0 cur w hg (by simpa using hfit) h1
   simp only [Nat.add_zero] at hr
   refine ⟨_, hr, ?_, ⟨rfl, rfl, rfl, by simp, fun k hk => setRow_other w g k _ hk⟩⟩
   have hl : (cur.toList.take (zs.length * S.size)).length = zs.length * S.size := by rw [List.length_take, Array.length_toList]; exact Nat.min_eq_left (Nat.le_trans (Nat.le_add_right _ _) hfit)
   unfold OwnS
   refine ⟨S.flat_len zs, .inr ⟨g, cap, _, rfl, hbg, setRow_heap w g cur _ S.ty _ hg, hnc, hcm, ?_, ?_⟩⟩
   · simp only [List.size_toArray, List.length_append, List.length_take, List.length_drop, Array.length_toList]
     omega
   · rw [List.append_assoc, List.take_left' hl, htake]
/-- append in a region, by its run. -/
theorem step_append_run {P : Program} (st : TypeId) {ops : Array Oper} {o : Oper} {a : Act} {w w' : World} {v x v' : Value} {K : Act → World → Prop} {Q : Exit → Act → World → Prop} {E : Prop} (hgd : o.guard = none) (d : Nat) (hd : o.dst = some d) (s y : Operand)
  (ho : o.op = .call { callee := .builtin .append, args := #[s, y], argTypes := #[st, st] }) (hs : a.eval s = v) (hy : a.eval y = x) (hrun : (Builtin.append_ #[st, st] o.type #[v, x]).run P w = .ok v' w')
  (h : K (a.put (some d) v') w') : if Region.wanted o (yielded ops a.tmps) = true then Oper.wp P o a w K Q else E := by
 have hw : Region.wanted o (yielded ops a.tmps) = true := by simp [Region.wanted, hgd]
 rw [if_pos hw]
 unfold Oper.wp execOp
 simp only [ho, resolve, invoke, builtin, Sem.run_bind, Sem.run_pure, Result.andThen_ok, List.map_toArray, List.map_cons, List.map_nil, hs, hy, hrun]
 show K (a.put o.dst v') w'
 rw [hd]
 exact h
end
/-- clear of one saga. -/
theorem run_clearSg (w w' : World) (ty : TypeId) (g o c : Nat) (h : (storeCells ⟨g, o, none⟩ [.int .i64 0, .int .i64 0, .int .i64 0, .int .i64 0, .int .i64 0, .int .i64 0, .int .i64 0, .int .i64 0, .int .i64 0, .int .i64 0, .int .i64 0]).run Tryz.prog w = .ok () w') :
  (Builtin.clear_ #[32] ty #[.slice (some ⟨g, o, none⟩) 1 c]).run Tryz.prog w = .ok (.tuple #[]) w' := by
 have hz : ∀ W : World, (zeroValue (Tryz.prog.elem 32)).run Tryz.prog W = .ok (.agg #[.int .i64 0, .int .i64 0, .int .i64 0, .int .i64 0, .int .i64 0, .int .i64 0, .int .i64 0, .int .i64 0, .int .i64 0, .int .i64 0, .int .i64 0]) W := fun W => by kernel_rfl
 have hc : (Builtin.zeroCells (Value.agg #[.int .i64 0, .int .i64 0, .int .i64 0, .int .i64 0, .int .i64 0, .int .i64 0, .int .i64 0, .int .i64 0, .int .i64 0, .int .i64 0, .int .i64 0]).cells 1).toList = [.int .i64 0, .int .i64 0, .int .i64 0, .int .i64 0, .int .i64 0, .int .i64 0, .int .i64 0, .int .i64 0, .int .i64 0, .int .i64 0, .int .i64 0] := by simp [Builtin.zeroCells, Value.cells, List.range, List.range.loop]
 simp [Builtin.clear_, run_underlying sgs_slice, hz, hc, h]
set_option maxRecDepth 100000 in
theorem efailed_any (E : Int) (w : World) (hh : HasErr w) : Calls Tryz.prog 107 #[errV E] w fun e w' => e = .returned (.agg #[.int .i64 E, .int .i64 0]) ∧ Below w.heap.size w w' := by
 have HN := Lib.hid (fun W (hb : Below w.heap.size w W) => number_of E W (hh.below hb))
 clear hh
 go_enter Tryz.func107, Tryz.ntmps107
 go_upto_region 1 with fail
 have HB := Lib.hid ((Below.refl w.heap.size w).alloc (Nat.le_refl _) (.cells rp0 46))
 have HR := Lib.hid (Blk.new w 46 rp0)
 generalize w.alloc (.cells rp0 46) = w1 at HB HR ⊢
 generalize errV E = v at HN ⊢
 go_wp2_with fail
 refine (HN.out _ HB.out).mono ?_
 rintro _ w2 ⟨rfl, hb2⟩
 have HR2 := Lib.hid (HR.out.later hb2)
 have HB2 := Lib.hid (HB.out.trans (hb2.mono HB.out.size))
 clear hb2
 obtain ⟨y0, y1, f0, f1⟩ := (show _ ∧ _ ∧ _ ∧ _ from ⟨HR2.out.cell 0 rfl, HR2.out.cell 1 rfl, HR2.out.loose 0, HR2.out.loose 1⟩)
 go_wp2
 refine bodyPost_ret (results_cell_row (p := 2) (ty := 46) rfl _ _ w.heap.size _ _ (0, 0) _ rfl (rp_put HR2.out rfl (.int .i64 E) (.int .i64 0)) Tryz.underlying46 rfl (by kernel_rfl)) rfl ?_
 exact ⟨rfl, rp_below HB2.out (Nat.le_refl _) _ _⟩
set_option maxRecDepth 100000 in
set_option maxHeartbeats 1000000 in
theorem etold_any (V : Sv) (T : St) (sl : List Sg) (kl : List Kn) (key E I : Int) (w : World) (h : SkAt w V T sl kl) (hk : kl.length ≤ 1000000) :
  Calls Tryz.prog 110 #[V.val, .int .i64 key, .agg #[.int .i64 E, .int .i64 I]] w fun e w' => ∃ V' : Sv, e = .returned V'.val ∧ SkAt w' V' T sl (toldL kl key E I) ∧ Below w.heap.size w w' ∧ V.new V' w.heap.size := by
 have HTL := Lib.hid (fun W (hb : Below w.heap.size w W) => ktell_any V.Y V.yn V.yc kl key E I W h.yn (h.kn.below hb) (by rw [← h.yn]; omega) h.sy.nil)
 have HV_0 := Lib.hid h
 have HL_0 := Lib.hid (Below.refl w.heap.size w)
 unfold KeyRes at HTL
 unfold toldL
 obtain ⟨A0, n0, c0, B0, q0, d0, X0, xn0, xc0, Y0, yn0, yc0, t0⟩ := V
 unfold Sv.val Sv.cells
 dsimp only at HTL ⊢
 clear h hk
 by_cases he : tellE kl key = 0
 · rw [he, show errV 0 = .nilIface from rfl] at HTL
   rw [if_pos he]
   generalize tellL kl key E I = L at HTL ⊢
   clear he
   go_enter Tryz.func110, Tryz.ntmps110
   go_upto_region 1 with fail
   have al := (Below.refl w.heap.size w).alloc (Nat.le_refl _) (.cells #[.slice A0 n0 c0, .slice B0 q0 d0, .slice X0 xn0 xc0, .slice Y0 yn0 yc0, .int .i64 t0] 35)
   replace al := al.alloc (by simp; try omega) (.cells #[.int .i64 E, .int .i64 I] 46)
   replace al := al.alloc (by simp; try omega) (.cells st0 35)
   have nb0 := ((Blk.new w 35 #[.slice A0 n0 c0, .slice B0 q0 d0, .slice X0 xn0 xc0, .slice Y0 yn0 yc0, .int .i64 t0]).more (.cells #[.int .i64 E, .int .i64 I] 46)).more (.cells st0 35)
   have nb1 := (Blk.new (w.alloc (.cells #[.slice A0 n0 c0, .slice B0 q0 d0, .slice X0 xn0 xc0, .slice Y0 yn0 yc0, .int .i64 t0] 35)) 46 #[.int .i64 E, .int .i64 I]).more (.cells st0 35)
   rw [alloc_size] at nb1
   have nb2 := Blk.new ((w.alloc (.cells #[.slice A0 n0 c0, .slice B0 q0 d0, .slice X0 xn0 xc0, .slice Y0 yn0 yc0, .int .i64 t0] 35)).alloc (.cells #[.int .i64 E, .int .i64 I] 46)) 35 st0
   rw [alloc_size, alloc_size] at nb2
   have HL_1 := Lib.hid (HL_0.out.trans (al.mono HL_0.out.size))
   have HV_1 := Lib.hid (HV_0.out.below al)
   clear al HL_0 HV_0
   have S_1 := Lib.hid (nb0)
   have P_1 := Lib.hid (nb1)
   have Z_1 := Lib.hid (nb2)
   clear nb0 nb1 nb2
   generalize ((w.alloc (.cells #[.slice A0 n0 c0, .slice B0 q0 d0, .slice X0 xn0 xc0, .slice Y0 yn0 yc0, .int .i64 t0] 35)).alloc (.cells #[.int .i64 E, .int .i64 I] 46)).alloc (.cells st0 35) = w1 at HL_1 HV_1 S_1 P_1 Z_1 ⊢
   have k3 := S_1.out.cell 3 rfl
   obtain ⟨p0, p1⟩ := (show _ ∧ _ from ⟨P_1.out.cell 0 rfl, P_1.out.cell 1 rfl⟩)
   have hz1 : w.heap.size + 1 + 1 < w1.heap.size := Z_1.out.lt
   go_upto_region 2 with (first | (go_at_call 41; refine (HTL.out _ HL_1.out).mono ?_; rintro _ w2 ⟨v2, rfl, ho2, hb2⟩
                                   have HX2 := Lib.hid hb2
                                   have HO2 := Lib.hid ho2
                                   clear ho2 hb2 k3 p0 p1))
   have HL_2 := Lib.hid (HL_1.out.trans (HX2.out.mono HL_1.out.size))
   have HV_2 := Lib.hid (HV_1.out.below HX2.out)
   have S_2 := Lib.hid (S_1.out.later HX2.out)
   have P_2 := Lib.hid (P_1.out.later HX2.out)
   have Z_2 := Lib.hid (Z_1.out.later HX2.out)
   clear HL_1 HV_1 S_1 P_1 Z_1
   obtain ⟨Y2, yc2, rfl, hy1, hy2, hy3, hy4⟩ := HO2.out.form
   obtain ⟨m2, hm2⟩ : ∃ m, L.length = m := ⟨_, rfl⟩
   rw [hm2] at hy2 hy4 HO2 ⊢
   have HM2 := Lib.hid hm2
   have HYF := Lib.hid (fun b e => HO2.out.rowLt b e)
   have HY1 := Lib.hid hy1
   have HY4 := Lib.hid (show Sl Y2 m2 yc2 from ⟨hy4, hy2, hy3⟩)
   clear hm2 hy1 hy2 hy3 hy4 HO2
   have k3 := S_2.out.cell 3 rfl
   have f3 := S_2.out.loose 3
   go_upto_region 4 with fail
   have hv9 := HV_2.out.far S_2.out (thin_st _ _ _ _ _ _ _ _ _ _ _ _ _) (w' := w2.setCell ⟨w.heap.size, 3, none⟩ (.slice Y2 m2 yc2)) (fun k hk => Below.heap_setCell _ _ _ _ hk)
   have hyk : RdS known (w2.setCell ⟨w.heap.size, 3, none⟩ (.slice Y2 m2 yc2)) Y2 L := HY1.out.thin (fun a => ⟨_, _, _, rfl, rfl, rfl⟩) S_2.out (thin_st _ _ _ _ _ _ _ _ _ _ _ _ _) (fun k hk => Below.heap_setCell _ _ _ _ hk)
   have HVw := Lib.hid (show SkAt (w2.setCell ⟨w.heap.size, 3, none⟩ (.slice Y2 m2 yc2)) ⟨A0, n0, c0, B0, q0, d0, X0, xn0, xc0, Y2, m2, yc2, t0⟩ T sl L from ⟨hv9.n, hv9.q, hv9.xn, HM2.out, hv9.t, hv9.accs, hv9.pays, hv9.sag, hyk, hv9.sa, hv9.sp, hv9.sx, HY4.out⟩)
   have HSw := Lib.hid (show Blk (w2.setCell ⟨w.heap.size, 3, none⟩ (.slice Y2 m2 yc2)) w.heap.size 35 #[.slice A0 n0 c0, .slice B0 q0 d0, .slice X0 xn0 xc0, .slice Y2 m2 yc2, .int .i64 t0] from S_2.out.set 3 _)
   have HZw := Lib.hid (Z_2.out.setOther (b := w.heap.size) (by omega) 3 (.slice Y2 m2 yc2))
   have HLw := Lib.hid (HL_2.out.setCell (p := ⟨w.heap.size, 3, none⟩) (Nat.le_refl _) (.slice Y2 m2 yc2))
   clear hv9 hyk k3 f3 HY1 HY4 HL_2 HV_2 S_2 P_2 Z_2
   generalize w2.setCell ⟨w.heap.size, 3, none⟩ (.slice Y2 m2 yc2) = ww at HVw HSw HZw HLw ⊢
   obtain ⟨x0, x1, x2, x3, x4⟩ := (show _ ∧ _ ∧ _ ∧ _ ∧ _ from ⟨HSw.out.cell 0 rfl, HSw.out.cell 1 rfl, HSw.out.cell 2 rfl, HSw.out.cell 3 rfl, HSw.out.cell 4 rfl⟩)
   obtain ⟨y0, y1, y2, y3, y4⟩ := (show _ ∧ _ ∧ _ ∧ _ ∧ _ from ⟨HZw.out.cell 0 rfl, HZw.out.cell 1 rfl, HZw.out.cell 2 rfl, HZw.out.cell 3 rfl, HZw.out.cell 4 rfl⟩)
   obtain ⟨f0, f1, f2, f3, f4⟩ := (show _ ∧ _ ∧ _ ∧ _ ∧ _ from ⟨HZw.out.loose 0, HZw.out.loose 1, HZw.out.loose 2, HZw.out.loose 3, HZw.out.loose 4⟩)
   go_wp2
   have HP := st_put HZw.out rfl (.slice A0 n0 c0) (.slice B0 q0 d0) (.slice X0 xn0 xc0) (.slice Y2 m2 yc2) (.int .i64 t0)
   have HPB := st_below HLw.out (show w.heap.size ≤ w.heap.size + 1 + 1 by omega) (.slice A0 n0 c0) (.slice B0 q0 d0) (.slice X0 xn0 xc0) (.slice Y2 m2 yc2) (.int .i64 t0)
   have HPV := sk_zero HVw.out HZw.out (.slice A0 n0 c0) (.slice B0 q0 d0) (.slice X0 xn0 xc0) (.slice Y2 m2 yc2) (.int .i64 t0)
   refine bodyPost_ret (results_cell_row (p := 6) (ty := 35) rfl _ _ (w.heap.size + 1 + 1) _ _ (0, 0) _ rfl HP Tryz.underlying35 rfl (by kernel_rfl)) rfl ?_
   exact ⟨⟨A0, n0, c0, B0, q0, d0, X0, xn0, xc0, Y2, m2, yc2, t0⟩, rfl, HPV, HPB, fun p hp hq => ⟨hq.1, hq.2.1, hq.2.2.1, fun b e => hp b (by have := HYF.out b (full_own e); omega)⟩⟩
 · rw [if_neg he]
   rw [show errV (tellE kl key) = eno (tellE kl key) by rw [errV, if_neg he]] at HTL
   generalize tellE kl key = F at HTL
   generalize tellL kl key E I = L at HTL
   clear he
   go_enter Tryz.func110, Tryz.ntmps110
   go_upto_region 1 with fail
   have al := (Below.refl w.heap.size w).alloc (Nat.le_refl _) (.cells #[.slice A0 n0 c0, .slice B0 q0 d0, .slice X0 xn0 xc0, .slice Y0 yn0 yc0, .int .i64 t0] 35)
   replace al := al.alloc (by simp; try omega) (.cells #[.int .i64 E, .int .i64 I] 46)
   replace al := al.alloc (by simp; try omega) (.cells st0 35)
   have nb0 := ((Blk.new w 35 #[.slice A0 n0 c0, .slice B0 q0 d0, .slice X0 xn0 xc0, .slice Y0 yn0 yc0, .int .i64 t0]).more (.cells #[.int .i64 E, .int .i64 I] 46)).more (.cells st0 35)
   have nb1 := (Blk.new (w.alloc (.cells #[.slice A0 n0 c0, .slice B0 q0 d0, .slice X0 xn0 xc0, .slice Y0 yn0 yc0, .int .i64 t0] 35)) 46 #[.int .i64 E, .int .i64 I]).more (.cells st0 35)
   rw [alloc_size] at nb1
   have nb2 := Blk.new ((w.alloc (.cells #[.slice A0 n0 c0, .slice B0 q0 d0, .slice X0 xn0 xc0, .slice Y0 yn0 yc0, .int .i64 t0] 35)).alloc (.cells #[.int .i64 E, .int .i64 I] 46)) 35 st0
   rw [alloc_size, alloc_size] at nb2
   have HL_1 := Lib.hid (HL_0.out.trans (al.mono HL_0.out.size))
   have HV_1 := Lib.hid (HV_0.out.below al)
   clear al HL_0 HV_0
   have S_1 := Lib.hid (nb0)
   have P_1 := Lib.hid (nb1)
   have Z_1 := Lib.hid (nb2)
   clear nb0 nb1 nb2
   generalize ((w.alloc (.cells #[.slice A0 n0 c0, .slice B0 q0 d0, .slice X0 xn0 xc0, .slice Y0 yn0 yc0, .int .i64 t0] 35)).alloc (.cells #[.int .i64 E, .int .i64 I] 46)).alloc (.cells st0 35) = w1 at HL_1 HV_1 S_1 P_1 Z_1 ⊢
   have k3 := S_1.out.cell 3 rfl
   obtain ⟨p0, p1⟩ := (show _ ∧ _ from ⟨P_1.out.cell 0 rfl, P_1.out.cell 1 rfl⟩)
   have hz1 : w.heap.size + 1 + 1 < w1.heap.size := Z_1.out.lt
   go_upto_region 2 with (first | (go_at_call 41; refine (HTL.out _ HL_1.out).mono ?_; rintro _ w2 ⟨v2, rfl, ho2, hb2⟩
                                   have HX2 := Lib.hid hb2
                                   have HO2 := Lib.hid ho2
                                   clear ho2 hb2 k3 p0 p1))
   have HL_2 := Lib.hid (HL_1.out.trans (HX2.out.mono HL_1.out.size))
   have HV_2 := Lib.hid (HV_1.out.below HX2.out)
   have S_2 := Lib.hid (S_1.out.later HX2.out)
   have P_2 := Lib.hid (P_1.out.later HX2.out)
   have Z_2 := Lib.hid (Z_1.out.later HX2.out)
   clear HL_1 HV_1 S_1 P_1 Z_1
   obtain ⟨x0, x1, x2, x3, x4⟩ := (show _ ∧ _ ∧ _ ∧ _ ∧ _ from ⟨S_2.out.cell 0 rfl, S_2.out.cell 1 rfl, S_2.out.cell 2 rfl, S_2.out.cell 3 rfl, S_2.out.cell 4 rfl⟩)
   obtain ⟨y0, y1, y2, y3, y4⟩ := (show _ ∧ _ ∧ _ ∧ _ ∧ _ from ⟨Z_2.out.cell 0 rfl, Z_2.out.cell 1 rfl, Z_2.out.cell 2 rfl, Z_2.out.cell 3 rfl, Z_2.out.cell 4 rfl⟩)
   obtain ⟨f0, f1, f2, f3, f4⟩ := (show _ ∧ _ ∧ _ ∧ _ ∧ _ from ⟨Z_2.out.loose 0, Z_2.out.loose 1, Z_2.out.loose 2, Z_2.out.loose 3, Z_2.out.loose 4⟩)
   go_wp2
   have HP := st_put Z_2.out rfl (.slice A0 n0 c0) (.slice B0 q0 d0) (.slice X0 xn0 xc0) (.slice Y0 yn0 yc0) (.int .i64 t0)
   have HPB := st_below HL_2.out (show w.heap.size ≤ w.heap.size + 1 + 1 by omega) (.slice A0 n0 c0) (.slice B0 q0 d0) (.slice X0 xn0 xc0) (.slice Y0 yn0 yc0) (.int .i64 t0)
   have HPV := sk_zero HV_2.out Z_2.out (.slice A0 n0 c0) (.slice B0 q0 d0) (.slice X0 xn0 xc0) (.slice Y0 yn0 yc0) (.int .i64 t0)
   refine bodyPost_ret (results_cell_row (p := 6) (ty := 35) rfl _ _ (w.heap.size + 1 + 1) _ _ (0, 0) _ rfl HP Tryz.underlying35 rfl (by kernel_rfl)) rfl ?_
   exact ⟨⟨A0, n0, c0, B0, q0, d0, X0, xn0, xc0, Y0, yn0, yc0, t0⟩, rfl, HPV, HPB, Sv.new.refl _ _⟩
theorem On.weak {F G : Nat → Prop} {a b : World} (h : On G a b) (hF : ∀ k, F k → G k) : On F a b := ⟨h.os, h.tape, h.output, h.size, fun k hk => h.block k (hF k hk)⟩
theorem add_off (g o i : Nat) : (⟨g, o, none⟩ : Addr).add i = ⟨g, o + i, none⟩ := by unfold Addr.add; split <;> simp_all
theorem infoSg_parts : ∃ i0 : TypeInfo, Tryz.prog.info? 68 = some i0 ∧ i0.size = 11 := by
 obtain ⟨i0, hi, _, hz1, _⟩ := info_parts info_saga
 exact ⟨i0, hi, hz1⟩
set_option maxRecDepth 100000 in
set_option maxHeartbeats 1000000 in
theorem sdelete_any (xb n cap base : Nat) (sl : List Sg) (i : Nat) (w : World) (h : OwnS sagas w base (.slice (some ⟨xb, 0, none⟩) n cap) sl) (hn : sl.length = n) (hi : i < n) (hn2 : n ≤ 2000000) :
  Calls Tryz.prog 166 #[.slice (some ⟨xb, 0, none⟩) n cap, .int .i64 (i : Int), .int .i64 ((i : Int) + 1)] w fun e w' => e = .returned (.slice (some ⟨xb, 0, none⟩) (n - 1) cap) ∧ OwnS sagas w' base (.slice (some ⟨xb, 0, none⟩) (n - 1) cap) (sl.eraseIdx i) ∧ On (fun k => k ≠ xb) w w' := by
 have hnc : n ≤ cap := by
  obtain ⟨A', c', eX, z1, z2, z3, z4⟩ := h.form
  injection eX with y1 y2 y3
  subst y3
  rw [hn] at z2
  exact z2
 obtain ⟨vm, hmid⟩ := run_midSg xb n cap i hi hnc
 obtain ⟨ad, hback, had⟩ := run_backSg xb n cap (i + 1) (by omega)
 have e1 : (((i + 1 : Nat)) : Int) = (i : Int) + 1 := by omega
 simp only [e1] at hback
 have hfront := fun W => run_frontSg W (some ⟨xb, 0, none⟩) n cap i (by omega)
 obtain ⟨m, hm⟩ : ∃ m, n - 1 = m := ⟨_, rfl⟩
 obtain ⟨q, hq⟩ : ∃ q, n - (i + 1) = q := ⟨_, rfl⟩
 have hiq : i + q = m := by omega
 rw [hq] at hback
 rw [hm]
 obtain ⟨dd, htail⟩ := run_tailSg xb n cap m (by omega) hnc
 have hfo : OwnS sagas w base (.slice (some ⟨xb, 0, none⟩) i cap) (sl.take i) := h.front hn.symm i (by omega)
 have hrb : RdS sagas w (some ad) (sl.drop (i + 1)) := fun h0 => by
  rw [List.length_drop, hn] at h0
  have ha := had (by omega)
  subst ha
  refine ⟨_, rfl, fun j a hj k u hu => ?_⟩
  rw [List.getElem?_drop] at hj
  have := h.at_ hj k u hu
  rw [add_off]
  rw [show sagas.size = 11 from rfl] at this ⊢
  rw [show (i + 1) * 11 + (j * 11 + k) = (i + 1 + j) * 11 + k by omega]
  exact this
 obtain ⟨i0, hi0, hz0⟩ := infoSg_parts
 obtain ⟨w1, hrun, ho1, hon1⟩ := own_append_in (P := Tryz.prog) (S := sagas) 32 32 i0 Tryz.underlying32 hi0 hz0 hfo.drew (by rw [List.length_take]; omega) ad q (cap - (i + 1)) (by rw [List.length_drop, hn]; exact hq) (by omega) hrb.drew
 rw [hiq] at hrun ho1
 have hle : (sl.take i ++ sl.drop (i + 1)).length = m := by simp; omega
 obtain ⟨w2, hst, ho2, hon2⟩ := own_tail (P := Tryz.prog) ho1 hle (by omega) [.int .i64 0, .int .i64 0, .int .i64 0, .int .i64 0, .int .i64 0, .int .i64 0, .int .i64 0, .int .i64 0, .int .i64 0, .int .i64 0, .int .i64 0] rfl (by intro u hu; simp only [List.mem_cons, List.not_mem_nil, or_false] at hu; rcases hu with rfl | rfl | rfl | rfl | rfl | rfl | rfl | rfl | rfl | rfl | rfl <;> rfl)
 have hcl := run_clearSg w1 w2 0 xb (m * 11) dd hst
 have qe := eqF (show ¬ (i : Int) = (i : Int) + 1 by omega)
 have ho2' : OwnS sagas w2 base (.slice (some ⟨xb, 0, none⟩) m cap) (sl.eraseIdx i) := by rw [List.eraseIdx_eq_take_drop_succ]; exact ho2
 have HO2 := Lib.hid ho2'
 have HON := Lib.hid (show On (fun k => k ≠ xb) w w2 from (((On.refl (fun k => k ≠ xb) w).drew.trans hon1).trans hon2))
 have HRUN := Lib.hid hrun
 have HCL := Lib.hid hcl
 clear h hn hnc hrb hfo had hi0 hz0 hrun ho1 hon1 hst ho2 hon2 hcl ho2' hle e1
 go_enter Tryz.func166, Tryz.ntmps166
 go_upto_region 5 with fail
 refine wp_region_held_drew (S := fun _ => True) (by kernel_rfl) trivial (fun hHeld => ?_)
 refine tk 0 20 (v := ?_) ?_ ?_
 rotate_left
 · intro w' hSw
   go_simp
   (try with_reducible rfl)
 (try simp only [Act.put, sA, sB, sC])
 refine tk 1 21 (v := ?_) ?_ ?_
 rotate_left
 · intro w' hSw
   go_simp
   (try with_reducible rfl)
 (try simp only [Act.put, sA, sB, sC])
 refine tk 2 22 (v := ?_) ?_ ?_
 rotate_left
 · intro w' hSw
   go_simp
   (try with_reducible rfl)
 (try simp only [Act.put, sA, sB, sC])
 refine tk 3 23 (v := ?_) ?_ ?_
 rotate_left
 · intro w' hSw
   go_simp
   (try with_reducible rfl)
 (try simp only [Act.put, sA, sB, sC])
 refine tk 4 24 (v := ?_) ?_ ?_
 rotate_left
 · intro w' hSw
   go_simp
   (try with_reducible rfl)
 (try simp only [Act.put, sA, sB, sC])
 refine tk 5 25 (v := ?_) ?_ ?_
 rotate_left
 · intro w' hSw
   go_simp
   (try with_reducible rfl)
 (try simp only [Act.put, sA, sB, sC])
 refine wpAnyH_ready (rs := [6]) (by kernel_rfl) (by simp) ?_
 refine AllReadyH.cons (i := 6) rfl (fun K0 hK => ?_) AllReadyH.nil
 refine step_append_run 32 rfl 26 rfl (.tmp 22) (.tmp 25) rfl rfl rfl HRUN.out ?_
 refine hK.out _ _ trivial (fun hHeld => ?_)
 clear hK K0
 (try simp only [Act.put, sA, sB, sC])
 refine tk 7 0 (v := ?_) ?_ ?_
 rotate_left
 · intro w' hSw
   go_simp
   (try with_reducible rfl)
 (try simp only [Act.put, sA, sB, sC])
 refine wpAnyH_done (by kernel_rfl) ?_ _
 have hcl := HCL.out
 go_wp2
 go_ret
 exact ⟨rfl, HO2.out, HON.out⟩
set_option maxRecDepth 100000 in
set_option maxHeartbeats 1000000 in
theorem eend_any (V : Sv) (T : St) (sl : List Sg) (kl : List Kn) (i : Nat) (s : Sg) (why : Int) (base : Nat) (w : World) (h : SkAt w V T sl kl) (ha : Apart w V base sl) (hp : sl[i]? = some s) (hsl : sl.length ≤ 2000000) (hkl : kl.length ≤ 1000000) :
  Calls Tryz.prog 147 #[V.val, .int .i64 (i : Int), .int .i64 why] w (EgO w V (endO ⟨T, sl, kl⟩ i s why)) := by
 unfold endO EgO
 dsimp only
 have hi : i < sl.length := (List.getElem?_eq_some_iff.1 hp).1
 obtain ⟨xb, cap, hX, hxb, hxl, hxc, hxm⟩ := ha.own.open_ (by omega)
 obtain ⟨n, hn⟩ : ∃ n, sl.length = n := ⟨_, rfl⟩
 have HN := Lib.hid hn
 rw [hn] at hi hX hxc hsl
 obtain ⟨A0, n0, c0, B0, q0, d0, X0, xn0, xc0, Y0, yn0, yc0, t0⟩ := V
 injection hX with hX1 hX2 hX3
 dsimp only at hX1 hX2 hX3
 subst hX1 hX2 hX3
 have HFAR := Lib.hid (ha.far xb rfl)
 have HP := Lib.hid hp
 have HV_0 := Lib.hid h
 have HL_0 := Lib.hid (Below.refl w.heap.size w)
 have OW_0 := Lib.hid (show OwnS sagas w base (.slice (some ⟨xb, 0, none⟩) xn0 xc0) sl from ha.own)
 have HDL := Lib.hid (fun W (ho : OwnS sagas W base (.slice (some ⟨xb, 0, none⟩) xn0 xc0) sl) => sdelete_any xb xn0 xc0 base sl i W ho HN.out hi hsl)
 have HTD := Lib.hid (fun W V' (sl' : List Sg) (h' : SkAt W V' T sl' kl) => etold_any V' T sl' kl s.rq.key why 0 W h' hkl)
 have hw1 : wrap64 ((i : Int) + 1) = (i : Int) + 1 := w64 (by omega) (by omega)
 unfold Sv.val Sv.cells
 unfold Sv.val Sv.cells at HTD
 dsimp only at HTD ⊢
 obtain ⟨⟨k0, k1, k2, k3, k4, k5, k6⟩, ph, lg, tr, wy⟩ := s
 dsimp only at HTD ⊢
 generalize toldL kl k0 why 0 = K2 at HTD ⊢
 clear h ha hp hn
 go_enter Tryz.func147, Tryz.ntmps147
 go_upto_region 1 with fail
 have al := (Below.refl w.heap.size w).alloc (Nat.le_refl _) (.cells #[.slice A0 n0 c0, .slice B0 q0 d0, .slice (some ⟨xb, 0, none⟩) xn0 xc0, .slice Y0 yn0 yc0, .int .i64 t0] 35)
 replace al := al.alloc (by simp; try omega) (.cells st0 35)
 replace al := al.alloc (by simp; try omega) (.cells rp0 46)
 have nb0 := ((Blk.new w 35 #[.slice A0 n0 c0, .slice B0 q0 d0, .slice (some ⟨xb, 0, none⟩) xn0 xc0, .slice Y0 yn0 yc0, .int .i64 t0]).more (.cells st0 35)).more (.cells rp0 46)
 have nb1 := (Blk.new (w.alloc (.cells #[.slice A0 n0 c0, .slice B0 q0 d0, .slice (some ⟨xb, 0, none⟩) xn0 xc0, .slice Y0 yn0 yc0, .int .i64 t0] 35)) 35 st0).more (.cells rp0 46)
 rw [alloc_size] at nb1
 have nb2 := Blk.new ((w.alloc (.cells #[.slice A0 n0 c0, .slice B0 q0 d0, .slice (some ⟨xb, 0, none⟩) xn0 xc0, .slice Y0 yn0 yc0, .int .i64 t0] 35)).alloc (.cells st0 35)) 46 rp0
 rw [alloc_size, alloc_size] at nb2
 have HL_1 := Lib.hid (HL_0.out.trans (al.mono HL_0.out.size))
 have HV_1 := Lib.hid (HV_0.out.below al)
 have OW_1 := Lib.hid (OW_0.out.below al)
 clear al HL_0 HV_0 OW_0
 have S_1 := Lib.hid (nb0)
 have Z_1 := Lib.hid (nb1)
 have P_1 := Lib.hid (nb2)
 clear nb0 nb1 nb2
 generalize ((w.alloc (.cells #[.slice A0 n0 c0, .slice B0 q0 d0, .slice (some ⟨xb, 0, none⟩) xn0 xc0, .slice Y0 yn0 yc0, .int .i64 t0] 35)).alloc (.cells st0 35)).alloc (.cells rp0 46) = w1 at HL_1 HV_1 OW_1 S_1 Z_1 P_1 ⊢
 have x2 := S_1.out.cell 2 rfl
 obtain ⟨e0, e1, e2, e3, e4, e5, e6, e7, e8, e9, e10⟩ := sagas_at OW_1.out HP.out
 dsimp only at e0 e1 e2 e3 e4 e5 e6 e7 e8 e9 e10
 have hz1 : w.heap.size + 1 + 1 < w1.heap.size := P_1.out.lt
 go_upto_region 2 with fail
 clear x2 e0 e1 e2 e3 e4 e5 e6 e7 e8 e9 e10
 have al := (Below.refl w1.heap.size w1).alloc (Nat.le_refl _) (.cells #[.int .i64 k0, .int .i64 k1, .int .i64 k2, .int .i64 k3, .int .i64 k4, .int .i64 k5, .int .i64 k6, .int .i64 ph, .int .i64 lg, .int .i64 tr, .int .i64 wy] 68)
 have nb0 := Blk.new w1 68 #[.int .i64 k0, .int .i64 k1, .int .i64 k2, .int .i64 k3, .int .i64 k4, .int .i64 k5, .int .i64 k6, .int .i64 ph, .int .i64 lg, .int .i64 tr, .int .i64 wy]
 have HL_2 := Lib.hid (HL_1.out.trans (al.mono HL_1.out.size))
 have HV_2 := Lib.hid (HV_1.out.below al)
 have OW_2 := Lib.hid (OW_1.out.below al)
 have S_2 := Lib.hid (S_1.out.later al)
 have Z_2 := Lib.hid (Z_1.out.later al)
 have P_2 := Lib.hid (P_1.out.later al)
 clear al HL_1 HV_1 OW_1 S_1 Z_1 P_1
 have G_2 := Lib.hid (nb0)
 clear nb0
 generalize w1.alloc (.cells #[.int .i64 k0, .int .i64 k1, .int .i64 k2, .int .i64 k3, .int .i64 k4, .int .i64 k5, .int .i64 k6, .int .i64 ph, .int .i64 lg, .int .i64 tr, .int .i64 wy] 68) = w2 at HL_2 HV_2 OW_2 S_2 Z_2 P_2 G_2 ⊢
 generalize w1.heap.size = gs at G_2 hz1 ⊢
 have x2 := S_2.out.cell 2 rfl
 have f2 := S_2.out.loose 2
 have hlt2 : gs < w2.heap.size := G_2.out.lt
 have hne0 : xb ≠ w.heap.size := OW_2.out.ne S_2.out (by decide) xb rfl
 have hne1 : xb ≠ w.heap.size + 1 := OW_2.out.ne Z_2.out (by decide) xb rfl
 have hne2 : xb ≠ w.heap.size + 1 + 1 := OW_2.out.ne P_2.out (by decide) xb rfl
 go_upto_region 3 with (first
   | (go_at_call 166; refine (HDL.out _ OW_2.out).mono ?_; rintro _ w3 ⟨rfl, ho3, hon3⟩
      have OX := Lib.hid ho3
      have ON := Lib.hid hon3
      have xS := Lib.hid (S_2.out.away (fun k _ hk => hon3.block k hk) hne0)
      have x2 := xS.out.cell 2 rfl
      have f2 := xS.out.loose 2
      clear ho3 hon3 x2 f2
      have x2 := xS.out.cell 2 rfl
      have f2 := xS.out.loose 2))
 clear x2 f2
 have hhp : ∀ k, k < w2.heap.size → k ≠ xb → w3.heap[k]? = w2.heap[k]? := fun k _ hk => ON.out.block k hk
 obtain ⟨_, _, eX, ox1, ox2, ox3, ox4⟩ := OX.out.form
 injection eX with eX1 eX2 eX3
 subst eX1 eX3
 have hle : (sl.eraseIdx i).length = xn0 - 1 := eX2.symm
 rw [hle] at ox2 ox4
 clear eX2
 have v3 := SkAt.newX (X' := some ⟨xb, 0, none⟩) (xn' := xn0 - 1) (xc' := xc0) HV_2.out hhp HFAR.out ox1 hle (show Sl _ _ _ from ⟨ox4, ox2, ox3⟩)
 have z3 := Z_2.out.away hhp hne1
 have p3 := P_2.out.away hhp hne2
 have g3 := G_2.out.away hhp (show xb ≠ gs by omega)
 have l3 : On (fun k => k < w.heap.size ∧ (Value.slice (some ⟨xb, 0, none⟩) xn0 xc0).ownBlock ≠ some k) w w3 := (On.of HL_2.out (fun k hk => hk.1)).trans (ON.out.weak (fun k hk e => hk.2 (by rw [e]; rfl)))
 have VV_0 := Lib.hid (v3.far xS.out (thin_st _ _ _ _ _ _ _ _ _ _ _ _ _) (w' := w3.setCell ⟨w.heap.size, 2, none⟩ (.slice (some ⟨xb, 0, none⟩) (xn0 - 1) xc0)) (fun k hk => Below.heap_setCell _ _ _ _ hk))
 have S_0 := Lib.hid (show Blk (w3.setCell ⟨w.heap.size, 2, none⟩ (.slice (some ⟨xb, 0, none⟩) (xn0 - 1) xc0)) w.heap.size 35 #[.slice A0 n0 c0, .slice B0 q0 d0, .slice (some ⟨xb, 0, none⟩) (xn0 - 1) xc0, .slice Y0 yn0 yc0, .int .i64 t0] from xS.out.set 2 _)
 have Z_0 := Lib.hid (z3.setOther (b := w.heap.size) (by omega) 2 (.slice (some ⟨xb, 0, none⟩) (xn0 - 1) xc0))
 have P_0 := Lib.hid (p3.setOther (b := w.heap.size) (by omega) 2 (.slice (some ⟨xb, 0, none⟩) (xn0 - 1) xc0))
 have G_0 := Lib.hid (g3.setOther (b := w.heap.size) (by omega) 2 (.slice (some ⟨xb, 0, none⟩) (xn0 - 1) xc0))
 have LL := Lib.hid (l3.setCell (p := ⟨w.heap.size, 2, none⟩) (fun hF => Nat.lt_irrefl _ hF.1) (.slice (some ⟨xb, 0, none⟩) (xn0 - 1) xc0))
 clear v3 z3 p3 g3 l3 hhp ox1 ox2 ox3 ox4 OX ON xS HL_2 HV_2 OW_2 S_2 Z_2 P_2 G_2 HDL
 dsimp only at VV_0
 generalize w3.setCell ⟨w.heap.size, 2, none⟩ (.slice (some ⟨xb, 0, none⟩) (xn0 - 1) xc0) = w4 at VV_0 S_0 Z_0 P_0 G_0 LL ⊢
 have hsw : w.heap.size ≤ w4.heap.size := LL.out.size
 have hgs4 : gs < w4.heap.size := G_0.out.lt
 go_upto_region 4 with fail
 have LL5 := Lib.hid (LL.out.trans (On.of ((Below.refl w4.heap.size w4).alloc (Nat.le_refl _) (.cells #[.int .i64 why, .int .i64 0] 46)) (fun k hk => by have := hk.1; omega)))
 clear LL
 have al := (Below.refl w4.heap.size w4).alloc (Nat.le_refl _) (.cells #[.int .i64 why, .int .i64 0] 46)
 have nb0 := Blk.new w4 46 #[.int .i64 why, .int .i64 0]
 have VV_1 := Lib.hid (VV_0.out.below al)
 have S_1 := Lib.hid (S_0.out.later al)
 have Z_1 := Lib.hid (Z_0.out.later al)
 have P_1 := Lib.hid (P_0.out.later al)
 have G_1 := Lib.hid (G_0.out.later al)
 clear al VV_0 S_0 Z_0 P_0 G_0
 have Q_1 := Lib.hid (nb0)
 clear nb0
 generalize w4.alloc (.cells #[.int .i64 why, .int .i64 0] 46) = w5 at LL5 VV_1 S_1 Z_1 P_1 G_1 Q_1 ⊢
 generalize w4.heap.size = gq at Q_1 hsw hgs4 ⊢
 have hsw5 : w.heap.size ≤ w5.heap.size := LL5.out.size
 refine wp_region_held_drew (S := fun w' => On (fun k => k < w5.heap.size ∧ k ≠ w.heap.size + 1 ∧ k ≠ w.heap.size + 1 + 1) w5 w') (by kernel_rfl) (On.refl _ w5).drew (fun hHeld => ?_)
 refine tk 0 24 (v := ?_) ?_ ?_
 rotate_left
 · intro w' hSw
   have hSw' := hSw
   (try dsimp only at hSw')
   obtain ⟨k0, k1, k2, k3, k4⟩ := (show _ ∧ _ ∧ _ ∧ _ ∧ _ from ⟨(Blk.on S_1.out hSw' ⟨S_1.out.lt, by omega, by omega⟩).cell 0 rfl, (Blk.on S_1.out hSw' ⟨S_1.out.lt, by omega, by omega⟩).cell 1 rfl, (Blk.on S_1.out hSw' ⟨S_1.out.lt, by omega, by omega⟩).cell 2 rfl, (Blk.on S_1.out hSw' ⟨S_1.out.lt, by omega, by omega⟩).cell 3 rfl, (Blk.on S_1.out hSw' ⟨S_1.out.lt, by omega, by omega⟩).cell 4 rfl⟩)
   go_simp
   (try with_reducible rfl)
 (try simp only [Act.put, sA, sB, sC])
 refine tk 1 25 (v := ?_) ?_ ?_
 rotate_left
 · intro w' hSw
   go_simp
   (try with_reducible rfl)
 (try simp only [Act.put, sA, sB, sC])
 refine tk 2 26 (v := ?_) ?_ ?_
 rotate_left
 · intro w' hSw
   go_simp
   (try with_reducible rfl)
 (try simp only [Act.put, sA, sB, sC])
 refine tk 3 27 (v := ?_) ?_ ?_
 rotate_left
 · intro w' hSw
   have hSw' := hSw
   (try dsimp only at hSw')
   have k0' := (Blk.on G_1.out hSw' ⟨G_1.out.lt, by omega, by omega⟩).cell 0 rfl
   go_simp
   (try with_reducible rfl)
 (try simp only [Act.put, sA, sB, sC])
 refine tk 4 28 (v := ?_) ?_ ?_
 rotate_left
 · intro w' hSw
   have hSw' := hSw
   (try dsimp only at hSw')
   obtain ⟨j0, j1⟩ := (show _ ∧ _ from ⟨(Blk.on Q_1.out hSw' ⟨Q_1.out.lt, by omega, by omega⟩).cell 0 rfl, (Blk.on Q_1.out hSw' ⟨Q_1.out.lt, by omega, by omega⟩).cell 1 rfl⟩)
   go_simp
   (try with_reducible rfl)
 (try simp only [Act.put, sA, sB, sC])
 refine tk 6 30 (v := ?_) ?_ ?_
 rotate_left
 · intro w' hSw
   have hSw' := hSw
   (try dsimp only at hSw')
   obtain ⟨j0, j1⟩ := (show _ ∧ _ from ⟨(Blk.on Q_1.out hSw' ⟨Q_1.out.lt, by omega, by omega⟩).cell 0 rfl, (Blk.on Q_1.out hSw' ⟨Q_1.out.lt, by omega, by omega⟩).cell 1 rfl⟩)
   go_simp
   (try with_reducible rfl)
 (try simp only [Act.put, sA, sB, sC])
 have hbd : Below w5.heap.size w5 w5.drew := (Below.refl _ _).drew
 have LL6 := Lib.hid (LL5.out.trans (On.of hbd (fun k hk => by have := hk.1; have := LL5.out.size; omega)))
 have VV_2 := Lib.hid (VV_1.out.below hbd)
 have S_2 := Lib.hid (S_1.out.later hbd)
 have Z_2 := Lib.hid (Z_1.out.later hbd)
 have P_2 := Lib.hid (P_1.out.later hbd)
 have G_2 := Lib.hid (G_1.out.later hbd)
 have Q_2 := Lib.hid (Q_1.out.later hbd)
 clear VV_1 S_1 Z_1 P_1 G_1 Q_1
 have hzd : w5.drew.heap.size = w5.heap.size := rfl
 clear hbd LL5
 generalize w5.drew = wd at LL6 hHeld hzd VV_2 S_2 Z_2 P_2 G_2 Q_2 ⊢
 have HZD := Lib.hid hzd
 clear hzd
 refine wpAnyH_ready (rs := [5]) (by kernel_rfl) (by simp) ?_
 refine AllReadyH.cons (i := 5) rfl (fun K0 hK => ?_) AllReadyH.nil
 go_simp
 go_at_call 110
 refine (HTD.out wd ⟨A0, n0, c0, B0, q0, d0, some ⟨xb, 0, none⟩, xn0 - 1, xc0, Y0, yn0, yc0, t0⟩ (sl.eraseIdx i) VV_2.out).mono ?_
 rintro _ w6 ⟨V2, rfl, hv, hb, hnw⟩
 obtain ⟨A2, n2, c2, B2, q2, d2, X2, xn2, xc2, Y2, yn2, yc2, t2⟩ := V2
 dsimp only at hv ⊢
 have HV6 := Lib.hid hv
 have HNW := Lib.hid hnw
 have LL7 := Lib.hid (LL6.out.trans (On.of hb (fun k hk => by have := hk.1; have := LL6.out.size; omega)))
 clear VV_2
 have S_3 := Lib.hid (S_2.out.later hb)
 have Z_3 := Lib.hid (Z_2.out.later hb)
 have P_3 := Lib.hid (P_2.out.later hb)
 have G_3 := Lib.hid (G_2.out.later hb)
 have Q_3 := Lib.hid (Q_2.out.later hb)
 clear S_2 Z_2 P_2 G_2 Q_2
 have hH6 : On (fun k => k < w5.heap.size ∧ k ≠ w.heap.size + 1 ∧ k ≠ w.heap.size + 1 + 1) w5 w6 := hHeld.trans (On.of hb (fun k hk => by have := hk.1; have := HZD.out; omega))
 clear hv hb hnw LL6
 refine hK.out _ _ hH6 (fun hHeld => ?_)
 clear hK K0
 (try simp only [Act.put, sA, sB, sC])
 clear hH6
 obtain ⟨y0, y1, y2, y3, y4⟩ := (show _ ∧ _ ∧ _ ∧ _ ∧ _ from ⟨Z_3.out.cell 0 rfl, Z_3.out.cell 1 rfl, Z_3.out.cell 2 rfl, Z_3.out.cell 3 rfl, Z_3.out.cell 4 rfl⟩)
 obtain ⟨f0, f1, f2, f3, f4⟩ := (show _ ∧ _ ∧ _ ∧ _ ∧ _ from ⟨Z_3.out.loose 0, Z_3.out.loose 1, Z_3.out.loose 2, Z_3.out.loose 3, Z_3.out.loose 4⟩)
 refine wpAnyH_ready (rs := [7]) (by kernel_rfl) (by simp) ?_
 refine AllReadyH.cons (i := 7) rfl (fun K0 hK => ?_) AllReadyH.nil
 go_simp
 refine hK.out _ (((((w6.setCell ⟨w.heap.size + 1, 0, none⟩ (.slice A2 n2 c2)).setCell ⟨w.heap.size + 1, 1, none⟩ (.slice B2 q2 d2)).setCell ⟨w.heap.size + 1, 2, none⟩ (.slice X2 xn2 xc2)).setCell ⟨w.heap.size + 1, 3, none⟩ (.slice Y2 yn2 yc2)).setCell ⟨w.heap.size + 1, 4, none⟩ (.int .i64 t2)) (est_on hHeld (fun e => e.2.1 rfl) (.slice A2 n2 c2) (.slice B2 q2 d2) (.slice X2 xn2 xc2) (.slice Y2 yn2 yc2) (.int .i64 t2)) (fun hHeld => ?_)
 clear hK K0
 (try simp only [Act.put, sA, sB, sC])
 clear y0 y1 y2 y3 y4 f0 f1 f2 f3 f4
 have p8 := st_other P_3.out (show w.heap.size + 1 ≠ w.heap.size + 1 + 1 by omega) (.slice A2 n2 c2) (.slice B2 q2 d2) (.slice X2 xn2 xc2) (.slice Y2 yn2 yc2) (.int .i64 t2)
 obtain ⟨z0, z1⟩ := (show _ ∧ _ from ⟨p8.cell 0 rfl, p8.cell 1 rfl⟩)
 obtain ⟨e0, e1⟩ := (show _ ∧ _ from ⟨p8.loose 0, p8.loose 1⟩)
 refine wpAnyH_ready (rs := [8]) (by kernel_rfl) (by simp) ?_
 refine AllReadyH.cons (i := 8) rfl (fun K0 hK => ?_) AllReadyH.nil
 go_simp
 refine hK.out _ (((((((w6.setCell ⟨w.heap.size + 1, 0, none⟩ (.slice A2 n2 c2)).setCell ⟨w.heap.size + 1, 1, none⟩ (.slice B2 q2 d2)).setCell ⟨w.heap.size + 1, 2, none⟩ (.slice X2 xn2 xc2)).setCell ⟨w.heap.size + 1, 3, none⟩ (.slice Y2 yn2 yc2)).setCell ⟨w.heap.size + 1, 4, none⟩ (.int .i64 t2)).setCell ⟨w.heap.size + 1 + 1, 0, none⟩ (.int .i64 why)).setCell ⟨w.heap.size + 1 + 1, 1, none⟩ (.int .i64 0)) (erp_on hHeld (fun e => e.2.2 rfl) _ _) (fun hHeld => ?_)
 clear hK K0
 (try simp only [Act.put, sA, sB, sC])
 refine wpAnyH_done (by kernel_rfl) ?_ _
 clear hHeld z0 z1 e0 e1
 go_wp2
 have HT2 := rp_other (st_put Z_3.out rfl (.slice A2 n2 c2) (.slice B2 q2 d2) (.slice X2 xn2 xc2) (.slice Y2 yn2 yc2) (.int .i64 t2)) (show w.heap.size + 1 + 1 ≠ w.heap.size + 1 by omega) (.int .i64 why) (.int .i64 0)
 have HT3 := rp_put p8 rfl (.int .i64 why) (.int .i64 0)
 have HTV := sk_rp (sk_zero HV6.out Z_3.out (.slice A2 n2 c2) (.slice B2 q2 d2) (.slice X2 xn2 xc2) (.slice Y2 yn2 yc2) (.int .i64 t2)) p8 (.int .i64 why) (.int .i64 0)
 have HTO := erp_on (est_on LL7.out (g := w.heap.size + 1) (fun hF => by have := hF.1; omega) (.slice A2 n2 c2) (.slice B2 q2 d2) (.slice X2 xn2 xc2) (.slice Y2 yn2 yc2) (.int .i64 t2)) (g := w.heap.size + 1 + 1) (fun hF => by have := hF.1; omega) (.int .i64 why) (.int .i64 0)
 refine bodyPost_ret (results_two (p := 6) (q := 7) (ty := 35) (tz := 46) rfl _ _ (w.heap.size + 1) (w.heap.size + 1 + 1) _ _ _ _ (0, 0) _ _ rfl HT2 Tryz.underlying35 rfl (by kernel_rfl) rfl HT3 Tryz.underlying46 rfl (by kernel_rfl)) rfl ?_
 exact ⟨⟨A2, n2, c2, B2, q2, d2, X2, xn2, xc2, Y2, yn2, yc2, t2⟩, rfl, HTV, HTO, fun p hp hq => HNW.out p (fun b hb => hp b (by have := HZD.out; omega)) ⟨hq.1, hq.2.1, fun b e => hq.2.2.1 b (by obtain ⟨h0, a, ea, hab⟩ := full_form e; rw [← hab]; exact full_some (show 0 < xn0 by have h1 : 0 < xn0 - 1 := h0; omega) ea), hq.2.2.2⟩⟩
set_option maxRecDepth 100000 in
set_option maxHeartbeats 2000000 in
theorem eundo_any (V : Sv) (T : St) (sl : List Sg) (kl : List Kn) (i : Nat) (s : Sg) (base : Nat) (w : World) (h : SkAt w V T sl kl) (ha : Apart w V base sl) (hbase : base ≤ w.heap.size) (hp : sl[i]? = some s) (hf : Fits T sl kl) (hkl : kl.length ≤ 1000000) :
  Calls Tryz.prog 113 #[V.val, .int .i64 (i : Int)] w (EgB w base V (endO ⟨undS T s.rq, sl, kl⟩ i s s.why)) := by
 have HUN := Lib.hid (fun W (hb : Below w.heap.size w W) => oundo_own V T sl kl s.rq W (h.below hb) hf)
 have HEN := Lib.hid (fun W V' (h' : SkAt W V' (undS T s.rq) sl kl) (ha' : Apart W V' base sl) => eend_any V' (undS T s.rq) sl kl i s s.why base W h' ha' hp hf.sl hkl)
 generalize undS T s.rq = T3 at HUN HEN ⊢
 generalize undE T s.rq = E3 at HUN
 have HP := Lib.hid hp
 have HV_0 := Lib.hid h
 have AP_0 := Lib.hid ha
 have HL_0 := Lib.hid (Below.refl w.heap.size w)
 have hfs := hf.sl
 have hgo := fun W V' (h' : SkAt W V' T sl kl) (ha' : Apart W V' base sl) (g : Sg) => egoon_any V' T sl kl i g base W h' ha' (List.getElem?_eq_some_iff.1 hp).1 hfs
 unfold SkEA at HUN
 unfold EgO at HEN
 unfold EgB endO
 obtain ⟨A0, n0, c0, B0, q0, d0, X0, xn0, xc0, Y0, yn0, yc0, t0⟩ := V
 obtain ⟨⟨k0, k1, k2, k3, k4, k5, k6⟩, ph, lg, tr, wy⟩ := s
 unfold Sv.val Sv.cells Rq.val at HUN
 unfold Sv.val Sv.cells endO at HEN
 unfold Sv.val Sv.cells
 dsimp only at HUN HEN ⊢
 obtain ⟨ad, hX, hat0⟩ := h.sag.at_ hp
 dsimp only at hX
 subst hX
 clear h ha hp hf hat0
 go_enter Tryz.func113, Tryz.ntmps113
 go_upto_region 1 with fail
 have al := (Below.refl w.heap.size w).alloc (Nat.le_refl _) (.cells #[.slice A0 n0 c0, .slice B0 q0 d0, .slice (some ad) xn0 xc0, .slice Y0 yn0 yc0, .int .i64 t0] 35)
 replace al := al.alloc (by simp; try omega) (.cells st0 35)
 replace al := al.alloc (by simp; try omega) (.cells rp0 46)
 have nb0 := ((Blk.new w 35 #[.slice A0 n0 c0, .slice B0 q0 d0, .slice (some ad) xn0 xc0, .slice Y0 yn0 yc0, .int .i64 t0]).more (.cells st0 35)).more (.cells rp0 46)
 have nb1 := (Blk.new (w.alloc (.cells #[.slice A0 n0 c0, .slice B0 q0 d0, .slice (some ad) xn0 xc0, .slice Y0 yn0 yc0, .int .i64 t0] 35)) 35 st0).more (.cells rp0 46)
 rw [alloc_size] at nb1
 have nb2 := Blk.new ((w.alloc (.cells #[.slice A0 n0 c0, .slice B0 q0 d0, .slice (some ad) xn0 xc0, .slice Y0 yn0 yc0, .int .i64 t0] 35)).alloc (.cells st0 35)) 46 rp0
 rw [alloc_size, alloc_size] at nb2
 have HL_1 := Lib.hid (HL_0.out.trans (al.mono HL_0.out.size))
 have HV_1 := Lib.hid (HV_0.out.below al)
 have AP_1 := Lib.hid (AP_0.out.below al)
 clear al HL_0 HV_0 AP_0
 have S_1 := Lib.hid (nb0)
 have Z_1 := Lib.hid (nb1)
 have P_1 := Lib.hid (nb2)
 clear nb0 nb1 nb2
 generalize ((w.alloc (.cells #[.slice A0 n0 c0, .slice B0 q0 d0, .slice (some ad) xn0 xc0, .slice Y0 yn0 yc0, .int .i64 t0] 35)).alloc (.cells st0 35)).alloc (.cells rp0 46) = w1 at HL_1 HV_1 AP_1 S_1 Z_1 P_1 ⊢
 have x2 := S_1.out.cell 2 rfl
 obtain ⟨ad2, eX, hat1⟩ := HV_1.out.sag.at_ HP.out
 injection eX with eX
 subst eX
 obtain ⟨e0, e1, e2, e3, e4, e5, e6, e7, e8, e9, e10⟩ := sg_cells hat1
 dsimp only at e0 e1 e2 e3 e4 e5 e6 e7 e8 e9 e10
 have hz1 : w.heap.size + 1 + 1 < w1.heap.size := P_1.out.lt
 have hii : (i : Int) < (xn0 : Int) := by have h1 := (List.getElem?_eq_some_iff.1 HP.out).1; have h2 := HV_1.out.xn; dsimp only at h2; omega
 go_upto_region 2 with fail
 clear x2 hat1 e0 e1 e2 e3 e4 e5 e6 e7 e8 e9 e10
 have al := (Below.refl w1.heap.size w1).alloc (Nat.le_refl _) (.cells #[.int .i64 k0, .int .i64 k1, .int .i64 k2, .int .i64 k3, .int .i64 k4, .int .i64 k5, .int .i64 k6, .int .i64 ph, .int .i64 lg, .int .i64 tr, .int .i64 wy] 68)
 have nb0 := Blk.new w1 68 #[.int .i64 k0, .int .i64 k1, .int .i64 k2, .int .i64 k3, .int .i64 k4, .int .i64 k5, .int .i64 k6, .int .i64 ph, .int .i64 lg, .int .i64 tr, .int .i64 wy]
 have HL_2 := Lib.hid (HL_1.out.trans (al.mono HL_1.out.size))
 have HV_2 := Lib.hid (HV_1.out.below al)
 have AP_2 := Lib.hid (AP_1.out.below al)
 have S_2 := Lib.hid (S_1.out.later al)
 have Z_2 := Lib.hid (Z_1.out.later al)
 have P_2 := Lib.hid (P_1.out.later al)
 clear al HL_1 HV_1 AP_1 S_1 Z_1 P_1
 have G_2 := Lib.hid (nb0)
 clear nb0
 generalize w1.alloc (.cells #[.int .i64 k0, .int .i64 k1, .int .i64 k2, .int .i64 k3, .int .i64 k4, .int .i64 k5, .int .i64 k6, .int .i64 ph, .int .i64 lg, .int .i64 tr, .int .i64 wy] 68) = w2 at HL_2 HV_2 AP_2 S_2 Z_2 P_2 G_2 ⊢
 generalize w1.heap.size = gs at G_2 hz1 ⊢
 obtain ⟨x0, x1, x2, x3, x4⟩ := (show _ ∧ _ ∧ _ ∧ _ ∧ _ from ⟨S_2.out.cell 0 rfl, S_2.out.cell 1 rfl, S_2.out.cell 2 rfl, S_2.out.cell 3 rfl, S_2.out.cell 4 rfl⟩)
 obtain ⟨h0, h1, h2, h3, h4, h5, h6⟩ := (show _ ∧ _ ∧ _ ∧ _ ∧ _ ∧ _ ∧ _ from ⟨G_2.out.cell 0 rfl, G_2.out.cell 1 rfl, G_2.out.cell 2 rfl, G_2.out.cell 3 rfl, G_2.out.cell 4 rfl, G_2.out.cell 5 rfl, G_2.out.cell 6 rfl⟩)
 go_upto_region 3 with (first
   | (go_at_call 143; refine (HUN.out _ HL_2.out).mono ?_; rintro _ w3 ⟨V3, rfl, hv, hb, hn, hap⟩
      obtain ⟨A3, n3, c3, B3, q3, d3, X3, xn3, xc3, Y3, yn3, yc3, t3⟩ := V3
      dsimp only at hv hn hap ⊢
      have HVa := Lib.hid hv
      have HXa := Lib.hid hb
      have HNa := Lib.hid hn
      have HAa := Lib.hid (hap base (by have := HL_2.out.size; omega) AP_2.out)
      clear hv hb hn hap x0 x1 x2 x3 x4 h0 h1 h2 h3 h4 h5 h6))
 have hsw2 := HL_2.out.size
 have HL_3 := Lib.hid (HL_2.out.trans (HXa.out.mono HL_2.out.size))
 have HV_3 := Lib.hid (HV_2.out.below HXa.out)
 have AP_3 := Lib.hid (AP_2.out.below HXa.out)
 have S_3 := Lib.hid (S_2.out.later HXa.out)
 have Z_3 := Lib.hid (Z_2.out.later HXa.out)
 have P_3 := Lib.hid (P_2.out.later HXa.out)
 have G_3 := Lib.hid (G_2.out.later HXa.out)
 clear HL_2 HV_2 AP_2 S_2 Z_2 P_2 G_2
 have HW_3 := Lib.hid (HVa.out)
 have AW_3 := Lib.hid (HAa.out)
 clear HVa HAa HXa HUN
 have hsw3 := HL_3.out.size
 have al := (Below.refl w3.heap.size w3).alloc (Nat.le_refl _) (.cells #[.slice A3 n3 c3, .slice B3 q3 d3, .slice X3 xn3 xc3, .slice Y3 yn3 yc3, .int .i64 t3] 35)
 have nb0 := Blk.new w3 35 #[.slice A3 n3 c3, .slice B3 q3 d3, .slice X3 xn3 xc3, .slice Y3 yn3 yc3, .int .i64 t3]
 have HL_4 := Lib.hid (HL_3.out.trans (al.mono HL_3.out.size))
 have HV_4 := Lib.hid (HV_3.out.below al)
 have AP_4 := Lib.hid (AP_3.out.below al)
 have S_4 := Lib.hid (S_3.out.later al)
 have Z_4 := Lib.hid (Z_3.out.later al)
 have P_4 := Lib.hid (P_3.out.later al)
 have G_4 := Lib.hid (G_3.out.later al)
 have HW_4 := Lib.hid (HW_3.out.below al)
 have AW_4 := Lib.hid (AW_3.out.below al)
 clear al HL_3 HV_3 AP_3 S_3 Z_3 P_3 G_3 HW_3 AW_3
 have U_4 := Lib.hid (nb0)
 clear nb0
 generalize w3.alloc (.cells #[.slice A3 n3 c3, .slice B3 q3 d3, .slice X3 xn3 xc3, .slice Y3 yn3 yc3, .int .i64 t3] 35) = w4 at HL_4 HV_4 AP_4 S_4 Z_4 P_4 G_4 HW_4 AW_4 U_4 ⊢
 generalize w3.heap.size = gu at U_4 hsw3 ⊢
 have hsw4 := HL_4.out.size
 have DE := Lib.hid (HEN.out w4 ⟨A3, n3, c3, B3, q3, d3, X3, xn3, xc3, Y3, yn3, yc3, t3⟩ HW_4.out AW_4.out)
 dsimp only at DE
 obtain ⟨x0, x1, x2, x3, x4⟩ := (show _ ∧ _ ∧ _ ∧ _ ∧ _ from ⟨U_4.out.cell 0 rfl, U_4.out.cell 1 rfl, U_4.out.cell 2 rfl, U_4.out.cell 3 rfl, U_4.out.cell 4 rfl⟩)
 have h10 := G_4.out.cell 10 rfl
 go_wp2_with (first
   | (go_at_call 147; refine DE.out.mono ?_; rintro _ w5 ⟨V5, rfl, hv, hon, hnw⟩
      obtain ⟨A5, n5, c5, B5, q5, d5, X5, xn5, xc5, Y5, yn5, yc5, t5⟩ := V5
      dsimp only at hv hon hnw ⊢
      have HV5 := Lib.hid hv
      have HNW := Lib.hid hnw
      have L5 := Lib.hid ((HL_4.out.mono hbase).trans (hon.below (B := base) (fun k hk => ⟨by omega, fun e => by have := AW_4.out.own.rowLt k e; omega⟩)))
      have Z5 := Lib.hid (Blk.on Z_4.out hon ⟨Z_4.out.lt, fun e => AW_4.out.own.ne Z_4.out (by decide) _ e rfl⟩)
      have P5 := Lib.hid (Blk.on P_4.out hon ⟨P_4.out.lt, fun e => AW_4.out.own.ne P_4.out (by decide) _ e rfl⟩)
      obtain ⟨y0, y1, y2, y3, y4⟩ := (show _ ∧ _ ∧ _ ∧ _ ∧ _ from ⟨Z5.out.cell 0 rfl, Z5.out.cell 1 rfl, Z5.out.cell 2 rfl, Z5.out.cell 3 rfl, Z5.out.cell 4 rfl⟩)
      obtain ⟨f0, f1, f2, f3, f4⟩ := (show _ ∧ _ ∧ _ ∧ _ ∧ _ from ⟨Z5.out.loose 0, Z5.out.loose 1, Z5.out.loose 2, Z5.out.loose 3, Z5.out.loose 4⟩)
      obtain ⟨z0, z1⟩ := (show _ ∧ _ from ⟨P5.out.cell 0 rfl, P5.out.cell 1 rfl⟩)
      obtain ⟨e0, e1⟩ := (show _ ∧ _ from ⟨P5.out.loose 0, P5.out.loose 1⟩)
      clear hv hon hnw x0 x1 x2 x3 x4))
 have HT2 := rp_other (st_put Z5.out rfl (.slice A5 n5 c5) (.slice B5 q5 d5) (.slice X5 xn5 xc5) (.slice Y5 yn5 yc5) (.int .i64 t5)) (show w.heap.size + 1 + 1 ≠ w.heap.size + 1 by omega) (.int .i64 wy) (.int .i64 0)
 have P6 := st_other P5.out (show w.heap.size + 1 ≠ w.heap.size + 1 + 1 by omega) (.slice A5 n5 c5) (.slice B5 q5 d5) (.slice X5 xn5 xc5) (.slice Y5 yn5 yc5) (.int .i64 t5)
 have HT3 := rp_put P6 rfl (.int .i64 wy) (.int .i64 0)
 have HTV := sk_rp (sk_zero HV5.out Z5.out (.slice A5 n5 c5) (.slice B5 q5 d5) (.slice X5 xn5 xc5) (.slice Y5 yn5 yc5) (.int .i64 t5)) P6 (.int .i64 wy) (.int .i64 0)
 have HTB := rp_below (st_below L5.out (show base ≤ w.heap.size + 1 by omega) (.slice A5 n5 c5) (.slice B5 q5 d5) (.slice X5 xn5 xc5) (.slice Y5 yn5 yc5) (.int .i64 t5)) (show base ≤ w.heap.size + 1 + 1 by omega) (.int .i64 wy) (.int .i64 0)
 refine bodyPost_ret (results_two (p := 4) (q := 5) (ty := 35) (tz := 46) rfl _ _ (w.heap.size + 1) (w.heap.size + 1 + 1) _ _ _ _ (0, 0) _ _ rfl HT2 Tryz.underlying35 rfl (by kernel_rfl) rfl HT3 Tryz.underlying46 rfl (by kernel_rfl)) rfl ?_
 exact ⟨⟨A5, n5, c5, B5, q5, d5, X5, xn5, xc5, Y5, yn5, yc5, t5⟩, rfl, HTV, HTB, fun p hp hq => HNW.out p (fun b hb => hp b (by omega)) (HNa.out p (fun b hb => hp b (by omega)) hq)⟩
set_option maxRecDepth 100000 in
set_option maxHeartbeats 2000000 in
theorem esettle_any (V : Sv) (T : St) (sl : List Sg) (kl : List Kn) (i : Nat) (s : Sg) (base : Nat) (w : World) (h : SkAt w V T sl kl) (ha : Apart w V base sl) (hbase : base ≤ w.heap.size) (hp : sl[i]? = some s) (hf : Fits T sl kl) (hkl : kl.length ≤ 1000000) (hh : HasErr w) :
  Calls Tryz.prog 115 #[V.val, .int .i64 (i : Int)] w (EgB w base V (if setE T s.rq = 0 then endO ⟨setS T s.rq, sl, kl⟩ i s 0 else goO ⟨T, sl, kl⟩ i (turnS s (setE T s.rq)))) := by
 have HUN := Lib.hid (fun W (hb : Below w.heap.size w W) => osettle_own V T sl kl s.rq W (h.below hb) hf)
 have HEN := Lib.hid (fun W V' (h' : SkAt W V' (setS T s.rq) sl kl) (ha' : Apart W V' base sl) => eend_any V' (setS T s.rq) sl kl i s 0 base W h' ha' hp hf.sl hkl)
 have HTN := Lib.hid (fun W => sturn_any s (setE T s.rq) W)
 have HNB := Lib.hid (fun W (hb : Below w.heap.size w W) => number_of (setE T s.rq) W (hh.below hb))
 generalize setS T s.rq = T3 at HUN HEN ⊢
 generalize setE T s.rq = E3 at HUN HTN HNB ⊢
 clear hh
 have HP := Lib.hid hp
 have HV_0 := Lib.hid h
 have AP_0 := Lib.hid ha
 have HL_0 := Lib.hid (Below.refl w.heap.size w)
 have hfs := hf.sl
 have hgo := fun W V' (h' : SkAt W V' T sl kl) (ha' : Apart W V' base sl) (g : Sg) => egoon_any V' T sl kl i g base W h' ha' (List.getElem?_eq_some_iff.1 hp).1 hfs
 unfold SkEA at HUN
 unfold EgO at HEN
 unfold EgB endO
 unfold SgRes at HTN
 generalize htn : turnS s E3 = tn at HTN ⊢
 clear htn
 have HGO := Lib.hid (fun W V' (h' : SkAt W V' T sl kl) (ha' : Apart W V' base sl) => hgo W V' h' ha' tn)
 unfold EgO at HGO
 clear hgo
 obtain ⟨A0, n0, c0, B0, q0, d0, X0, xn0, xc0, Y0, yn0, yc0, t0⟩ := V
 obtain ⟨⟨k0, k1, k2, k3, k4, k5, k6⟩, ph, lg, tr, wy⟩ := s
 unfold Sv.val Sv.cells Rq.val at HUN
 unfold Sv.val Sv.cells endO at HEN
 unfold Sv.val Sv.cells goO at HGO
 unfold goO
 unfold Sg.val at HTN HGO
 unfold Sv.val Sv.cells
 dsimp only at HUN HEN HGO HTN ⊢
 obtain ⟨ad, hX, hat0⟩ := h.sag.at_ hp
 dsimp only at hX
 subst hX
 clear h ha hp hf hat0
 by_cases he : E3 = 0
 · subst he
   rw [show errV 0 = .nilIface from rfl] at HUN
   rw [if_pos rfl]
   clear HGO HTN HNB
   go_enter Tryz.func115, Tryz.ntmps115
   go_upto_region 1 with fail
   have al := (Below.refl w.heap.size w).alloc (Nat.le_refl _) (.cells #[.slice A0 n0 c0, .slice B0 q0 d0, .slice (some ad) xn0 xc0, .slice Y0 yn0 yc0, .int .i64 t0] 35)
   replace al := al.alloc (by simp; try omega) (.cells st0 35)
   replace al := al.alloc (by simp; try omega) (.cells rp0 46)
   have nb0 := ((Blk.new w 35 #[.slice A0 n0 c0, .slice B0 q0 d0, .slice (some ad) xn0 xc0, .slice Y0 yn0 yc0, .int .i64 t0]).more (.cells st0 35)).more (.cells rp0 46)
   have nb1 := (Blk.new (w.alloc (.cells #[.slice A0 n0 c0, .slice B0 q0 d0, .slice (some ad) xn0 xc0, .slice Y0 yn0 yc0, .int .i64 t0] 35)) 35 st0).more (.cells rp0 46)
   rw [alloc_size] at nb1
   have nb2 := Blk.new ((w.alloc (.cells #[.slice A0 n0 c0, .slice B0 q0 d0, .slice (some ad) xn0 xc0, .slice Y0 yn0 yc0, .int .i64 t0] 35)).alloc (.cells st0 35)) 46 rp0
   rw [alloc_size, alloc_size] at nb2
   have HL_1 := Lib.hid (HL_0.out.trans (al.mono HL_0.out.size))
   have HV_1 := Lib.hid (HV_0.out.below al)
   have AP_1 := Lib.hid (AP_0.out.below al)
   clear al HL_0 HV_0 AP_0
   have S_1 := Lib.hid (nb0)
   have Z_1 := Lib.hid (nb1)
   have P_1 := Lib.hid (nb2)
   clear nb0 nb1 nb2
   generalize ((w.alloc (.cells #[.slice A0 n0 c0, .slice B0 q0 d0, .slice (some ad) xn0 xc0, .slice Y0 yn0 yc0, .int .i64 t0] 35)).alloc (.cells st0 35)).alloc (.cells rp0 46) = w1 at HL_1 HV_1 AP_1 S_1 Z_1 P_1 ⊢
   have x2 := S_1.out.cell 2 rfl
   obtain ⟨ad2, eX, hat1⟩ := HV_1.out.sag.at_ HP.out
   injection eX with eX
   subst eX
   obtain ⟨e0, e1, e2, e3, e4, e5, e6, e7, e8, e9, e10⟩ := sg_cells hat1
   dsimp only at e0 e1 e2 e3 e4 e5 e6 e7 e8 e9 e10
   have hz1 : w.heap.size + 1 + 1 < w1.heap.size := P_1.out.lt
   have hii : (i : Int) < (xn0 : Int) := by have h1 := (List.getElem?_eq_some_iff.1 HP.out).1; have h2 := HV_1.out.xn; dsimp only at h2; omega
   go_upto_region 2 with fail
   clear x2 hat1 e0 e1 e2 e3 e4 e5 e6 e7 e8 e9 e10
   have al := (Below.refl w1.heap.size w1).alloc (Nat.le_refl _) (.cells #[.int .i64 k0, .int .i64 k1, .int .i64 k2, .int .i64 k3, .int .i64 k4, .int .i64 k5, .int .i64 k6, .int .i64 ph, .int .i64 lg, .int .i64 tr, .int .i64 wy] 68)
   have nb0 := Blk.new w1 68 #[.int .i64 k0, .int .i64 k1, .int .i64 k2, .int .i64 k3, .int .i64 k4, .int .i64 k5, .int .i64 k6, .int .i64 ph, .int .i64 lg, .int .i64 tr, .int .i64 wy]
   have HL_2 := Lib.hid (HL_1.out.trans (al.mono HL_1.out.size))
   have HV_2 := Lib.hid (HV_1.out.below al)
   have AP_2 := Lib.hid (AP_1.out.below al)
   have S_2 := Lib.hid (S_1.out.later al)
   have Z_2 := Lib.hid (Z_1.out.later al)
   have P_2 := Lib.hid (P_1.out.later al)
   clear al HL_1 HV_1 AP_1 S_1 Z_1 P_1
   have G_2 := Lib.hid (nb0)
   clear nb0
   generalize w1.alloc (.cells #[.int .i64 k0, .int .i64 k1, .int .i64 k2, .int .i64 k3, .int .i64 k4, .int .i64 k5, .int .i64 k6, .int .i64 ph, .int .i64 lg, .int .i64 tr, .int .i64 wy] 68) = w2 at HL_2 HV_2 AP_2 S_2 Z_2 P_2 G_2 ⊢
   generalize w1.heap.size = gs at G_2 hz1 ⊢
   obtain ⟨x0, x1, x2, x3, x4⟩ := (show _ ∧ _ ∧ _ ∧ _ ∧ _ from ⟨S_2.out.cell 0 rfl, S_2.out.cell 1 rfl, S_2.out.cell 2 rfl, S_2.out.cell 3 rfl, S_2.out.cell 4 rfl⟩)
   obtain ⟨h0, h1, h2, h3, h4, h5, h6⟩ := (show _ ∧ _ ∧ _ ∧ _ ∧ _ ∧ _ ∧ _ from ⟨G_2.out.cell 0 rfl, G_2.out.cell 1 rfl, G_2.out.cell 2 rfl, G_2.out.cell 3 rfl, G_2.out.cell 4 rfl, G_2.out.cell 5 rfl, G_2.out.cell 6 rfl⟩)
   go_upto_region 3 with (first
     | (go_at_call 106; refine (HUN.out _ HL_2.out).mono ?_; rintro _ w3 ⟨V3, rfl, hv, hb, hn, hap⟩
        obtain ⟨A3, n3, c3, B3, q3, d3, X3, xn3, xc3, Y3, yn3, yc3, t3⟩ := V3
        dsimp only at hv hn hap ⊢
        have HVa := Lib.hid hv
        have HXa := Lib.hid hb
        have HNa := Lib.hid hn
        have HAa := Lib.hid (hap base (by have := HL_2.out.size; omega) AP_2.out)
        clear hv hb hn hap x0 x1 x2 x3 x4 h0 h1 h2 h3 h4 h5 h6))
   have hsw2 := HL_2.out.size
   have HL_3 := Lib.hid (HL_2.out.trans (HXa.out.mono HL_2.out.size))
   have HV_3 := Lib.hid (HV_2.out.below HXa.out)
   have AP_3 := Lib.hid (AP_2.out.below HXa.out)
   have S_3 := Lib.hid (S_2.out.later HXa.out)
   have Z_3 := Lib.hid (Z_2.out.later HXa.out)
   have P_3 := Lib.hid (P_2.out.later HXa.out)
   have G_3 := Lib.hid (G_2.out.later HXa.out)
   clear HL_2 HV_2 AP_2 S_2 Z_2 P_2 G_2
   have HW_3 := Lib.hid (HVa.out)
   have AW_3 := Lib.hid (HAa.out)
   clear HVa HAa HXa HUN
   have hsw3 := HL_3.out.size
   have al := (Below.refl w3.heap.size w3).alloc (Nat.le_refl _) (.cells #[.slice A3 n3 c3, .slice B3 q3 d3, .slice X3 xn3 xc3, .slice Y3 yn3 yc3, .int .i64 t3] 35)
   have nb0 := Blk.new w3 35 #[.slice A3 n3 c3, .slice B3 q3 d3, .slice X3 xn3 xc3, .slice Y3 yn3 yc3, .int .i64 t3]
   have HL_4 := Lib.hid (HL_3.out.trans (al.mono HL_3.out.size))
   have HV_4 := Lib.hid (HV_3.out.below al)
   have AP_4 := Lib.hid (AP_3.out.below al)
   have S_4 := Lib.hid (S_3.out.later al)
   have Z_4 := Lib.hid (Z_3.out.later al)
   have P_4 := Lib.hid (P_3.out.later al)
   have G_4 := Lib.hid (G_3.out.later al)
   have HW_4 := Lib.hid (HW_3.out.below al)
   have AW_4 := Lib.hid (AW_3.out.below al)
   clear al HL_3 HV_3 AP_3 S_3 Z_3 P_3 G_3 HW_3 AW_3
   have U_4 := Lib.hid (nb0)
   clear nb0
   generalize w3.alloc (.cells #[.slice A3 n3 c3, .slice B3 q3 d3, .slice X3 xn3 xc3, .slice Y3 yn3 yc3, .int .i64 t3] 35) = w4 at HL_4 HV_4 AP_4 S_4 Z_4 P_4 G_4 HW_4 AW_4 U_4 ⊢
   generalize w3.heap.size = gu at U_4 hsw3 ⊢
   have hsw4 := HL_4.out.size
   have DE := Lib.hid (HEN.out w4 ⟨A3, n3, c3, B3, q3, d3, X3, xn3, xc3, Y3, yn3, yc3, t3⟩ HW_4.out AW_4.out)
   dsimp only at DE
   obtain ⟨x0, x1, x2, x3, x4⟩ := (show _ ∧ _ ∧ _ ∧ _ ∧ _ from ⟨U_4.out.cell 0 rfl, U_4.out.cell 1 rfl, U_4.out.cell 2 rfl, U_4.out.cell 3 rfl, U_4.out.cell 4 rfl⟩)
   go_wp2_with (first
     | (go_at_call 147; refine DE.out.mono ?_; rintro _ w5 ⟨V5, rfl, hv, hon, hnw⟩
        obtain ⟨A5, n5, c5, B5, q5, d5, X5, xn5, xc5, Y5, yn5, yc5, t5⟩ := V5
        dsimp only at hv hon hnw ⊢
        have HV5 := Lib.hid hv
        have HNW := Lib.hid hnw
        have L5 := Lib.hid ((HL_4.out.mono hbase).trans (hon.below (B := base) (fun k hk => ⟨by omega, fun e => by have := AW_4.out.own.rowLt k e; omega⟩)))
        have Z5 := Lib.hid (Blk.on Z_4.out hon ⟨Z_4.out.lt, fun e => AW_4.out.own.ne Z_4.out (by decide) _ e rfl⟩)
        have P5 := Lib.hid (Blk.on P_4.out hon ⟨P_4.out.lt, fun e => AW_4.out.own.ne P_4.out (by decide) _ e rfl⟩)
        obtain ⟨y0, y1, y2, y3, y4⟩ := (show _ ∧ _ ∧ _ ∧ _ ∧ _ from ⟨Z5.out.cell 0 rfl, Z5.out.cell 1 rfl, Z5.out.cell 2 rfl, Z5.out.cell 3 rfl, Z5.out.cell 4 rfl⟩)
        obtain ⟨f0, f1, f2, f3, f4⟩ := (show _ ∧ _ ∧ _ ∧ _ ∧ _ from ⟨Z5.out.loose 0, Z5.out.loose 1, Z5.out.loose 2, Z5.out.loose 3, Z5.out.loose 4⟩)
        obtain ⟨z0, z1⟩ := (show _ ∧ _ from ⟨P5.out.cell 0 rfl, P5.out.cell 1 rfl⟩)
        obtain ⟨e0, e1⟩ := (show _ ∧ _ from ⟨P5.out.loose 0, P5.out.loose 1⟩)
        clear hv hon hnw x0 x1 x2 x3 x4))
   have HT2 := rp_other (st_put Z5.out rfl (.slice A5 n5 c5) (.slice B5 q5 d5) (.slice X5 xn5 xc5) (.slice Y5 yn5 yc5) (.int .i64 t5)) (show w.heap.size + 1 + 1 ≠ w.heap.size + 1 by omega) (.int .i64 0) (.int .i64 0)
   have P6 := st_other P5.out (show w.heap.size + 1 ≠ w.heap.size + 1 + 1 by omega) (.slice A5 n5 c5) (.slice B5 q5 d5) (.slice X5 xn5 xc5) (.slice Y5 yn5 yc5) (.int .i64 t5)
   have HT3 := rp_put P6 rfl (.int .i64 0) (.int .i64 0)
   have HTV := sk_rp (sk_zero HV5.out Z5.out (.slice A5 n5 c5) (.slice B5 q5 d5) (.slice X5 xn5 xc5) (.slice Y5 yn5 yc5) (.int .i64 t5)) P6 (.int .i64 0) (.int .i64 0)
   have HTB := rp_below (st_below L5.out (show base ≤ w.heap.size + 1 by omega) (.slice A5 n5 c5) (.slice B5 q5 d5) (.slice X5 xn5 xc5) (.slice Y5 yn5 yc5) (.int .i64 t5)) (show base ≤ w.heap.size + 1 + 1 by omega) (.int .i64 0) (.int .i64 0)
   refine bodyPost_ret (results_two (p := 4) (q := 5) (ty := 35) (tz := 46) rfl _ _ (w.heap.size + 1) (w.heap.size + 1 + 1) _ _ _ _ (0, 0) _ _ rfl HT2 Tryz.underlying35 rfl (by kernel_rfl) rfl HT3 Tryz.underlying46 rfl (by kernel_rfl)) rfl ?_
   exact ⟨⟨A5, n5, c5, B5, q5, d5, X5, xn5, xc5, Y5, yn5, yc5, t5⟩, rfl, HTV, HTB, fun p hp hq => HNW.out p (fun b hb => hp b (by omega)) (HNa.out p (fun b hb => hp b (by omega)) hq)⟩
 · have hev : errV E3 = eno E3 := by rw [errV, if_neg he]
   rw [hev] at HUN HNB
   rw [if_neg he]
   clear he hev HEN
   have AP0 := AP_0
   go_enter Tryz.func115, Tryz.ntmps115
   go_upto_region 1 with fail
   have al := (Below.refl w.heap.size w).alloc (Nat.le_refl _) (.cells #[.slice A0 n0 c0, .slice B0 q0 d0, .slice (some ad) xn0 xc0, .slice Y0 yn0 yc0, .int .i64 t0] 35)
   replace al := al.alloc (by simp; try omega) (.cells st0 35)
   replace al := al.alloc (by simp; try omega) (.cells rp0 46)
   have nb0 := ((Blk.new w 35 #[.slice A0 n0 c0, .slice B0 q0 d0, .slice (some ad) xn0 xc0, .slice Y0 yn0 yc0, .int .i64 t0]).more (.cells st0 35)).more (.cells rp0 46)
   have nb1 := (Blk.new (w.alloc (.cells #[.slice A0 n0 c0, .slice B0 q0 d0, .slice (some ad) xn0 xc0, .slice Y0 yn0 yc0, .int .i64 t0] 35)) 35 st0).more (.cells rp0 46)
   rw [alloc_size] at nb1
   have nb2 := Blk.new ((w.alloc (.cells #[.slice A0 n0 c0, .slice B0 q0 d0, .slice (some ad) xn0 xc0, .slice Y0 yn0 yc0, .int .i64 t0] 35)).alloc (.cells st0 35)) 46 rp0
   rw [alloc_size, alloc_size] at nb2
   have HL_1 := Lib.hid (HL_0.out.trans (al.mono HL_0.out.size))
   have HV_1 := Lib.hid (HV_0.out.below al)
   have AP_1 := Lib.hid (AP_0.out.below al)
   clear al HL_0 HV_0 AP_0
   have S_1 := Lib.hid (nb0)
   have Z_1 := Lib.hid (nb1)
   have P_1 := Lib.hid (nb2)
   clear nb0 nb1 nb2
   generalize ((w.alloc (.cells #[.slice A0 n0 c0, .slice B0 q0 d0, .slice (some ad) xn0 xc0, .slice Y0 yn0 yc0, .int .i64 t0] 35)).alloc (.cells st0 35)).alloc (.cells rp0 46) = w1 at HL_1 HV_1 AP_1 S_1 Z_1 P_1 ⊢
   have x2 := S_1.out.cell 2 rfl
   obtain ⟨ad2, eX, hat1⟩ := HV_1.out.sag.at_ HP.out
   injection eX with eX
   subst eX
   obtain ⟨e0, e1, e2, e3, e4, e5, e6, e7, e8, e9, e10⟩ := sg_cells hat1
   dsimp only at e0 e1 e2 e3 e4 e5 e6 e7 e8 e9 e10
   have hz1 : w.heap.size + 1 + 1 < w1.heap.size := P_1.out.lt
   have hii : (i : Int) < (xn0 : Int) := by have h1 := (List.getElem?_eq_some_iff.1 HP.out).1; have h2 := HV_1.out.xn; dsimp only at h2; omega
   go_upto_region 2 with fail
   clear x2 hat1 e0 e1 e2 e3 e4 e5 e6 e7 e8 e9 e10
   have al := (Below.refl w1.heap.size w1).alloc (Nat.le_refl _) (.cells #[.int .i64 k0, .int .i64 k1, .int .i64 k2, .int .i64 k3, .int .i64 k4, .int .i64 k5, .int .i64 k6, .int .i64 ph, .int .i64 lg, .int .i64 tr, .int .i64 wy] 68)
   have nb0 := Blk.new w1 68 #[.int .i64 k0, .int .i64 k1, .int .i64 k2, .int .i64 k3, .int .i64 k4, .int .i64 k5, .int .i64 k6, .int .i64 ph, .int .i64 lg, .int .i64 tr, .int .i64 wy]
   have HL_2 := Lib.hid (HL_1.out.trans (al.mono HL_1.out.size))
   have HV_2 := Lib.hid (HV_1.out.below al)
   have AP_2 := Lib.hid (AP_1.out.below al)
   have S_2 := Lib.hid (S_1.out.later al)
   have Z_2 := Lib.hid (Z_1.out.later al)
   have P_2 := Lib.hid (P_1.out.later al)
   clear al HL_1 HV_1 AP_1 S_1 Z_1 P_1
   have G_2 := Lib.hid (nb0)
   clear nb0
   generalize w1.alloc (.cells #[.int .i64 k0, .int .i64 k1, .int .i64 k2, .int .i64 k3, .int .i64 k4, .int .i64 k5, .int .i64 k6, .int .i64 ph, .int .i64 lg, .int .i64 tr, .int .i64 wy] 68) = w2 at HL_2 HV_2 AP_2 S_2 Z_2 P_2 G_2 ⊢
   generalize w1.heap.size = gs at G_2 hz1 ⊢
   obtain ⟨x0, x1, x2, x3, x4⟩ := (show _ ∧ _ ∧ _ ∧ _ ∧ _ from ⟨S_2.out.cell 0 rfl, S_2.out.cell 1 rfl, S_2.out.cell 2 rfl, S_2.out.cell 3 rfl, S_2.out.cell 4 rfl⟩)
   obtain ⟨h0, h1, h2, h3, h4, h5, h6⟩ := (show _ ∧ _ ∧ _ ∧ _ ∧ _ ∧ _ ∧ _ from ⟨G_2.out.cell 0 rfl, G_2.out.cell 1 rfl, G_2.out.cell 2 rfl, G_2.out.cell 3 rfl, G_2.out.cell 4 rfl, G_2.out.cell 5 rfl, G_2.out.cell 6 rfl⟩)
   go_upto_region 3 with (first
     | (go_at_call 106; refine (HUN.out _ HL_2.out).mono ?_; rintro _ w3 ⟨V3, rfl, hv, hb, hn, hap⟩
        obtain ⟨A3, n3, c3, B3, q3, d3, X3, xn3, xc3, Y3, yn3, yc3, t3⟩ := V3
        dsimp only at hv hn hap ⊢
        have HVa := Lib.hid hv
        have HXa := Lib.hid hb
        have HNa := Lib.hid hn
        have HAa := Lib.hid (hap base (by have := HL_2.out.size; omega) AP_2.out)
        clear hv hb hn hap x0 x1 x2 x3 x4 h0 h1 h2 h3 h4 h5 h6))
   have hsw2 := HL_2.out.size
   have HL_3 := Lib.hid (HL_2.out.trans (HXa.out.mono HL_2.out.size))
   have HV_3 := Lib.hid (HV_2.out.below HXa.out)
   have AP_3 := Lib.hid (AP_2.out.below HXa.out)
   have S_3 := Lib.hid (S_2.out.later HXa.out)
   have Z_3 := Lib.hid (Z_2.out.later HXa.out)
   have P_3 := Lib.hid (P_2.out.later HXa.out)
   have G_3 := Lib.hid (G_2.out.later HXa.out)
   clear HL_2 HV_2 AP_2 S_2 Z_2 P_2 G_2
   have HW_3 := Lib.hid (HVa.out)
   have AW_3 := Lib.hid (HAa.out)
   clear HVa HAa HXa HUN
   have hsw3 := HL_3.out.size
   have al := (Below.refl w3.heap.size w3).alloc (Nat.le_refl _) (.cells #[.slice A3 n3 c3, .slice B3 q3 d3, .slice X3 xn3 xc3, .slice Y3 yn3 yc3, .int .i64 t3] 35)
   have nb0 := Blk.new w3 35 #[.slice A3 n3 c3, .slice B3 q3 d3, .slice X3 xn3 xc3, .slice Y3 yn3 yc3, .int .i64 t3]
   have HL_4 := Lib.hid (HL_3.out.trans (al.mono HL_3.out.size))
   have HV_4 := Lib.hid (HV_3.out.below al)
   have AP_4 := Lib.hid (AP_3.out.below al)
   have S_4 := Lib.hid (S_3.out.later al)
   have Z_4 := Lib.hid (Z_3.out.later al)
   have P_4 := Lib.hid (P_3.out.later al)
   have G_4 := Lib.hid (G_3.out.later al)
   have HW_4 := Lib.hid (HW_3.out.below al)
   have AW_4 := Lib.hid (AW_3.out.below al)
   clear al HL_3 HV_3 AP_3 S_3 Z_3 P_3 G_3 HW_3 AW_3
   have U_4 := Lib.hid (nb0)
   clear nb0
   generalize w3.alloc (.cells #[.slice A3 n3 c3, .slice B3 q3 d3, .slice X3 xn3 xc3, .slice Y3 yn3 yc3, .int .i64 t3] 35) = w4 at HL_4 HV_4 AP_4 S_4 Z_4 P_4 G_4 HW_4 AW_4 U_4 ⊢
   generalize w3.heap.size = gu at U_4 hsw3 ⊢
   have hsw4 := HL_4.out.size
   have HH4 := Lib.hid HL_4.out
   clear HNa HW_4 AW_4 U_4
   have hxb : ∀ k, (Value.slice (some ad) xn0 xc0).ownBlock = some k → k < w.heap.size := fun k e => (World.ownsRow.lt AP0.out.own k e).2
   have hgx : (Value.slice (some ad) xn0 xc0).ownBlock ≠ some gs := fun e => by have := hxb gs e; omega
   go_upto_region 4 with fail
   refine wp_region_held_drew (S := fun w' => On (fun k => k < w4.heap.size ∧ (Value.slice (some ad) xn0 xc0).ownBlock ≠ some k ∧ k ≠ w.heap.size + 1 ∧ k ≠ w.heap.size + 1 + 1) w4 w') (by kernel_rfl) (On.refl _ w4).drew (fun hHeld => ?_)
   refine tk 0 23 (v := ?_) ?_ ?_
   rotate_left
   · intro w' hSw
     have hSw' := hSw
     (try dsimp only at hSw')
     obtain ⟨k0, k1, k2, k3, k4⟩ := (show _ ∧ _ ∧ _ ∧ _ ∧ _ from ⟨(Blk.on S_4.out hSw' ⟨S_4.out.lt, fun e => AP_4.out.own.ne S_4.out (by decide) _ e rfl, by omega, by omega⟩).cell 0 rfl, (Blk.on S_4.out hSw' ⟨S_4.out.lt, fun e => AP_4.out.own.ne S_4.out (by decide) _ e rfl, by omega, by omega⟩).cell 1 rfl, (Blk.on S_4.out hSw' ⟨S_4.out.lt, fun e => AP_4.out.own.ne S_4.out (by decide) _ e rfl, by omega, by omega⟩).cell 2 rfl, (Blk.on S_4.out hSw' ⟨S_4.out.lt, fun e => AP_4.out.own.ne S_4.out (by decide) _ e rfl, by omega, by omega⟩).cell 3 rfl, (Blk.on S_4.out hSw' ⟨S_4.out.lt, fun e => AP_4.out.own.ne S_4.out (by decide) _ e rfl, by omega, by omega⟩).cell 4 rfl⟩)
     go_simp
     (try with_reducible rfl)
   (try simp only [Act.put, sA, sB, sC])
   refine tk 1 24 (v := ?_) ?_ ?_
   rotate_left
   · intro w' hSw
     go_simp
     (try with_reducible rfl)
   (try simp only [Act.put, sA, sB, sC])
   refine tk 2 25 (v := ?_) ?_ ?_
   rotate_left
   · intro w' hSw
     have hSw' := hSw
     (try dsimp only at hSw')
     obtain ⟨j0, j1, j2, j3, j4, j5, j6, j7, j8, j9, j10⟩ := (show _ ∧ _ ∧ _ ∧ _ ∧ _ ∧ _ ∧ _ ∧ _ ∧ _ ∧ _ ∧ _ from ⟨(Blk.on G_4.out hSw' ⟨G_4.out.lt, hgx, by omega, by omega⟩).cell 0 rfl, (Blk.on G_4.out hSw' ⟨G_4.out.lt, hgx, by omega, by omega⟩).cell 1 rfl, (Blk.on G_4.out hSw' ⟨G_4.out.lt, hgx, by omega, by omega⟩).cell 2 rfl, (Blk.on G_4.out hSw' ⟨G_4.out.lt, hgx, by omega, by omega⟩).cell 3 rfl, (Blk.on G_4.out hSw' ⟨G_4.out.lt, hgx, by omega, by omega⟩).cell 4 rfl, (Blk.on G_4.out hSw' ⟨G_4.out.lt, hgx, by omega, by omega⟩).cell 5 rfl, (Blk.on G_4.out hSw' ⟨G_4.out.lt, hgx, by omega, by omega⟩).cell 6 rfl, (Blk.on G_4.out hSw' ⟨G_4.out.lt, hgx, by omega, by omega⟩).cell 7 rfl, (Blk.on G_4.out hSw' ⟨G_4.out.lt, hgx, by omega, by omega⟩).cell 8 rfl, (Blk.on G_4.out hSw' ⟨G_4.out.lt, hgx, by omega, by omega⟩).cell 9 rfl, (Blk.on G_4.out hSw' ⟨G_4.out.lt, hgx, by omega, by omega⟩).cell 10 rfl⟩)
     go_simp
     (try with_reducible rfl)
   (try simp only [Act.put, sA, sB, sC])
   refine tk 3 26 (v := ?_) ?_ ?_
   rotate_left
   · intro w' hSw
     go_simp
     (try with_reducible rfl)
   (try simp only [Act.put, sA, sB, sC])
   have hbd : Below w4.heap.size w4 w4.drew := (Below.refl _ _).drew
   have HL_5 := Lib.hid (HL_4.out.trans (hbd.mono HL_4.out.size))
   have HV_5 := Lib.hid (HV_4.out.below hbd)
   have AP_5 := Lib.hid (AP_4.out.below hbd)
   have S_5 := Lib.hid (S_4.out.later hbd)
   have Z_5 := Lib.hid (Z_4.out.later hbd)
   have P_5 := Lib.hid (P_4.out.later hbd)
   have G_5 := Lib.hid (G_4.out.later hbd)
   clear HL_4 HV_4 AP_4 S_4 Z_4 P_4 G_4
   clear hbd
   have hzd : w4.drew.heap.size = w4.heap.size := rfl
   have HZD := Lib.hid hzd
   clear hzd
   generalize w4.drew = wd at hHeld HZD HL_5 HV_5 AP_5 S_5 Z_5 P_5 G_5 ⊢
   refine wpAnyH_ready (rs := [4]) (by kernel_rfl) (by simp) ?_
   refine AllReadyH.cons (i := 4) rfl (fun K0 hK => ?_) AllReadyH.nil
   go_simp
   go_at_call 73
   refine (HNB.out wd HL_5.out).mono ?_
   rintro _ w5 ⟨rfl, hb5⟩
   have hH5 : On (fun k => k < w4.heap.size ∧ (Value.slice (some ad) xn0 xc0).ownBlock ≠ some k ∧ k ≠ w.heap.size + 1 ∧ k ≠ w.heap.size + 1 + 1) w4 w5 := hHeld.trans (On.of hb5 (fun k hk => by have := hk.1; have := HZD.out; omega))
   have hs5 := hb5.size
   have HL_6 := Lib.hid (HL_5.out.trans (hb5.mono HL_5.out.size))
   have HV_6 := Lib.hid (HV_5.out.below hb5)
   have AP_6 := Lib.hid (AP_5.out.below hb5)
   have S_6 := Lib.hid (S_5.out.later hb5)
   have Z_6 := Lib.hid (Z_5.out.later hb5)
   have P_6 := Lib.hid (P_5.out.later hb5)
   have G_6 := Lib.hid (G_5.out.later hb5)
   clear HL_5 HV_5 AP_5 S_5 Z_5 P_5 G_5
   clear hb5
   refine hK.out _ _ hH5 (fun hHeld => ?_)
   clear hK K0
   (try simp only [Act.put, sA, sB, sC])
   refine wpAnyH_ready (rs := [5]) (by kernel_rfl) (by simp) ?_
   refine AllReadyH.cons (i := 5) rfl (fun K0 hK => ?_) AllReadyH.nil
   go_simp
   go_at_call 148
   refine (HTN.out w5).mono ?_
   rintro _ w6 ⟨rfl, hb6⟩
   have hH6 : On (fun k => k < w4.heap.size ∧ (Value.slice (some ad) xn0 xc0).ownBlock ≠ some k ∧ k ≠ w.heap.size + 1 ∧ k ≠ w.heap.size + 1 + 1) w4 w6 := hH5.trans (On.of hb6 (fun k hk => by have := hk.1; have := HZD.out; omega))
   have hs6 := hb6.size
   have HL_7 := Lib.hid (HL_6.out.trans (hb6.mono HL_6.out.size))
   have HV_7 := Lib.hid (HV_6.out.below hb6)
   have AP_7 := Lib.hid (AP_6.out.below hb6)
   have S_7 := Lib.hid (S_6.out.later hb6)
   have Z_7 := Lib.hid (Z_6.out.later hb6)
   have P_7 := Lib.hid (P_6.out.later hb6)
   have G_7 := Lib.hid (G_6.out.later hb6)
   clear HL_6 HV_6 AP_6 S_6 Z_6 P_6 G_6
   clear hb6
   refine hK.out _ _ hH6 (fun hHeld => ?_)
   clear hK K0
   (try simp only [Act.put, sA, sB, sC])
   refine wpAnyH_ready (rs := [6]) (by kernel_rfl) (by simp) ?_
   refine AllReadyH.cons (i := 6) rfl (fun K0 hK => ?_) AllReadyH.nil
   go_simp
   go_at_call 116
   refine (HGO.out w6 ⟨A0, n0, c0, B0, q0, d0, some ad, xn0, xc0, Y0, yn0, yc0, t0⟩ HV_7.out AP_7.out).mono ?_
   rintro _ w7 ⟨V5, rfl, hv, hon, hnw⟩
   obtain ⟨A5, n5, c5, B5, q5, d5, X5, xn5, xc5, Y5, yn5, yc5, t5⟩ := V5
   dsimp only at hv hon hnw ⊢
   have HV5 := Lib.hid hv
   have HNW := Lib.hid hnw
   have hs7 := HL_7.out.size
   have L5 := Lib.hid ((HL_7.out.mono hbase).trans (hon.below (B := base) (fun k hk => ⟨by omega, fun e => by have := AP_7.out.own.rowLt k e; omega⟩)))
   have Z5 := Lib.hid (Blk.on Z_7.out hon ⟨Z_7.out.lt, fun e => AP_7.out.own.ne Z_7.out (by decide) _ e rfl⟩)
   have P5 := Lib.hid (Blk.on P_7.out hon ⟨P_7.out.lt, fun e => AP_7.out.own.ne P_7.out (by decide) _ e rfl⟩)
   have hH7 : On (fun k => k < w4.heap.size ∧ (Value.slice (some ad) xn0 xc0).ownBlock ≠ some k ∧ k ≠ w.heap.size + 1 ∧ k ≠ w.heap.size + 1 + 1) w4 w7 := hH6.trans (hon.weak (fun k hk => ⟨by have := hk.1; have := HZD.out; omega, hk.2.1⟩))
   clear hv hon hnw HL_7 HV_7 AP_7 S_7 Z_7 P_7 G_7
   refine hK.out _ _ hH7 (fun hHeld => ?_)
   clear hK K0
   (try simp only [Act.put, sA, sB, sC])
   refine tk 7 30 (v := ?_) ?_ ?_
   rotate_left
   · intro w' hSw
     go_simp
     (try with_reducible rfl)
   (try simp only [Act.put, sA, sB, sC])
   refine tk 8 31 (v := ?_) ?_ ?_
   rotate_left
   · intro w' hSw
     go_simp
     (try with_reducible rfl)
   (try simp only [Act.put, sA, sB, sC])
   obtain ⟨y0, y1, y2, y3, y4⟩ := (show _ ∧ _ ∧ _ ∧ _ ∧ _ from ⟨Z5.out.cell 0 rfl, Z5.out.cell 1 rfl, Z5.out.cell 2 rfl, Z5.out.cell 3 rfl, Z5.out.cell 4 rfl⟩)
   obtain ⟨f0, f1, f2, f3, f4⟩ := (show _ ∧ _ ∧ _ ∧ _ ∧ _ from ⟨Z5.out.loose 0, Z5.out.loose 1, Z5.out.loose 2, Z5.out.loose 3, Z5.out.loose 4⟩)
   refine wpAnyH_ready (rs := [9]) (by kernel_rfl) (by simp) ?_
   refine AllReadyH.cons (i := 9) rfl (fun K0 hK => ?_) AllReadyH.nil
   go_simp
   refine hK.out _ (((((w7.setCell ⟨w.heap.size + 1, 0, none⟩ (.slice A5 n5 c5)).setCell ⟨w.heap.size + 1, 1, none⟩ (.slice B5 q5 d5)).setCell ⟨w.heap.size + 1, 2, none⟩ (.slice X5 xn5 xc5)).setCell ⟨w.heap.size + 1, 3, none⟩ (.slice Y5 yn5 yc5)).setCell ⟨w.heap.size + 1, 4, none⟩ (.int .i64 t5)) (est_on hHeld (fun e => e.2.2.1 rfl) (.slice A5 n5 c5) (.slice B5 q5 d5) (.slice X5 xn5 xc5) (.slice Y5 yn5 yc5) (.int .i64 t5)) (fun hHeld => ?_)
   clear hK K0
   (try simp only [Act.put, sA, sB, sC])
   clear y0 y1 y2 y3 y4 f0 f1 f2 f3 f4
   have P6 := st_other P5.out (show w.heap.size + 1 ≠ w.heap.size + 1 + 1 by omega) (.slice A5 n5 c5) (.slice B5 q5 d5) (.slice X5 xn5 xc5) (.slice Y5 yn5 yc5) (.int .i64 t5)
   obtain ⟨z0, z1⟩ := (show _ ∧ _ from ⟨P6.cell 0 rfl, P6.cell 1 rfl⟩)
   obtain ⟨e0, e1⟩ := (show _ ∧ _ from ⟨P6.loose 0, P6.loose 1⟩)
   refine wpAnyH_ready (rs := [10]) (by kernel_rfl) (by simp) ?_
   refine AllReadyH.cons (i := 10) rfl (fun K0 hK => ?_) AllReadyH.nil
   go_simp
   refine hK.out _ (((((((w7.setCell ⟨w.heap.size + 1, 0, none⟩ (.slice A5 n5 c5)).setCell ⟨w.heap.size + 1, 1, none⟩ (.slice B5 q5 d5)).setCell ⟨w.heap.size + 1, 2, none⟩ (.slice X5 xn5 xc5)).setCell ⟨w.heap.size + 1, 3, none⟩ (.slice Y5 yn5 yc5)).setCell ⟨w.heap.size + 1, 4, none⟩ (.int .i64 t5)).setCell ⟨w.heap.size + 1 + 1, 0, none⟩ (.int .i64 10)).setCell ⟨w.heap.size + 1 + 1, 1, none⟩ (.int .i64 0)) (erp_on hHeld (fun e => e.2.2.2 rfl) _ _) (fun hHeld => ?_)
   clear hK K0
   (try simp only [Act.put, sA, sB, sC])
   refine wpAnyH_done (by kernel_rfl) ?_ _
   clear hHeld z0 z1 e0 e1
   go_wp2
   have HT2 := rp_other (st_put Z5.out rfl (.slice A5 n5 c5) (.slice B5 q5 d5) (.slice X5 xn5 xc5) (.slice Y5 yn5 yc5) (.int .i64 t5)) (show w.heap.size + 1 + 1 ≠ w.heap.size + 1 by omega) (.int .i64 10) (.int .i64 0)
   have HT3 := rp_put P6 rfl (.int .i64 10) (.int .i64 0)
   have HTV := sk_rp (sk_zero HV5.out Z5.out (.slice A5 n5 c5) (.slice B5 q5 d5) (.slice X5 xn5 xc5) (.slice Y5 yn5 yc5) (.int .i64 t5)) P6 (.int .i64 10) (.int .i64 0)
   have HTB := rp_below (st_below L5.out (show base ≤ w.heap.size + 1 by omega) (.slice A5 n5 c5) (.slice B5 q5 d5) (.slice X5 xn5 xc5) (.slice Y5 yn5 yc5) (.int .i64 t5)) (show base ≤ w.heap.size + 1 + 1 by omega) (.int .i64 10) (.int .i64 0)
   refine bodyPost_ret (results_two (p := 4) (q := 5) (ty := 35) (tz := 46) rfl _ _ (w.heap.size + 1) (w.heap.size + 1 + 1) _ _ _ _ (0, 0) _ _ rfl HT2 Tryz.underlying35 rfl (by kernel_rfl) rfl HT3 Tryz.underlying46 rfl (by kernel_rfl)) rfl ?_
   exact ⟨⟨A5, n5, c5, B5, q5, d5, X5, xn5, xc5, Y5, yn5, yc5, t5⟩, rfl, HTV, HTB, fun p hp hq => HNW.out p (fun b hb => hp b (by omega)) hq⟩
end Go.Proofs.YteifgmdaggiaaaaGreatDoor
