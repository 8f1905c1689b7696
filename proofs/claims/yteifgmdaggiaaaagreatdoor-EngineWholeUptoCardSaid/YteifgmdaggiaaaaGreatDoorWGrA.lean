/-
  Small words of the walks: tests as Bools, worlds behind others, addresses behind others. Of any program.
  Slices of integers in memory: one that reads as a list, one that the call owns; what append makes of them, up to the very bound at which Go's own growslice refuses; bytes as a string. Of any program.
  An error by its number.
  A whole aggregate stored into the block that was made last: by one law, not cell by cell. Of any program.
  Bytes as natural numbers in slices: the words that the contracts of this seat share.
  Small words of the laws' walks: integers that came in as natural numbers; the lesser of two.
  A region that draws its order, walked from a later world on: what is known of all worlds behind it.
  Records of several cells, of whatever type: a slice of them that reads as a list; one that is the call's own; what a store, an append, a make and a copy make of it. Of any program.
  append of one record as a step of a region that draws its order; a record that lies in a block of its own. Of any program.
  append of several records, and where the slice lies then. Of any program.
  Slices of records that came in, as lists; a struct's fields, one by one. Of any program.
  A block of memory by its cells, whatever they hold; two results that lie in cells of their own.
-/
import Derived.Below
import Derived.WalkKit
import Derived.Deep.Draws
import Derived.Lib.Hide
import Derived.Laws.OwnMore
import Derived.OwnWalk
import Derived.Laws.BytesString
import Derived.Laws.BytesArg
import Derived.Test.YteifgmdaggiaaaaGreatDoorProg
import Derived.Laws.Rows
import Derived.Deep.RegionHeld3
import Derived.Laws.CopyRow
import Derived.Laws.AppendOwn
import Derived.Deep.RegionLaw
import Derived.Deep.AppendLies
import Derived.Deep.Slices
import Derived.Lib.SmallJoins
import Derived.BigQuiet
import Derived.Laws.ResultCell
namespace Go.Proofs.YteifgmdaggiaaaaGreatDoor
open Go Go.RowKit
set_option linter.unusedVariables false
theorem eqT {x y : Int} (h : x = y) : (x == y) = true := by simp [h]
theorem eqF {x y : Int} (h : ¬ x = y) : (x == y) = false := by simp [h]
theorem neT {x y : Int} (h : ¬ x = y) : (x != y) = true := by simp [h]
theorem neF {x y : Int} (h : x = y) : (x != y) = false := by simp [h]
/-- A bool, and nothing below is turned. -/
def BoolRes (w : World) (b : Bool) (e : Ending) (w' : World) : Prop := e = .returned (.bool b) ∧ Below w.heap.size w w'
theorem quiet_same {P : Program} {f : FuncId} {args : Array Value} {w : World} {n : Nat} {v : Value}
  (h : Calls P f args (w.drewN n) fun e w' => e = .returned v ∧ w.drewN n = w') : Calls P f args (w.drewN n) fun e w'' => e = .returned v ∧ ∃ m, w'' = w.drewN m :=
 h.mono fun _ _ ⟨he, hm⟩ => ⟨he, n, hm.symm⟩
theorem below_drewN {B : Nat} {a w : World} (h : Below B a w) (n : Nat) : Below B a (w.drewN n) := ⟨h.os, h.tape, h.output, h.size, h.block⟩
theorem alloc_size (w : World) (o : Obj) : (w.alloc o).heap.size = w.heap.size + 1 := by simp
theorem add_next (ad : Addr) (n j : Nat) (hj : 0 < j) : ad.add (n + j) = ⟨(ad.add n).block, (ad.add n).off + j, none⟩ := by
 unfold Addr.add
 rw [if_neg (by omega)]
 by_cases hn : n = 0
 · subst hn; simp
 · simp [hn]; omega
theorem add_flat (g i : Nat) : (⟨g, 0, none⟩ : Addr).add i = ⟨g, i, none⟩ := by unfold Addr.add; split <;> simp_all
/-- The slice of n elements at A reads as zs (nil, empty or not). -/
def Rd (k : IntKind) (w : World) (A : Option Addr) (n : Nat) (zs : List Int) : Prop :=
 zs.length = n ∧ (0 < n → ∃ ad, A = some ad ∧ ∀ j, j < n → w.cell? (ad.add j) = some (.int k (zs.getD j 0)))
/-- The slice v of n elements is the call's own (its block is from 'base' on), and holds zs. -/
def Own (e : TypeId) (k : IntKind) (w : World) (base : Nat) (v : Value) (n : Nat) (zs : List Int) : Prop := w.ownsRow base e 1 v n (zs.map (Value.int k))
section
variable {k : IntKind} {w w' : World} {A : Option Addr} {n base : Nat} {zs : List Int} {e : TypeId} {v : Value}
theorem add_block (a : Addr) (j : Nat) : (a.add j).block = a.block := by unfold Addr.add; split <;> rfl
theorem add_add (a : Addr) (i j : Nat) : (a.add i).add j = a.add (i + j) := by
 by_cases hi : i = 0 <;> by_cases hj : j = 0 <;> simp [Addr.add, hi, hj, Nat.add_assoc]
theorem Rd.nil : Rd k w A 0 [] := ⟨rfl, fun h => absurd h (by omega)⟩
theorem Rd.at_ {j : Nat} (h : Rd k w A n zs) (hj : j < n) : ∃ ad, A = some ad ∧ w.cell? (ad.add j) = some (.int k (zs.getD j 0)) := by
 obtain ⟨ad, he, hc⟩ := h.2 (by omega)
 exact ⟨ad, he, hc j hj⟩
theorem Rd.keep (h : Rd k w A n zs) (hk : ∀ p : Addr, p.block < w.heap.size → w'.cell? p = w.cell? p) : Rd k w' A n zs :=
 ⟨h.1, fun hn => by
   obtain ⟨ad, he, hc⟩ := h.2 hn
   exact ⟨ad, he, fun j hj => by
     have := hc j hj
     rw [hk _ (World.block_lt_of_cell? w _ this)]; exact this⟩⟩
theorem Rd.below (h : Rd k w A n zs) (hb : Below w.heap.size w w') : Rd k w' A n zs := h.keep fun _ hp => hb.cell hp
theorem Rd.drewN (h : Rd k w A n zs) (m : Nat) : Rd k (w.drewN m) A n zs := h
theorem Rd.drew (h : Rd k w A n zs) : Rd k w.drew A n zs := h
theorem Rd.alloc (h : Rd k w A n zs) (o : Obj) : Rd k (w.alloc o) A n zs := h.keep fun p hp => World.cell?_alloc_lt w o p hp
theorem Rd.front (h : Rd k w A n zs) {j : Nat} (hj : j ≤ n) : Rd k w A j (zs.take j) := by
 refine ⟨by rw [List.length_take, h.1]; omega, fun hn => ?_⟩
 obtain ⟨ad, rfl, hcell⟩ := h.2 (by omega)
 refine ⟨ad, rfl, fun i hi => ?_⟩
 rw [hcell i (by omega)]
 simp [List.getD, hi]
theorem Own.len (h : Own e k w base v n zs) : zs.length = n := by have := h.1; simpa using this
theorem Own.nil : Own e k w base (.slice none 0 0) 0 [] := World.ownsRow_nil w base e 1
theorem Own.alloc (h : Own e k w base v n zs) (o : Obj) : Own e k (w.alloc o) base v n zs := World.ownsRow.alloc h o
theorem Own.drew (h : Own e k w base v n zs) : Own e k w.drew base v n zs := h
theorem Own.drewN (h : Own e k w base v n zs) (m : Nat) : Own e k (w.drewN m) base v n zs := h
theorem Own.less {b : Nat} (h : Own e k w base v n zs) (hb : b ≤ base) : Own e k w b v n zs := by
 refine ⟨h.1, ?_⟩
 rcases h.2 with h | ⟨g, cap, cur, hv, hg, r⟩
 · exact .inl h
 · exact .inr ⟨g, cap, cur, hv, by omega, r⟩
/-- The slice's own form: its address, its capacity; and that it reads. -/
theorem Own.form (h : Own e k w base v n zs) : ∃ A cap, v = .slice A n cap ∧ n ≤ cap ∧ cap ≤ maxLen ∧ Rd k w A n zs ∧ (A = none → n = 0 ∧ cap = 0) := by
 have hl := h.len
 rcases h.2 with ⟨rfl, rfl⟩ | ⟨g, cap, cur, rfl, _, hg, hnc, hcm, _, htake⟩
 · exact ⟨none, 0, rfl, Nat.le_refl _, Nat.zero_le _, ⟨hl, fun h => absurd h (by omega)⟩, fun _ => ⟨rfl, rfl⟩⟩
 · refine ⟨some ⟨g, 0, none⟩, cap, rfl, hnc, hcm, ⟨hl, fun _ => ⟨_, rfl, fun j hj => ?_⟩⟩, fun h => by cases h⟩
   have := World.ownsRow.cells h (g := g) rfl j (.int k (zs.getD j 0)) (by
     have hj' : j < zs.length := by omega
     simp [List.getElem?_map, List.getElem?_eq_getElem hj', List.getD])
   exact this
theorem Own.below (h : Own e k w base v n zs) (hb : Below w.heap.size w w') : Own e k w' base v n zs := by
 refine ⟨h.1, ?_⟩
 rcases h.2 with h | ⟨g, cap, cur, hv, hg, hh, r⟩
 · exact .inl h
 · exact .inr ⟨g, cap, cur, hv, hg, by rw [hb.block g (Array.getElem?_eq_some_iff.1 hh).1]; exact hh, r⟩
theorem Own.rowLt (h : Own e k w base v n zs) : ∀ g, v.ownBlock = some g → base ≤ g := fun g hg => (World.ownsRow.lt h g hg).1
end
/-- How far growslice goes. -/
theorem next_le {need old : Nat} (h : old < need) : 4 * Builtin.nextslicecap need old ≤ 5 * need + 768 := by
 unfold Builtin.nextslicecap
 split
 · omega
 · split
   · omega
   · rw [growBy_four]
     split
     · omega
     · split
       · omega
       · split
         · omega
         · split
           · omega
           · omega
section
variable {P : Program} (w : World)
theorem run_append_ints (k : IntKind) (bytes base : Nat) (t ty e : TypeId) (ht : P.underlying t = some (.slice e))
  (hinfo : (P.info? e).map (fun i => (i.zero, i.size, i.bytes)) = some (some (.int k 0), 1, bytes))
  (v : Value) (n : Nat) (xs : List Int) (hown : Own e k w base v n xs) (A : Option Addr) (m c : Nat) (zs : List Int) (hr : Rd k w A m zs)
  (h63 : n + m ≤ 9223372036854775807) (hfit : (5 * (n + m) + 768) * bytes ≤ 1125899906842624) (hbase : base ≤ w.heap.size) :
  ∃ v' w', (Builtin.append_ #[t, t] ty #[v, .slice A m c]).run P w = .ok v' w' ∧ Own e k w' base v' (n + m) (xs ++ zs) ∧ w.grownBy w' v.ownBlock := by
 obtain ⟨i, hi, hz, hsize, hby⟩ := info_parts hinfo
 have hxl := hown.len
 have hzl := hr.1
 rcases Nat.eq_zero_or_pos m with rfl | hm
 · have hzn : zs = [] := List.eq_nil_of_length_eq_zero hzl
   subst hzn
   refine ⟨v, w, ?_, by simpa using hown, World.grownBy.refl w _⟩
   rcases hown.2 with ⟨rfl, rfl⟩ | ⟨g, cap, cur, rfl, _, _, hnc, _⟩
   · cases A <;> simp [Builtin.append_, run_underlying ht, sizeOf, typeInfo, hi, Builtin.lenOf, Builtin.firstCells, loadCells, loadCellsFrom]
   · cases A <;> simp [Builtin.append_, run_underlying ht, sizeOf, typeInfo, hi, Builtin.lenOf, Builtin.firstCells, loadCells, loadCellsFrom, hnc, storeCells]
 · obtain ⟨ad, rfl, hcell⟩ := hr.2 hm
   have hnews : ∀ j u, (zs.map (Value.int k))[j]? = some u → w.cell? (ad.add j) = some u := by
    intro j u hu
    have hj : j < zs.length := by have := (List.getElem?_eq_some_iff.1 hu).1; simpa using this
    rw [hcell j (by omega)]
    rw [List.getElem?_map, List.getElem?_eq_getElem hj] at hu
    simp [List.getD, List.getElem?_eq_getElem hj] at hu ⊢
    exact hu
   have hl : (zs.map (Value.int k)).length = m * i.size := by rw [hsize, List.length_map]; omega
   have h1 : ∀ u ∈ zs.map (Value.int k), u.oneCell' = true := ints_oneCell k zs
   have hcap : ∀ old, old < n + m → Builtin.nextslicecap (n + m) old * i.bytes ≤ 281474976710656 := by
    intro old ho
    rw [hby]
    have h2 := Nat.mul_le_mul_right bytes (next_le ho)
    rw [Nat.mul_assoc] at h2
    omega
   have hnew : ∀ (olds : List Int), olds.length = n → ∀ c', n + m ≤ c' → c' ≤ maxLen → ∀ wd : World, base ≤ wd.heap.size →
     Own e k (wd.alloc (.cells ((olds.map (Value.int k)).toArray ++ (zs.map (Value.int k)).toArray ++ Builtin.zeroCells (Value.int k 0).cells (c' - (n + m))) e)) base
      (.slice (some ⟨wd.heap.size, 0, none⟩) (n + m) c') (n + m) (olds ++ zs) := by
    intro olds ho c' hc1 hc2 wd hwd
    refine ⟨by simp [ho, hzl], .inr ⟨wd.heap.size, c', _, rfl, hwd, heap_alloc_new wd _, hc1, hc2, ?_, ?_⟩⟩
    · simp only [Array.size_append, List.size_toArray, List.length_map, size_zeroCells, Value.cells, ho, hzl]
      simp
      omega
    · simp only [Array.toList_append, List.map_append]
      rw [List.take_left']
      simp [ho, hzl]
   have hgr : ∀ (o : Obj) (row : Option Nat), w.grownBy (w.drew.alloc o) row := fun o row => ⟨rfl, rfl, rfl, by simp, fun j hj _ => by first | exact heap_alloc_old w.drew _ j hj | exact heap_alloc_old w.drew _ hj⟩
   rcases hown.2 with ⟨rfl, rfl⟩ | ⟨g, cap, cur, rfl, hbg, hg, hnc, hcm, hcs, htake⟩
   · have hxn : xs = [] := List.eq_nil_of_length_eq_zero hxl
     subst hxn
     have hcap0 := hcap 0 (by omega)
     rw [nextslicecap_zero (by omega)] at hcap0
     have hrun := run_append_nil (P := P) w t ty e i _ ht hi hz ad m c _ hl hnews hm (by omega) (by simpa using hcap0)
     have hge := grownCap_ge w m 0 e
     have hle := grownCap_le_maxLen w m 0 e (by simp only [maxLen]; omega)
     have hN := hnew [] rfl (grownCap w m 0 e) (by omega) hle w.drew hbase
     simp only [Nat.zero_add, List.map_nil, List.nil_append, Array.empty_append] at hN ⊢
     exact ⟨_, _, hrun, hN, hgr _ _⟩
   · by_cases hroom : n + m ≤ cap
     · have hfit' : n * i.size + (zs.map (Value.int k)).length ≤ cur.size := by rw [hsize, hcs, List.length_map]; omega
       have hrun := run_append_room (P := P) w t ty e i ht hi g n cap cur hg ad m c _ hl hnews h1 hroom hfit'
       refine ⟨_, _, hrun, ⟨by simp [hxl, hzl], .inr ⟨g, cap, _, rfl, hbg, setRow_heap w g cur _ e _ hg, hroom, hcm, ?_, ?_⟩⟩, ⟨rfl, rfl, rfl, by simp, fun j _ hj => setRow_other w g j _ (fun he => hj (by simp [Value.ownBlock, he]))⟩⟩
       · simp only [List.size_toArray, List.length_append, List.length_take, List.length_drop, Array.length_toList]
         omega
       · rw [hsize, htake, List.map_append]
         show List.take ((n + m) * 1) ((xs.map (Value.int k) ++ zs.map (Value.int k)) ++ _) = _
         rw [List.take_left']
         simp [hxl, hzl]
     · have holds : ∀ j u, (xs.map (Value.int k))[j]? = some u → w.cell? ((⟨g, 0, none⟩ : Addr).add j) = some u := World.ownsRow.cells hown (g := g) rfl
       have hrun := run_append_grow (P := P) w t ty e i _ ht hi hz ⟨g, 0, none⟩ n cap (xs.map (Value.int k)) (by rw [hsize, List.length_map]; omega) holds ad m c _ hl hnews (by omega) (by omega) (hcap cap (by omega))
       have hge := grownCap_ge w (n + m) cap e
       have hle := grownCap_le_maxLen w (n + m) cap e (by simp only [maxLen]; omega)
       exact ⟨_, _, hrun, hnew xs hxl _ hge hle w.drew hbase, hgr _ _⟩
theorem wp_append_ints {o : Oper} {a : Act} {K : Act → World → Prop} {Q : Exit → Act → World → Prop} (s x : Operand) (t : TypeId)
  (ho : o.op = .call { callee := .builtin .append, args := #[s, x], argTypes := #[t, t] })
  (k : IntKind) (bytes base : Nat) (e : TypeId) (ht : P.underlying t = some (.slice e))
  (hinfo : (P.info? e).map (fun i => (i.zero, i.size, i.bytes)) = some (some (.int k 0), 1, bytes))
  (v : Value) (n : Nat) (xs : List Int) (hs : a.eval s = v) (hown : Own e k w base v n xs) (A : Option Addr) (m c : Nat) (zs : List Int) (hx : a.eval x = .slice A m c) (hr : Rd k w A m zs)
  (h63 : n + m ≤ 9223372036854775807) (hfit : (5 * (n + m) + 768) * bytes ≤ 1125899906842624) (hbase : base ≤ w.heap.size)
  (h : ∀ v' w', Own e k w' base v' (n + m) (xs ++ zs) → w.grownBy w' v.ownBlock → K (a.put o.dst v') w') : o.wp P a w K Q := by
 obtain ⟨v', w', hrun, h2, h3⟩ := run_append_ints (P := P) w k bytes base t o.type e ht hinfo v n xs hown A m c zs hr h63 hfit hbase
 unfold Oper.wp execOp
 simp only [ho, resolve, invoke, builtin, Sem.run_bind, Sem.run_pure, Result.andThen_ok, List.map_toArray, List.map_cons, List.map_nil, hs, hx, hrun]
 exact h v' w' h2 h3
theorem wpList_append_ints {ops : Array Oper} {rest : List Oper} {o : Oper} {a : Act} {Q : Exit → Act → World → Prop} (hgd : o.guard = none) (s x : Operand) (t : TypeId)
  (ho : o.op = .call { callee := .builtin .append, args := #[s, x], argTypes := #[t, t] })
  (k : IntKind) (bytes base : Nat) (e : TypeId) (ht : P.underlying t = some (.slice e))
  (hinfo : (P.info? e).map (fun i => (i.zero, i.size, i.bytes)) = some (some (.int k 0), 1, bytes))
  (v : Value) (n : Nat) (xs : List Int) (hs : a.eval s = v) (hown : Own e k w base v n xs) (A : Option Addr) (m c : Nat) (zs : List Int) (hx : a.eval x = .slice A m c) (hr : Rd k w A m zs)
  (h63 : n + m ≤ 9223372036854775807) (hfit : (5 * (n + m) + 768) * bytes ≤ 1125899906842624) (hbase : base ≤ w.heap.size)
  (h : ∀ v' w', Own e k w' base v' (n + m) (xs ++ zs) → w.grownBy w' v.ownBlock → wpList P ops Q rest (a.put o.dst v') w') : wpList P ops Q (o :: rest) a w :=
 wpList_plain hgd fun _ hK => wp_append_ints w s x t ho k bytes base e ht hinfo v n xs hs hown A m c zs hx hr h63 hfit hbase fun v' w' h2 h3 => hK _ _ (h v' w' h2 h3)
end
end Go.Proofs.YteifgmdaggiaaaaGreatDoor
namespace Go.Proofs.YteifgmdaggiaaaaGreatDoor
open Go
/-- An error that is an api.Errno. -/
abbrev eno (n : Int) : Value := .iface 44 (.int .i64 n)
/-- An error by its number; none, if that is 0. -/
def errV (n : Int) : Value := if n = 0 then .nilIface else eno n
end Go.Proofs.YteifgmdaggiaaaaGreatDoor
namespace Go.Proofs.YteifgmdaggiaaaaGreatDoor
open Go
theorem setRow_alloc (w : World) (c cs : Array Value) (t : TypeId) : (w.alloc (.cells c t)).setRow w.heap.size cs = w.alloc (.cells cs t) := by
 unfold World.setRow World.alloc
 congr 1
 apply Array.ext_getElem?
 intro i
 rw [Array.getElem?_modify]
 by_cases h : w.heap.size = i
 · subst h; simp
 · simp [h, Array.getElem?_push, Ne.symm h]
theorem wpList_store_new {P : Program} {ops : Array Oper} {rest : List Oper} {o : Oper} {a : Act} {w : World} {Q : Exit → Act → World → Prop} (hgd : o.guard = none) (ty : TypeId) (x y : Operand) (ho : o.op = .store ty x y)
  (old cells : Array Value) (t : TypeId) (hx : a.eval x = .pointer (some ⟨w.heap.size, 0, none⟩)) (hy : a.eval y = .agg cells)
  (hi : (P.info? ty).map (·.size) = some cells.size) (hold : old.size = cells.size) (h1 : cells.all (·.oneCell') = true)
  (h : wpList P ops Q rest (a.put o.dst undef) (w.alloc (.cells cells t))) : wpList P ops Q (o :: rest) a (w.alloc (.cells old t)) :=
 wpList_store_row hgd ty x y ho w.heap.size cells hx hy t old (heap_alloc_new w _) hi hold h1 (by rw [setRow_alloc]; exact h)
end Go.Proofs.YteifgmdaggiaaaaGreatDoor
namespace Go.Proofs.YteifgmdaggiaaaaGreatDoor
open Go.RowKit
theorem info_byte : (Tryz.prog.info? 5).map (fun i => (i.zero, i.size, i.bytes)) = some (some (.int .u8 0), 1, 1) := by kernel_rfl
/-- Natural numbers as integers. -/
def ints (xs : List Nat) : List Int := xs.map fun x : Nat => (x : Int)
theorem ints_length (a : List Nat) : (ints a).length = a.length := by simp [ints]
theorem ints_getD (a : List Nat) (j : Nat) : (ints a).getD j 0 = ((a.getD j 0 : Nat) : Int) := by
 by_cases h : j < a.length
 · simp [ints, List.getD, h]
 · simp [ints, List.getD, h]
/-- One cell in a new block. -/
theorem Rd.one {k : IntKind} {w : World} {t : TypeId} (x : Int) : Rd k (w.alloc (.cells #[.int k x] t)) (some ⟨w.heap.size, 0, none⟩) 1 [x] :=
 ⟨rfl, fun _ => ⟨_, rfl, fun j hj => by
   obtain rfl : j = 0 := by omega
   simp [Addr.add]⟩⟩
end Go.Proofs.YteifgmdaggiaaaaGreatDoor
namespace Go.Proofs.YteifgmdaggiaaaaGreatDoor
open Go.RowKit
theorem u8_nat {b : Int} (h : (Lit.int .u8 b).wf = true) : ∃ n : Nat, b = (n : Int) ∧ n < 256 := by
 simp only [Lit.wf, Bool.and_eq_true, decide_eq_true_eq] at h
 have e1 : IntKind.u8.min = 0 := rfl
 have e2 : IntKind.u8.max = 255 := rfl
 exact ⟨b.toNat, by omega, by omega⟩
theorem u16_nat {b : Int} (h : (Lit.int .u16 b).wf = true) : ∃ n : Nat, b = (n : Int) ∧ n < 65536 := by
 simp only [Lit.wf, Bool.and_eq_true, decide_eq_true_eq] at h
 have e1 : IntKind.u16.min = 0 := rfl
 have e2 : IntKind.u16.max = 65535 := rfl
 exact ⟨b.toNat, by omega, by omega⟩
theorem min2_int {P : Program} (x y : Int) (W : World) (ts : Array TypeId) (t : TypeId) :
  (Builtin.min_ ts t #[.int .i64 x, .int .i64 y]).run P W = .ok (.int .i64 (if y < x then y else x)) W := by
 simp [Builtin.min_, Builtin.min2]
theorem min2_ok {P : Program} (la lb n : Nat) (x y : Int) (hx : x = la) (hy : y = lb) (h : n = min la lb) (W : World) (ts : Array TypeId) (t : TypeId) :
  (Builtin.min_ ts t #[.int .i64 x, .int .i64 y]).run P W = .ok (.int .i64 (n : Int)) W := by
 rw [min2_int]
 subst h hx hy
 congr 2
 split <;> omega
end Go.Proofs.YteifgmdaggiaaaaGreatDoor
namespace Go.Proofs.YteifgmdaggiaaaaGreatDoor
open Go Go.RowKit
section
variable {P : Program} {md : Region.Mode} {ops : Array Oper} {Q : Exit → Act → World → Prop}
theorem wpAnyH_mono {S S' : World → Prop} (hS : ∀ w, S' w → S w) : ∀ (fuel : Nat) (listed : Array Bool) (a : Act) (w : World), wpAnyH P md ops Q S' fuel listed a w → wpAnyH P md ops Q S fuel listed a w
 | 0, _, _, _, h => h
 | fuel + 1, _, _, _, h => ⟨h.1, fun i hi => wpOp_mono (fun a' w' h' => ⟨hS w' h'.1, wpAnyH_mono hS fuel _ a' w' h'.2⟩) (h.2 i hi)⟩
theorem wpAnyH_rebase {w0 wp : World} (hb : Below w0.heap.size w0 wp) {fuel : Nat} {listed : Array Bool} {a : Act} {w : World}
  (h : wpAnyH P md ops Q (fun w' => Below wp.heap.size wp w') fuel listed a w) : wpAnyH P md ops Q (fun w' => Below w0.heap.size w0 w') fuel listed a w :=
 wpAnyH_mono (fun _ h' => hb.trans (h'.mono hb.size)) fuel listed a w h
/-- What yields in every world that meets S is taken first: its slot by its number. -/
theorem take_at {S : World → Prop} (i d : Nat) {oi : Oper} {v : Value} {fuel : Nat} {listed : Array Bool} {a : Act} {w : World} (hi : ops[i]? = some oi) (hd : oi.dst = some d)
  (hs : Region.noSelect ops = true) (hf : Region.free md ops listed i = true) (hr : (Region.ready md ops listed).contains i = true)
  (hQ : ∀ c a w, Q (.panic c) (a.put (some d) v) w → Q (.panic c) a w) (hy : YieldsIf P ops S oi v a) (hS : S w)
  (h : wpAnyH P md ops Q S fuel (listed.setIfInBounds i true) (a.put (some d) v) w) : wpAnyH P md ops Q S (fuel + 1) listed a w :=
 wpAnyH_take hi hs hf hr (fun c a w h' => hQ c a w (hd ▸ h')) hy hS (hd ▸ h)
/-- The same, of one that is wanted: what the kernel sees by itself is left to it. -/
theorem tk {S : World → Prop} (i d : Nat) {oi : Oper} {v : Value} {fuel : Nat} {listed : Array Bool} {a : Act} {w : World}
  (hy : ∀ w', S w' → (execOp a.eval oi).run P w' = .ok (.value v) w') (h : wpAnyH P md ops Q S fuel (listed.setIfInBounds i true) (a.put (some d) v) w)
  (hi : ops[i]? = some oi := by rfl) (hd : oi.dst = some d := by rfl) (hs : Region.noSelect ops = true := by kernel_rfl) (hf : Region.free md ops listed i = true := by kernel_rfl)
  (hr : (Region.ready md ops listed).contains i = true := by kernel_rfl) (hQ : ∀ c a w, Q (.panic c) (a.put (some d) v) w → Q (.panic c) a w := by exact fun _ _ _ h => h)
  (hw : Region.wanted oi (yielded ops a.tmps) = true := by rfl) (hS : S w := by assumption) : wpAnyH P md ops Q S (fuel + 1) listed a w :=
 take_at i d hi hd hs hf hr hQ (Or.inl ⟨hw, hy⟩) hS h
end
theorem sA {α : Type} {l : List α} {i : Nat} {a : α} : l.toArray.setIfInBounds i a = (l.set i a).toArray := by rw [List.setIfInBounds_toArray]
theorem sB {α : Type} {x : α} {l : List α} {i : Nat} {a : α} : (x :: l).set (i + 1) a = x :: l.set i a := rfl
theorem sC {α : Type} {x : α} {l : List α} {a : α} : (x :: l).set 0 a = a :: l := rfl
set_option linter.unusedVariables false
/-- How a value of a type lies in memory: so many cells, one behind the other. -/
structure Shape (α : Type) where
 size : Nat
 ty : TypeId
 cells : α → List Value
 pos : 0 < size
 len : ∀ a, (cells a).length = size
 one : ∀ a, ∀ u ∈ cells a, u.oneCell' = true
section
variable {α : Type} (S : Shape α)
/-- The cells of all of them. -/
def Shape.flat : List α → List Value
 | [] => []
 | a :: r => S.cells a ++ Shape.flat r
theorem Shape.flat_len : ∀ zs : List α, (S.flat zs).length = zs.length * S.size
 | [] => by simp [Shape.flat]
 | a :: r => by simp only [Shape.flat, List.length_append, List.length_cons, S.len, Shape.flat_len r]; rw [Nat.add_mul]; omega
theorem Shape.flat_append : ∀ a b : List α, S.flat (a ++ b) = S.flat a ++ S.flat b
 | [], b => rfl
 | a :: r, b => by simp only [List.cons_append, Shape.flat, Shape.flat_append r b, List.append_assoc]
theorem Shape.flat_one (zs : List α) : ∀ u ∈ S.flat zs, u.oneCell' = true := by
 induction zs with
 | nil => simp [Shape.flat]
 | cons a r ih =>
   intro u hu
   simp only [Shape.flat, List.mem_append] at hu
   rcases hu with hu | hu
   · exact S.one a u hu
   · exact ih u hu
theorem Shape.succ_at (j i : Nat) : (j + 1) * S.size + i = S.size + (j * S.size + i) := by rw [Nat.add_mul]; omega
theorem Shape.flat_get : ∀ {zs : List α} {j : Nat} {a : α}, zs[j]? = some a → ∀ i, i < S.size → (S.flat zs)[j * S.size + i]? = (S.cells a)[i]?
 | [], j, a, h, i, hi => by simp at h
 | b :: r, 0, a, h, i, hi => by
   simp at h; subst h
   simp only [Shape.flat, Nat.zero_mul, Nat.zero_add]
   rw [List.getElem?_append_left (by rw [S.len]; exact hi)]
 | b :: r, j + 1, a, h, i, hi => by
   have h' : r[j]? = some a := by simpa using h
   rw [S.succ_at, ← Shape.flat_get h' i hi]
   simp only [Shape.flat]
   rw [List.getElem?_append_right (by rw [S.len]; omega), S.len]
   congr 1
   omega
theorem Shape.flat_set : ∀ {zs : List α} {j : Nat} {a : α}, zs[j]? = some a → ∀ (i : Nat) (u : Value) (b : α), i < S.size → (S.cells a).set i u = S.cells b → (S.flat zs).set (j * S.size + i) u = S.flat (zs.set j b)
 | [], j, a, h, i, u, b, hi, hs => by simp at h
 | c :: r, 0, a, h, i, u, b, hi, hs => by
   simp at h; subst h
   simp only [Shape.flat, Nat.zero_mul, Nat.zero_add, List.set_cons_zero]
   rw [List.set_append_left _ _ (by rw [S.len]; exact hi), hs]
 | c :: r, j + 1, a, h, i, u, b, hi, hs => by
   have h' : r[j]? = some a := by simpa using h
   have ih := Shape.flat_set h' i u b hi hs
   rw [S.succ_at]
   simp only [Shape.flat, List.set_cons_succ]
   rw [List.set_append_right _ _ (by rw [S.len]; omega), S.len, ← ih]
   congr 2
   omega
/-- The record at j behind ad. -/
def AtS (w : World) (ad : Addr) (j : Nat) (a : α) : Prop := ∀ i u, (S.cells a)[i]? = some u → w.cell? (ad.add (j * S.size + i)) = some u
/-- The slice of records at A reads as them. -/
def RdS (w : World) (A : Option Addr) (zs : List α) : Prop := 0 < zs.length → ∃ ad, A = some ad ∧ ∀ (j : Nat) (a : α), zs[j]? = some a → AtS S w ad j a
/-- The slice v of records is the call's own (its block is from 'base' on). -/
def OwnS (w : World) (base : Nat) (v : Value) (zs : List α) : Prop := w.ownsRow base S.ty S.size v zs.length (S.flat zs)
end
section
variable {α : Type} {S : Shape α} {w w' : World} {A : Option Addr} {zs : List α} {base g n cap j : Nat} {a : α} {v : Value} {ad : Addr}
theorem AtS.keep (h : AtS S w ad j a) (hk : ∀ p : Addr, p.block < w.heap.size → w'.cell? p = w.cell? p) : AtS S w' ad j a :=
 fun i u hu => by rw [hk _ (World.block_lt_of_cell? w _ (h i u hu))]; exact h i u hu
theorem RdS.nil : RdS S w A [] := fun h => absurd h (by simp)
theorem RdS.keep (h : RdS S w A zs) (hk : ∀ p : Addr, p.block < w.heap.size → w'.cell? p = w.cell? p) : RdS S w' A zs := fun hn => by
 obtain ⟨ad, he, hc⟩ := h hn
 exact ⟨ad, he, fun j a hj => (hc j a hj).keep hk⟩
theorem RdS.below (h : RdS S w A zs) (hb : Below w.heap.size w w') : RdS S w' A zs := h.keep fun _ hp => hb.cell hp
theorem RdS.drewN (h : RdS S w A zs) (m : Nat) : RdS S (w.drewN m) A zs := h.keep fun _ _ => rfl
theorem RdS.drew (h : RdS S w A zs) : RdS S w.drew A zs := h.keep fun _ _ => rfl
theorem RdS.alloc (h : RdS S w A zs) (o : Obj) : RdS S (w.alloc o) A zs := h.keep fun p hp => World.cell?_alloc_lt w o p hp
theorem RdS.at_ (h : RdS S w A zs) (hj : zs[j]? = some a) : ∃ ad, A = some ad ∧ AtS S w ad j a := by
 have hlt : j < zs.length := (List.getElem?_eq_some_iff.1 hj).1
 obtain ⟨ad, he, hc⟩ := h (by omega)
 exact ⟨ad, he, hc j a hj⟩
theorem RdS.front (h : RdS S w A zs) (k : Nat) : RdS S w A (zs.take k) := fun hn => by
 rw [List.length_take] at hn
 obtain ⟨ad, he, hc⟩ := h (by omega)
 refine ⟨ad, he, fun j a hj => hc j a ?_⟩
 rw [List.getElem?_take] at hj
 split at hj
 · exact hj
 · cases hj
theorem OwnS.nil : OwnS S w base (.slice none 0 0) [] := World.ownsRow_nil w base _ S.size
theorem OwnS.alloc (h : OwnS S w base v zs) (o : Obj) : OwnS S (w.alloc o) base v zs := World.ownsRow.alloc h o
theorem OwnS.drew (h : OwnS S w base v zs) : OwnS S w.drew base v zs := h
theorem OwnS.drewN (h : OwnS S w base v zs) (m : Nat) : OwnS S (w.drewN m) base v zs := h
theorem OwnS.less {b : Nat} (h : OwnS S w base v zs) (hb : b ≤ base) : OwnS S w b v zs := by
 refine ⟨h.1, ?_⟩
 rcases h.2 with h | ⟨g, cap, cur, hv, hg, r⟩
 · exact .inl h
 · exact .inr ⟨g, cap, cur, hv, by omega, r⟩
theorem OwnS.same (h : OwnS S w base v zs) (hs : ∀ g, v.ownBlock = some g → w'.heap[g]? = w.heap[g]?) : OwnS S w' base v zs := by
 refine ⟨h.1, ?_⟩
 rcases h.2 with h | ⟨g, cap, cur, hv, hg, hh, r⟩
 · exact .inl h
 · exact .inr ⟨g, cap, cur, hv, hg, by rw [hs g (by rw [hv]; rfl)]; exact hh, r⟩
theorem OwnS.rowLt (h : OwnS S w base v zs) : ∀ g, v.ownBlock = some g → base ≤ g := fun g hg => (World.ownsRow.lt h g hg).1
theorem OwnS.below (h : OwnS S w base v zs) (hb : Below w.heap.size w w') : OwnS S w' base v zs := h.same fun g hg => hb.block g (World.ownsRow.lt h g hg).2
theorem OwnS.setOther {p : Addr} {u : Value} (h : OwnS S w base v zs) (hp : ∀ g, v.ownBlock = some g → g ≠ p.block) : OwnS S (w.setCell p u) base v zs :=
 h.same fun i hi => Below.heap_setCell _ _ _ _ (hp i hi)
theorem OwnS.open_ (h : OwnS S w base v zs) (hn : 0 < zs.length) : ∃ g cap, v = .slice (some ⟨g, 0, none⟩) zs.length cap ∧ base ≤ g ∧ g < w.heap.size ∧ zs.length ≤ cap ∧ cap ≤ maxLen := by
 rcases h.2 with ⟨_, h0⟩ | ⟨g, cap, cur, hv, hb, hg, hnc, hcm, _⟩
 · omega
 · exact ⟨g, cap, hv, hb, (Array.getElem?_eq_some_iff.1 hg).1, hnc, hcm⟩
theorem OwnS.at_ (h : OwnS S w base (.slice (some ⟨g, 0, none⟩) n cap) zs) (hj : zs[j]? = some a) (i : Nat) (u : Value) (hu : (S.cells a)[i]? = some u) : w.cell? ⟨g, j * S.size + i, none⟩ = some u := by
 have hi : i < S.size := by have := (List.getElem?_eq_some_iff.1 hu).1; rw [S.len] at this; exact this
 have hc := World.ownsRow.cells h (g := g) rfl (j * S.size + i) u (by rw [S.flat_get hj i hi]; exact hu)
 rw [add_flat] at hc
 exact hc
theorem OwnS.rd (h : OwnS S w base (.slice A n cap) zs) : RdS S w A zs := fun hn => by
 obtain ⟨g, c, hv, _⟩ := h.open_ hn
 injection hv with e1 e2 e3
 subst e1 e2 e3
 exact ⟨_, rfl, fun j a hj i u hu => by rw [add_flat]; exact h.at_ hj i u hu⟩
/-- The slice's own form: its address, its capacity; and that it reads. -/
theorem OwnS.form (h : OwnS S w base v zs) : ∃ A cap, v = .slice A zs.length cap ∧ RdS S w A zs ∧ zs.length ≤ cap ∧ cap ≤ maxLen ∧ (A = none → zs.length = 0 ∧ cap = 0) := by
 have hrd : ∀ A n c, v = .slice A n c → RdS S w A zs := fun A n c e => by rw [e] at h; exact h.rd
 rcases h.2 with ⟨hv, hn⟩ | ⟨g, cap, cur, hv, hb, hg, hnc, hcm, _⟩
 · exact ⟨none, 0, by rw [hn]; exact hv, hrd _ _ _ hv, by omega, by simp [maxLen], fun _ => ⟨hn, rfl⟩⟩
 · exact ⟨_, cap, hv, hrd _ _ _ hv, hnc, hcm, fun h => by cases h⟩
theorem OwnS.unfrozen (h : OwnS S w base (.slice (some ⟨g, 0, none⟩) n cap) zs) (hn : n = zs.length) (i : Nat) : w.frozen? ⟨g, i, none⟩ = false := by
 subst hn; exact World.ownsRow.frozenAt h i
/-- One cell of one of them laid anew. -/
theorem OwnS.set (h : OwnS S w base (.slice (some ⟨g, 0, none⟩) n cap) zs) (hn : n = zs.length) (hj : zs[j]? = some a) (i : Nat) (u : Value) (b : α) (hi : i < S.size) (hb : (S.cells a).set i u = S.cells b) :
  OwnS S (w.setCell ⟨g, j * S.size + i, none⟩ u) base (.slice (some ⟨g, 0, none⟩) n cap) (zs.set j b) := by
 subst hn
 have := (World.ownsRow.stored h (j * S.size + i) u).1
 rw [S.flat_set hj i u b hi hb] at this
 unfold OwnS
 rw [List.length_set]
 exact this
/-- The first of them, in the same memory. -/
theorem OwnS.front (h : OwnS S w base (.slice (some ⟨g, 0, none⟩) n cap) zs) (hn : n = zs.length) (k : Nat) (hk : k ≤ n) : OwnS S w base (.slice (some ⟨g, 0, none⟩) k cap) (zs.take k) := by
 subst hn
 have e : S.flat (zs.take k) = (S.flat zs).take (k * S.size) := by
  have h1 : S.flat zs = S.flat (zs.take k) ++ S.flat (zs.drop k) := by rw [← S.flat_append, List.take_append_drop]
  rw [h1, List.take_left' (by rw [S.flat_len, List.length_take]; congr 1; omega)]
 have hkl : (zs.take k).length = k := by rw [List.length_take]; omega
 unfold OwnS
 rw [hkl]
 refine ⟨by rw [S.flat_len, hkl], ?_⟩
 rcases h.2 with ⟨h0, _⟩ | ⟨g', cap', cur, hv, hb, hg, hnc, hcm, hs, ht⟩
 · cases h0
 · injection hv with e1 e2 e3
   injection e1 with e1
   injection e1 with e1
   subst e1 e3
   exact .inr ⟨g, cap, cur, rfl, hb, hg, by omega, hcm, hs, by rw [e, ← ht, List.take_take]; congr 1; rw [Nat.min_eq_left (Nat.mul_le_mul_right _ hk)]⟩
/-- A slice written out. -/
theorem OwnS.lit (w : World) (zs : List α) (base : Nat) (hn : zs.length ≤ maxLen) (hb : base ≤ w.heap.size) (cs : Array Value) (hc : cs.toList = S.flat zs) :
  OwnS S (w.alloc (.cells cs S.ty)) base (.slice (some ⟨w.heap.size, 0, none⟩) zs.length zs.length) zs := by
 unfold OwnS
 rw [← hc]
 exact World.ownsRow_lit w cs zs.length hb hn (by rw [← Array.length_toList, hc, S.flat_len])
end
section
variable {α : Type} (S : Shape α)
set_option maxRecDepth 100000 in
/-- copy of as many records as there are, to where there are so many or more. -/
theorem run_copy_rec {P : Program} (st : TypeId) (hu : P.underlying st = some (.slice S.ty)) (hsize : (P.info? S.ty).map (·.size) = some S.size)
  (w : World) (ty : TypeId) (g n dCap : Nat) (A : Option Addr) (sCap : Nat) (cur : Array Value) (t : TypeId) (zs : List α) (hg : w.heap[g]? = some (.cells cur t (0, 0))) (hl : zs.length = n) (hr : RdS S w A zs) (hfit : n * S.size ≤ cur.size) (hnil : A = none → n = 0 ∧ sCap = 0) :
  (Builtin.copy_ #[st, st] ty #[.slice (some ⟨g, 0, none⟩) n dCap, .slice A n sCap]).run P w = .ok (goInt n) (w.setRow g (S.flat zs ++ cur.toList.drop (n * S.size)).toArray) := by
 have hcl : (S.flat zs).length = n * S.size := by rw [S.flat_len, hl]
 cases hq : P.info? S.ty with
 | none => simp [hq] at hsize
 | some i =>
   have hi : i.size = S.size := by simpa [hq] using hsize
   cases A with
   | none =>
     obtain ⟨rfl, rfl⟩ := hnil rfl
     have h0 : zs = [] := List.eq_nil_of_length_eq_zero hl
     subst h0
     have hset : w.setRow g (S.flat [] ++ cur.toList.drop (0 * S.size)).toArray = w := by
      simp only [Shape.flat, List.nil_append, Nat.zero_mul, List.drop_zero, Array.toArray_toList]
      exact setRow_self w g cur t (0, 0) hg
     rw [hset]
     simp [Builtin.copy_, run_underlying hu, Builtin.lenOf, Builtin.firstCells, sizeOf, typeInfo, hq, storeCells]
   | some a =>
     have hsrc : ∀ j v, (S.flat zs)[j]? = some v → w.cell? (a.add j) = some v := by
      intro j v hv
      have hj : j < n * S.size := by have := (List.getElem?_eq_some_iff.1 hv).1; omega
      have hdm : j / S.size * S.size + j % S.size = j := Nat.div_add_mod' j S.size
      have hm : j % S.size < S.size := Nat.mod_lt _ S.pos
      have hqn : j / S.size < n := Nat.div_lt_of_lt_mul (by rw [Nat.mul_comm]; exact hj)
      obtain ⟨ad, he, hc⟩ := hr (by rw [hl]; exact Nat.lt_of_le_of_lt (Nat.zero_le _) hqn)
      injection he with he
      subst he
      have hz : zs[j / S.size]? = some zs[j / S.size] := List.getElem?_eq_getElem (by rw [hl]; exact hqn)
      have h1 := S.flat_get hz _ hm
      rw [hdm, hv] at h1
      have h2 := hc (j / S.size) _ hz _ v h1.symm
      rw [hdm] at h2
      exact h2
     have hld := run_loadCells_list (P := P) w a (S.flat zs) hsrc
     rw [hcl] at hld
     have hst := run_storeCells_at P g 0 t (S.flat zs) 0 cur w hg (by omega) (S.flat_one zs)
     rw [hcl] at hst
     simp only [Nat.add_zero, Nat.zero_add, List.take_zero, List.nil_append] at hst
     have hmin : Nat.min n n = n := Nat.min_self n
     simp [Builtin.copy_, run_underlying hu, Builtin.lenOf, Builtin.firstCells, sizeOf, typeInfo, hq, hi, hmin, hld, hst]
/-- What a copy into a block just made leaves is the call's own. -/
theorem OwnS.copied {w : World} {g n cap : Nat} {cur : Array Value} {zs : List α} {base : Nat} (hg : w.heap[g]? = some (.cells cur S.ty (0, 0))) (hl : zs.length = n) (hnc : n ≤ cap) (hcm : cap ≤ maxLen) (hsz : cur.size = cap * S.size) (hb : base ≤ g) :
  OwnS S (w.setRow g (S.flat zs ++ cur.toList.drop (n * S.size)).toArray) base (.slice (some ⟨g, 0, none⟩) n cap) zs := by
 subst hl
 have hcl := S.flat_len zs
 have hle : zs.length * S.size ≤ cap * S.size := Nat.mul_le_mul_right _ hnc
 refine ⟨hcl, .inr ⟨g, cap, _, rfl, hb, setRow_heap _ _ _ _ _ _ hg, hnc, hcm, ?_, ?_⟩⟩
 · simp only [List.size_toArray, List.length_append, List.length_drop, Array.length_toList, hcl, hsz]; omega
 · rw [List.take_left' (by rw [hcl])]
end
section
variable {α : Type} (S : Shape α)
/-- One record more, in a region. -/
theorem step_append_rec {P : Program} {bytes : Nat} {z : Value} (st : TypeId) (hu : P.underlying st = some (.slice S.ty)) (hinfo : (P.info? S.ty).map (fun i => (i.zero, i.size, i.bytes)) = some (some z, S.size, bytes)) (hzc : z.cells.size = S.size)
  {ops : Array Oper} {o : Oper} {a : Act} {w : World} {K : Act → World → Prop} {Q : Exit → Act → World → Prop} {E : Prop} (hgd : o.guard = none) (d : Nat) (hd : o.dst = some d) (s x : Operand)
  (ho : o.op = .call { callee := .builtin .append, args := #[s, x], argTypes := #[st, st] })
  (base : Nat) (v : Value) (zs : List α) (hs : a.eval s = v) (hown : OwnS S w base v zs) (ad : Addr) (c : Nat) (b : α) (hx : a.eval x = .slice (some ad) 1 c) (hc : AtS S w ad 0 b) (hl : zs.length ≤ 17592186043904) (hby : (zs.length + 1) * bytes ≤ 140737488355328) (hbase : base ≤ w.heap.size)
  (h : ∀ v' w', OwnS S w' base v' (zs ++ [b]) → w.grownBy w' v.ownBlock → K (a.put (some d) v') w') :
  if Region.wanted o (yielded ops a.tmps) = true then Oper.wp P o a w K Q else E := by
 have hw : Region.wanted o (yielded ops a.tmps) = true := by simp [Region.wanted, hgd]
 rw [if_pos hw]
 obtain ⟨i0, hi, hz0, hz1, hz2⟩ := info_parts hinfo
 have hfl : S.flat [b] = S.cells b := by simp [Shape.flat]
 obtain ⟨v', w', hrun, h2, h3, _⟩ := run_append_own (P := P) w base st o.type S.ty i0 _ S.size bytes hu hi hz0 hz1 hz2 hzc S.pos v zs.length (S.flat zs) hown ad 1 c (S.flat [b]) (by rw [hfl, S.len, Nat.one_mul])
  (fun j u hu => by
    rw [hfl] at hu
    have := hc j u hu
    rw [Nat.zero_mul, Nat.zero_add] at this
    exact this) (S.flat_one _) (by simp only [maxLen]; omega) hby hbase
 unfold Oper.wp execOp
 simp only [ho, resolve, invoke, builtin, Sem.run_bind, Sem.run_pure, Result.andThen_ok, List.map_toArray, List.map_cons, List.map_nil, hs, hx, hrun]
 show K (a.put o.dst v') w'
 rw [hd]
 refine h v' w' ?_ h3
 unfold OwnS
 rw [List.length_append, S.flat_append]
 exact h2
theorem grown_at {w w' : World} {g n c k : Nat} (h : w.grownBy w' (Value.slice (some ⟨g, 0, none⟩) n c).ownBlock) (hk : k < w.heap.size) (hne : k ≠ g) : w'.heap[k]? = w.heap[k]? := h.block k hk (fun e => hne (by simpa [Value.ownBlock] using e))
theorem below_grown {B g n c : Nat} {a w w' : World} (h : Below B a w) (hg : w.grownBy w' (Value.slice (some ⟨g, 0, none⟩) n c).ownBlock) (hB : B ≤ w.heap.size) (hr : B ≤ g) : Below B a w' :=
 h.grown hg hB (fun k hk => by have hk : g = k := by simpa [Value.ownBlock] using hk
                               omega)
/-- A record in a block. -/
theorem AtS.row {S : Shape α} {w : World} {g : Nat} {cs : Array Value} {t : TypeId} {fr : Nat × Nat} {b : α} (hg : w.heap[g]? = some (.cells cs t fr)) (hc : cs.toList = S.cells b) : AtS S w ⟨g, 0, none⟩ 0 b := fun i u hu => by
 rw [Nat.zero_mul, Nat.zero_add, add_flat, cell_of_row w g i cs t fr hg, ← Array.getElem?_toList, hc]
 exact hu
theorem AtS.new {S : Shape α} {w : World} {cs : Array Value} {t : TypeId} {b : α} (hc : cs.toList = S.cells b) : AtS S (w.alloc (.cells cs t)) ⟨w.heap.size, 0, none⟩ 0 b := AtS.row (heap_alloc_new w _) hc
theorem AtS.below {S : Shape α} {w w' : World} {ad : Addr} {j : Nat} {b : α} (h : AtS S w ad j b) (hb : Below w.heap.size w w') : AtS S w' ad j b := h.keep fun _ hp => hb.cell hp
end
section
variable {α : Type} (S : Shape α)
theorem RdS.cells {S : Shape α} {w : World} {a : Addr} {zs : List α} (hr : RdS S w (some a) zs) : ∀ j v, (S.flat zs)[j]? = some v → w.cell? (a.add j) = some v := by
 intro j v hv
 have hj : j < zs.length * S.size := by have := (List.getElem?_eq_some_iff.1 hv).1; rw [S.flat_len] at this; exact this
 have hdm : j / S.size * S.size + j % S.size = j := Nat.div_add_mod' j S.size
 have hm : j % S.size < S.size := Nat.mod_lt _ S.pos
 have hqn : j / S.size < zs.length := Nat.div_lt_of_lt_mul (by rw [Nat.mul_comm]; exact hj)
 obtain ⟨ad, he, hc⟩ := hr (Nat.lt_of_le_of_lt (Nat.zero_le _) hqn)
 injection he with he
 subst he
 have hz : zs[j / S.size]? = some zs[j / S.size] := List.getElem?_eq_getElem hqn
 have h1 := S.flat_get hz _ hm
 rw [hdm, hv] at h1
 have h2 := hc (j / S.size) _ hz _ v h1.symm
 rw [hdm] at h2
 exact h2
end
end Go.Proofs.YteifgmdaggiaaaaGreatDoor
namespace Go.Proofs.YteifgmdaggiaaaaGreatDoor
open Go Go.RowKit Go.ChangeShapes Go.WideShapes Go.Deep Go.Joins
set_option linter.unusedVariables false
/-- A slice of records: it is nil; or it leads to a row of them. -/
def IsRecs {α : Type} (S : Shape α) (ok : α → Prop) (w : World) (a : Option Addr) (len cap : Nat) : Prop :=
 (a = none ∧ len = 0 ∧ cap = 0) ∨
 ∃ x, a = some x ∧ len ≤ cap ∧ cap ≤ maxLen ∧ ∀ i, i < cap → ∃ z, ok z ∧ AtS S w x i z
section
variable {α : Type} {S : Shape α} {ok : α → Prop} {w : World} {a : Option Addr} {len cap : Nat}
theorem recs_list (h : IsRecs S ok w a len cap) :
  ∃ zs : List α, zs.length = len ∧ RdS S w a zs ∧ (∀ (j : Nat) z, zs[j]? = some z → ok z) ∧ len ≤ cap ∧ cap ≤ maxLen ∧ (a = none → len = 0 ∧ cap = 0) := by
 rcases h with ⟨rfl, rfl, rfl⟩ | ⟨ad, rfl, hl, hm, hx⟩
 · exact ⟨[], rfl, fun h => by simp at h, by simp, Nat.le_refl _, Nat.zero_le _, fun _ => ⟨rfl, rfl⟩⟩
 · by_cases h0 : len = 0
   · subst h0
     exact ⟨[], rfl, fun h => by simp at h, by simp, hl, hm, fun h => by cases h⟩
   · obtain ⟨z0, _, _⟩ := hx 0 (by omega)
     have each : ∀ j, ∃ z : α, j < len → ok z ∧ AtS S w ad j z := by
      intro j
      by_cases hj : j < len
      · obtain ⟨z, h1, h2⟩ := hx j (by omega)
        exact ⟨z, fun _ => ⟨h1, h2⟩⟩
      · exact ⟨z0, fun h => absurd h hj⟩
     have hget : ∀ (j : Nat) z, ((List.range len).map fun j => (each j).choose)[j]? = some z → ok z ∧ AtS S w ad j z := by
      intro j z hj
      rw [List.getElem?_map] at hj
      by_cases hjl : j < len
      · rw [List.getElem?_range hjl] at hj
        simp at hj
        subst hj
        exact (each j).choose_spec hjl
      · simp [hjl] at hj
     exact ⟨(List.range len).map fun j => (each j).choose, by simp, fun _ => ⟨ad, rfl, fun j z hj => (hget j z hj).2⟩, fun j z hj => (hget j z hj).1, hl, hm, fun h => by cases h⟩
end
section
variable {P : Program} {H : Type} {enc : TypeId × Value → H} {w : World} {base fuel : Nat} {spare : Nat → Bool} {held : Bool} {t : TypeId} {cs : List Value} {x : DataW H × List MemPlace}
/-- One field of a struct. -/
theorem trod_field {fs : Array Field} (ht : P.underlying t = some (.struct fs)) (h : DataW.trod enc P w base spare held fuel t cs = some x) (i : Nat) (f : Field) (hf : fs[i]? = some f) (o c : Nat) (ho : f.offset = o) (hc : P.cellsOf f.type = c) :
  ∃ n y, DataW.trod enc P w base spare held n f.type ((cs.drop o).take c) = some y := by
 obtain ⟨xs, n, _, _, _, hxl, hx⟩ := DataW.trod_struct ht h
 subst ho hc
 have hi : i < xs.length := by rw [hxl]; exact (Array.getElem?_eq_some_iff.1 hf).1
 exact ⟨n, xs[i], by rw [hx i f hf]; exact List.getElem?_eq_getElem hi⟩
/-- A field that is an integer. -/
theorem trod_num {fs : Array Field} (ht : P.underlying t = some (.struct fs)) (h : DataW.trod enc P w base spare held fuel t cs = some x) (k : IntKind) (i : Nat) (f : Field) (hf : fs[i]? = some f) (o : Nat) (ho : f.offset = o) (hc : P.cellsOf f.type = 1) (hk : P.underlying f.type = some (.int k)) :
  ∃ n, (cs.drop o).take 1 = [.int k n] ∧ (Lit.int k n).wf = true := by
 obtain ⟨n, y, g⟩ := trod_field ht h i f hf o 1 ho hc
 obtain ⟨m, e, _, hw⟩ := DataW.trod_int hk g
 exact ⟨m, e, hw⟩
/-- A field that is a bool. -/
theorem trod_flag {fs : Array Field} (ht : P.underlying t = some (.struct fs)) (h : DataW.trod enc P w base spare held fuel t cs = some x) (i : Nat) (f : Field) (hf : fs[i]? = some f) (o : Nat) (ho : f.offset = o) (hc : P.cellsOf f.type = 1) (hk : P.underlying f.type = some .bool) :
  ∃ b, (cs.drop o).take 1 = [.bool b] := by
 obtain ⟨n, y, g⟩ := trod_field ht h i f hf o 1 ho hc
 obtain ⟨m, e, _⟩ := DataW.trod_bool hk g
 exact ⟨m, e⟩
/-- A slice of records that came in. -/
theorem isRecs_of {α : Type} (S : Shape α) (ok : α → Prop) {st : TypeId} (hst : P.underlying st = some (.slice S.ty)) (hsz : P.cellsOf S.ty = S.size) {a : Option Addr} {len cap : Nat}
  (hrec : ∀ n cs y, DataW.trod enc P w 0 (fun _ => true) true n S.ty cs = some y → ∃ z, ok z ∧ cs = S.cells z)
  (h : DataW.trod enc P w 0 (fun _ => true) true fuel st (Value.slice a len cap).cells.toList = some x) : IsRecs S ok w a len cap ∧ (cap = 0 ∨ ∃ es sp, x.1 = .slice es sp ∧ es.length + sp.length = cap) := by
 rcases Go.Deep.open_slice hst h with ⟨hcs, hx0⟩ | ⟨ad, l, c, m, n, D, Pl, hcs, _, hl, hm, hmm, hd, hx⟩
 · simp [Value.cells] at hcs
   exact ⟨.inl hcs, .inl hcs.2.2⟩
 · simp [Value.cells] at hcs
   obtain ⟨rfl, rfl, rfl⟩ := hcs
   simp only [if_true] at hmm
   subst hmm
   refine ⟨.inr ⟨ad, rfl, hl, hm, fun i hi => ?_⟩, .inr ⟨_, _, by rw [hd], by simp; omega⟩⟩
   obtain ⟨cs', h1, h2⟩ := hx i hi
   rw [hsz] at h1
   obtain ⟨_, hlen, hcell⟩ := World.cells?_some h1
   obtain ⟨z, hok, rfl⟩ := hrec _ _ _ h2
   refine ⟨z, hok, fun j u hu => ?_⟩
   have hj : j < S.size := by have := (List.getElem?_eq_some_iff.1 hu).1; rw [S.len] at this; exact this
   have := hcell j hj
   rw [add_add] at this
   rw [this, ← hu]
end
end Go.Proofs.YteifgmdaggiaaaaGreatDoor
namespace Go.Proofs.YteifgmdaggiaaaaGreatDoor
open Go Go.RowKit
set_option linter.unusedVariables false
/-- The block g holds these cells. -/
def Blk (w : World) (g : Nat) (t : TypeId) (vs : Array Value) : Prop := w.heap[g]? = some (.cells vs t (0, 0))
section
variable {w w' : World} {g B : Nat} {t : TypeId} {vs : Array Value}
theorem Blk.new (w : World) (t : TypeId) (vs : Array Value) : Blk (w.alloc (.cells vs t)) w.heap.size t vs := heap_alloc_new w _
theorem Blk.below (h : Blk w g t vs) (hb : Below B w w') (hg : g < B) : Blk w' g t vs := (hb.block g hg).trans h
theorem Blk.alloc (h : Blk w g t vs) (o : Obj) (hg : g < w.heap.size) : Blk (w.alloc o) g t vs := (Below.heap_alloc w o g hg).trans h
theorem Blk.lt (h : Blk w g t vs) : g < w.heap.size := (Array.getElem?_eq_some_iff.1 h).1
theorem Blk.more (h : Blk w g t vs) (o : Obj) : Blk (w.alloc o) g t vs := h.alloc o h.lt
theorem Blk.later (h : Blk w g t vs) (hb : Below w.heap.size w w') : Blk w' g t vs := h.below hb h.lt
theorem Blk.drew (h : Blk w g t vs) : Blk w.drew g t vs := h
theorem Blk.drewN (h : Blk w g t vs) (m : Nat) : Blk (w.drewN m) g t vs := h
theorem Blk.cell (h : Blk w g t vs) (i : Nat) {v : Value} (hv : vs[i]? = some v) : w.cell? ⟨g, i, none⟩ = some v := (cell_of_row w g i _ _ _ h).trans hv
theorem Blk.loose (h : Blk w g t vs) (i : Nat) : w.frozen? ⟨g, i, none⟩ = false := frozen_of_row w g i _ _ h
theorem Blk.set (h : Blk w g t vs) (i : Nat) (v : Value) : Blk (w.setCell ⟨g, i, none⟩ v) g t (vs.setIfInBounds i v) := by
 unfold Blk at h ⊢
 simp [World.setCell, Array.getElem?_modify, h]
theorem Blk.setOther (h : Blk w g t vs) {b : Nat} (hb : b ≠ g) (i : Nat) (v : Value) : Blk (w.setCell ⟨b, i, none⟩ v) g t vs := by
 unfold Blk at h ⊢
 simp [World.setCell, Array.getElem?_modify, h, hb]
theorem Blk.grown {r : Option Nat} (h : Blk w g t vs) (hg : w.grownBy w' r) (hr : some g ≠ r) : Blk w' g t vs := (hg.block g h.lt hr).trans h
end
/-- Two structs that are told. -/
theorem results_two {P : Program} {fn : Func} {p q : Tmp} {ty tz : TypeId} (h : fn.results = #[.cell p ty, .cell q tz]) (tmps : Array Value) (w : World) (g b : Nat) (t u : TypeId) (cs ds : Array Value) (fr : Nat × Nat) (d e : TypeDesc)
  (hp : tmps.getD p undef = .pointer (some ⟨g, 0, none⟩)) (hg : w.heap[g]? = some (.cells cs t fr))
  (hu : P.underlying ty = some d) (hd : (match d with | .struct _ | .array _ _ => true | _ => false) = true) (hi : (P.info? ty).map (·.size) = some cs.size)
  (hq : tmps.getD q undef = .pointer (some ⟨b, 0, none⟩)) (hb : w.heap[b]? = some (.cells ds u fr))
  (hv : P.underlying tz = some e) (he : (match e with | .struct _ | .array _ _ => true | _ => false) = true) (hj : (P.info? tz).map (·.size) = some ds.size) :
  (results fn tmps).run P w = .ok (.tuple #[.agg cs, .agg ds]) w := by
 have hp' : tmps[p]?.getD undef = .pointer (some ⟨g, 0, none⟩) := by simpa using hp
 have hq' : tmps[q]?.getD undef = .pointer (some ⟨b, 0, none⟩) := by simpa using hq
 simp [results, h, hp', hq', asAddr, run_loadVar_row w g t ty cs fr d hg hu hd hi, run_loadVar_row w b u tz ds fr e hb hv he hj, Result.andThen]
end Go.Proofs.YteifgmdaggiaaaaGreatDoor
