/-
  Requests: the plain words: seven numbers, and which may be.
  Accounts as plain data; a slice of them that reads as a list; one that is the call's own; what a store, and an append, make of it.
  Which accounts are right, what they come to, what a book's are: plain words, no program.
  Many accounts behind others.
  Entries as plain data; a slice of them that reads as a list; one that is the call's own; what a store, and an append, make of it.
  Which entries are balanced, and the entries by which an amount moves: plain words, no program.
  What entries and holds make of accounts: plain words, no program.
  Payments: the plain words: eight ints, what is left, what may go back, what an op makes of one.
  Payments that came in.
  Slices of payments: their shape and cells.
  Sagas: the plain words: what a saga is, and how it goes on.
  What is known: elements as plain data; which key lies where; what Ask, Put and Tell come to.
-/
import Derived.Test.YteifgmdaggiaaaaGreatDoorWGrA
import Derived.Test.YteifgmdaggiaaaaGreatDoorProg
import Derived.Lib.Hide
namespace Go.Proofs.YteifgmdaggiaaaaGreatDoor
open Go
/-- A request's numbers, in the order of its fields. -/
structure Rq where
 key : Int
 op : Int
 a : Int
 b : Int
 amt : Int
 legs : Int
 til : Int
deriving DecidableEq
def Rq.nums (r : Rq) : List Int := [r.key, r.op, r.a, r.b, r.amt, r.legs, r.til]
def Rq.val (r : Rq) : Value := .agg #[.int .i64 r.key, .int .i64 r.op, .int .i64 r.a, .int .i64 r.b, .int .i64 r.amt, .int .i64 r.legs, .int .i64 r.til]
def Rq.zero : Rq := ⟨0, 0, 0, 0, 0, 0, 0⟩
def inI (x : Int) : Prop := -9223372036854775808 ≤ x ∧ x ≤ 9223372036854775807
def Rq.fits (r : Rq) : Prop := ∀ x ∈ r.nums, inI x
/-- What depends on the op. -/
def opOk (r : Rq) : Prop := if r.op = 0 then 0 ≤ r.a ∧ r.a ≤ 2 else r.op = 5 ∨ (0 < r.op ∧ r.op < 8 ∧ 1 ≤ r.amt ∧ r.amt ≤ 1099511627776)
instance (r : Rq) : Decidable (opOk r) := by unfold opOk; exact inferInstance
def legsOk (r : Rq) : Prop := if r.op = 2 then 0 ≤ r.legs ∧ r.legs ≤ 4 else r.legs = 0
instance (r : Rq) : Decidable (legsOk r) := by unfold legsOk; exact inferInstance
/-- Which requests may be. -/
def Rq.may (r : Rq) : Prop := (0 ≤ r.key ∧ r.key ≤ 1073741823) ∧ legsOk r ∧ (0 ≤ r.til ∧ r.til ≤ 1073741824) ∧ opOk r
instance (r : Rq) : Decidable r.may := by unfold Rq.may; exact inferInstance
/-- Two requests: the same, or unlike first in one field. -/
theorem rq_parts (a b c d e f g a' b' c' d' e' f' g' : Int) : (a = a' ∧ b = b' ∧ c = c' ∧ d = d' ∧ e = e' ∧ f = f' ∧ g = g') ∨ ¬ a = a' ∨ (a = a' ∧ ¬ b = b') ∨ (a = a' ∧ b = b' ∧ ¬ c = c') ∨ (a = a' ∧ b = b' ∧ c = c' ∧ ¬ d = d') ∨ (a = a' ∧ b = b' ∧ c = c' ∧ d = d' ∧ ¬ e = e') ∨ (a = a' ∧ b = b' ∧ c = c' ∧ d = d' ∧ e = e' ∧ ¬ f = f') ∨ (a = a' ∧ b = b' ∧ c = c' ∧ d = d' ∧ e = e' ∧ f = f' ∧ ¬ g = g') := by
 by_cases h0 : a = a'
 · by_cases h1 : b = b'
   · by_cases h2 : c = c'
     · by_cases h3 : d = d'
       · by_cases h4 : e = e'
         · by_cases h5 : f = f'
           · by_cases h6 : g = g' <;> simp [h0, h1, h2, h3, h4, h5, h6]
           · simp [h0, h1, h2, h3, h4, h5]
         · simp [h0, h1, h2, h3, h4]
       · simp [h0, h1, h2, h3]
     · simp [h0, h1, h2]
   · simp [h0, h1]
 · simp [h0]
end Go.Proofs.YteifgmdaggiaaaaGreatDoor
namespace Go.Proofs.YteifgmdaggiaaaaGreatDoor
open Go Go.RowKit
set_option linter.unusedVariables false
theorem info_acc : (Tryz.prog.info? 90).map (fun i => (i.zero, i.size, i.bytes)) = some (some (.agg #[.int .i64 0, .int .i64 0, .int .i64 0]), 3, 24) := by kernel_rfl
/-- An account: its currency, its balance, and what of it is held. -/
structure Ac where
 cur : Int
 bal : Int
 held : Int
/-- It fits Go's int. -/
def isInt (x : Int) : Prop := -9223372036854775808 ≤ x ∧ x ≤ 9223372036854775807
def Ac.fits (a : Ac) : Prop := isInt a.cur ∧ isInt a.bal ∧ isInt a.held
/-- Accounts, cell by cell. -/
def acells : List Ac → List Value
 | [] => []
 | a :: r => .int .i64 a.cur :: .int .i64 a.bal :: .int .i64 a.held :: acells r
theorem acells_len : ∀ zs : List Ac, (acells zs).length = zs.length * 3
 | [] => rfl
 | a :: r => by simp [acells, acells_len r]; omega
theorem acells_append : ∀ a b : List Ac, acells (a ++ b) = acells a ++ acells b
 | [], b => rfl
 | a :: r, b => by simp [acells, acells_append r b]
theorem acells_get : ∀ {zs : List Ac} {j : Nat} {a : Ac}, zs[j]? = some a →
  (acells zs)[j * 3]? = some (.int .i64 a.cur) ∧ (acells zs)[j * 3 + 1]? = some (.int .i64 a.bal) ∧ (acells zs)[j * 3 + 2]? = some (.int .i64 a.held)
 | [], j, a, h => by simp at h
 | b :: r, 0, a, h => by simp at h; subst h; simp [acells]
 | b :: r, j + 1, a, h => by
   have h' : r[j]? = some a := by simpa using h
   obtain ⟨h0, h1, h2⟩ := acells_get h'
   have e : (j + 1) * 3 = j * 3 + 1 + 1 + 1 := by omega
   have e1 : (j + 1) * 3 + 1 = j * 3 + 1 + 1 + 1 + 1 := by omega
   have e2 : (j + 1) * 3 + 2 = j * 3 + 2 + 1 + 1 + 1 := by omega
   rw [e1, e2, e]
   simp only [acells, List.getElem?_cons_succ]
   exact ⟨h0, h1, h2⟩
theorem acells_set : ∀ {zs : List Ac} {j : Nat} {a : Ac}, zs[j]? = some a → ∀ x : Int,
  (acells zs).set (j * 3) (.int .i64 x) = acells (zs.set j ⟨x, a.bal, a.held⟩) ∧ (acells zs).set (j * 3 + 1) (.int .i64 x) = acells (zs.set j ⟨a.cur, x, a.held⟩) ∧ (acells zs).set (j * 3 + 2) (.int .i64 x) = acells (zs.set j ⟨a.cur, a.bal, x⟩)
 | [], j, a, h, x => by simp at h
 | b :: r, 0, a, h, x => by simp at h; subst h; simp [acells]
 | b :: r, j + 1, a, h, x => by
   have h' : r[j]? = some a := by simpa using h
   obtain ⟨h0, h1, h2⟩ := acells_set h' x
   have e : (j + 1) * 3 = j * 3 + 1 + 1 + 1 := by omega
   have e1 : (j + 1) * 3 + 1 = j * 3 + 1 + 1 + 1 + 1 := by omega
   have e2 : (j + 1) * 3 + 2 = j * 3 + 2 + 1 + 1 + 1 := by omega
   rw [e1, e2, e]
   simp only [acells, List.set_cons_succ, h0, h1, h2]
   exact ⟨trivial, trivial, trivial⟩
theorem acells_replicate (n : Nat) : (madeCells #[.int .i64 0, .int .i64 0, .int .i64 0] (n * 3)).toList = acells (List.replicate n ⟨0, 0, 0⟩) := by
 have h : ∀ v ∈ acells (List.replicate n ⟨0, 0, 0⟩), v = Value.int .i64 0 := by
  induction n with
  | zero => simp [acells]
  | succ n ih =>
    intro v hv
    simp only [List.replicate_succ, acells, List.mem_cons] at hv
    rcases hv with rfl | rfl | rfl | hv
    · rfl
    · rfl
    · rfl
    · exact ih v hv
 have h1 : acells (List.replicate n ⟨0, 0, 0⟩) = List.replicate (n * 3) (Value.int .i64 0) := by
  rw [List.eq_replicate_iff]
  exact ⟨by rw [acells_len, List.length_replicate], h⟩
 rw [h1]
 apply List.ext_getElem?
 intro j
 by_cases hj : j < n * 3
 · have h3 : j % 3 = 0 ∨ j % 3 = 1 ∨ j % 3 = 2 := by omega
   rcases h3 with h3 | h3 | h3 <;> simp [madeCells, hj, h3]
 · simp [madeCells, hj]
theorem acells_one (zs : List Ac) : ∀ u ∈ acells zs, u.oneCell' = true := by
 induction zs with
 | nil => simp [acells]
 | cons a r ih =>
   intro u hu
   simp only [acells, List.mem_cons] at hu
   rcases hu with rfl | rfl | rfl | hu
   · rfl
   · rfl
   · rfl
   · exact ih u hu
/-- The account at j behind ad. -/
structure AcAt (w : World) (ad : Addr) (j : Nat) (a : Ac) : Prop where
 c0 : w.cell? (ad.add (j * 3)) = some (.int .i64 a.cur)
 c1 : w.cell? (ad.add (j * 3 + 1)) = some (.int .i64 a.bal)
 c2 : w.cell? (ad.add (j * 3 + 2)) = some (.int .i64 a.held)
/-- The slice of accounts at A reads as them. -/
def RdA (w : World) (A : Option Addr) (zs : List Ac) : Prop := 0 < zs.length → ∃ ad, A = some ad ∧ ∀ (j : Nat) (a : Ac), zs[j]? = some a → AcAt w ad j a
/-- The slice v of accounts is the call's own (its block is from 'base' on). -/
def OwnA (w : World) (base : Nat) (v : Value) (zs : List Ac) : Prop := w.ownsRow base 90 3 v zs.length (acells zs)
section
variable {w w' : World} {A : Option Addr} {zs : List Ac} {base g n cap j : Nat} {a : Ac} {v : Value} {ad : Addr}
theorem AcAt.keep (h : AcAt w ad j a) (hk : ∀ p : Addr, p.block < w.heap.size → w'.cell? p = w.cell? p) : AcAt w' ad j a :=
 ⟨by rw [hk _ (World.block_lt_of_cell? w _ h.c0)]; exact h.c0, by rw [hk _ (World.block_lt_of_cell? w _ h.c1)]; exact h.c1, by rw [hk _ (World.block_lt_of_cell? w _ h.c2)]; exact h.c2⟩
theorem RdA.keep (h : RdA w A zs) (hk : ∀ p : Addr, p.block < w.heap.size → w'.cell? p = w.cell? p) : RdA w' A zs := fun hn => by
 obtain ⟨ad, he, hc⟩ := h hn
 exact ⟨ad, he, fun j a hj => (hc j a hj).keep hk⟩
theorem RdA.below (h : RdA w A zs) (hb : Below w.heap.size w w') : RdA w' A zs := h.keep fun _ hp => hb.cell hp
theorem RdA.drewN (h : RdA w A zs) (m : Nat) : RdA (w.drewN m) A zs := h.keep fun _ _ => rfl
theorem RdA.drew (h : RdA w A zs) : RdA w.drew A zs := h.keep fun _ _ => rfl
theorem RdA.alloc (h : RdA w A zs) (o : Obj) : RdA (w.alloc o) A zs := h.keep fun p hp => World.cell?_alloc_lt w o p hp
theorem RdA.at_ (h : RdA w A zs) (hj : zs[j]? = some a) : ∃ ad, A = some ad ∧ AcAt w ad j a := by
 have hlt : j < zs.length := (List.getElem?_eq_some_iff.1 hj).1
 obtain ⟨ad, he, hc⟩ := h (by omega)
 exact ⟨ad, he, hc j a hj⟩
theorem RdA.front (h : RdA w A zs) (k : Nat) : RdA w A (zs.take k) := fun hn => by
 rw [List.length_take] at hn
 obtain ⟨ad, he, hc⟩ := h (by omega)
 refine ⟨ad, he, fun j a hj => hc j a ?_⟩
 rw [List.getElem?_take] at hj
 split at hj
 · exact hj
 · cases hj
theorem OwnA.alloc (h : OwnA w base v zs) (o : Obj) : OwnA (w.alloc o) base v zs := World.ownsRow.alloc h o
theorem OwnA.drew (h : OwnA w base v zs) : OwnA w.drew base v zs := h
theorem OwnA.drewN (h : OwnA w base v zs) (m : Nat) : OwnA (w.drewN m) base v zs := h
theorem OwnA.less {b : Nat} (h : OwnA w base v zs) (hb : b ≤ base) : OwnA w b v zs := by
 refine ⟨h.1, ?_⟩
 rcases h.2 with h | ⟨g, cap, cur, hv, hg, r⟩
 · exact .inl h
 · exact .inr ⟨g, cap, cur, hv, by omega, r⟩
theorem OwnA.same (h : OwnA w base v zs) (hs : ∀ g, v.ownBlock = some g → w'.heap[g]? = w.heap[g]?) : OwnA w' base v zs := by
 refine ⟨h.1, ?_⟩
 rcases h.2 with h | ⟨g, cap, cur, hv, hg, hh, r⟩
 · exact .inl h
 · exact .inr ⟨g, cap, cur, hv, hg, by rw [hs g (by rw [hv]; rfl)]; exact hh, r⟩
theorem OwnA.rowLt (h : OwnA w base v zs) : ∀ g, v.ownBlock = some g → base ≤ g := fun g hg => (World.ownsRow.lt h g hg).1
theorem OwnA.below (h : OwnA w base v zs) (hb : Below w.heap.size w w') : OwnA w' base v zs := h.same fun g hg => hb.block g (World.ownsRow.lt h g hg).2
theorem OwnA.setOther {p : Addr} {u : Value} (h : OwnA w base v zs) (hp : ∀ g, v.ownBlock = some g → g ≠ p.block) : OwnA (w.setCell p u) base v zs :=
 h.same fun i hi => Below.heap_setCell _ _ _ _ (hp i hi)
theorem OwnA.open_ (h : OwnA w base v zs) (hn : 0 < zs.length) : ∃ g cap, v = .slice (some ⟨g, 0, none⟩) zs.length cap ∧ base ≤ g ∧ g < w.heap.size ∧ zs.length ≤ cap ∧ cap ≤ maxLen := by
 rcases h.2 with ⟨_, h0⟩ | ⟨g, cap, cur, hv, hb, hg, hnc, hcm, _⟩
 · omega
 · exact ⟨g, cap, hv, hb, (Array.getElem?_eq_some_iff.1 hg).1, hnc, hcm⟩
theorem OwnA.at_ (h : OwnA w base (.slice (some ⟨g, 0, none⟩) n cap) zs) (hj : zs[j]? = some a) :
  w.cell? ⟨g, j * 3, none⟩ = some (.int .i64 a.cur) ∧ w.cell? ⟨g, j * 3 + 1, none⟩ = some (.int .i64 a.bal) ∧ w.cell? ⟨g, j * 3 + 2, none⟩ = some (.int .i64 a.held) := by
 have hc := World.ownsRow.cells h (g := g) rfl
 obtain ⟨h0, h1, h2⟩ := acells_get hj
 have hadd : ∀ i, (⟨g, 0, none⟩ : Addr).add i = ⟨g, i, none⟩ := fun i => by unfold Addr.add; split <;> simp_all
 have k0 := hc _ _ h0
 have k1 := hc _ _ h1
 have k2 := hc _ _ h2
 rw [hadd] at k0 k1 k2
 exact ⟨k0, k1, k2⟩
theorem OwnA.rd (h : OwnA w base (.slice A n cap) zs) : RdA w A zs := fun hn => by
 obtain ⟨g, c, hv, _⟩ := h.open_ hn
 injection hv with e1 e2 e3
 subst e1 e2 e3
 have hadd : ∀ i, (⟨g, 0, none⟩ : Addr).add i = ⟨g, i, none⟩ := fun i => by unfold Addr.add; split <;> simp_all
 refine ⟨_, rfl, fun j a hj => ?_⟩
 obtain ⟨h0, h1, h2⟩ := h.at_ hj
 exact ⟨by rw [hadd]; exact h0, by rw [hadd]; exact h1, by rw [hadd]; exact h2⟩
theorem OwnA.unfrozen (h : OwnA w base (.slice (some ⟨g, 0, none⟩) n cap) zs) (hn : n = zs.length) (i : Nat) : w.frozen? ⟨g, i, none⟩ = false := by
 subst hn; exact World.ownsRow.frozenAt h i
theorem OwnA.set (h : OwnA w base (.slice (some ⟨g, 0, none⟩) n cap) zs) (hn : n = zs.length) (hj : zs[j]? = some a) (x : Int) :
  OwnA (w.setCell ⟨g, j * 3, none⟩ (.int .i64 x)) base (.slice (some ⟨g, 0, none⟩) n cap) (zs.set j ⟨x, a.bal, a.held⟩) ∧
  OwnA (w.setCell ⟨g, j * 3 + 1, none⟩ (.int .i64 x)) base (.slice (some ⟨g, 0, none⟩) n cap) (zs.set j ⟨a.cur, x, a.held⟩) ∧
  OwnA (w.setCell ⟨g, j * 3 + 2, none⟩ (.int .i64 x)) base (.slice (some ⟨g, 0, none⟩) n cap) (zs.set j ⟨a.cur, a.bal, x⟩) := by
 subst hn
 obtain ⟨h0, h1, h2⟩ := acells_set hj x
 refine ⟨?_, ?_, ?_⟩
 · have := (World.ownsRow.stored h (j * 3) (.int .i64 x)).1
   rw [h0] at this
   unfold OwnA
   rw [List.length_set]
   exact this
 · have := (World.ownsRow.stored h (j * 3 + 1) (.int .i64 x)).1
   rw [h1] at this
   unfold OwnA
   rw [List.length_set]
   exact this
 · have := (World.ownsRow.stored h (j * 3 + 2) (.int .i64 x)).1
   rw [h2] at this
   unfold OwnA
   rw [List.length_set]
   exact this
/-- The first of them, in the same memory. -/
theorem OwnA.front (h : OwnA w base (.slice (some ⟨g, 0, none⟩) n cap) zs) (hn : n = zs.length) (k : Nat) (hk : k ≤ n) : OwnA w base (.slice (some ⟨g, 0, none⟩) k cap) (zs.take k) := by
 subst hn
 have e : acells (zs.take k) = (acells zs).take (k * 3) := by
  have h1 : acells zs = acells (zs.take k) ++ acells (zs.drop k) := by rw [← acells_append, List.take_append_drop]
  rw [h1, List.take_left' (by rw [acells_len, List.length_take]; congr 1; omega)]
 have hkl : (zs.take k).length = k := by rw [List.length_take]; omega
 unfold OwnA
 rw [hkl]
 refine ⟨by rw [acells_len, hkl], ?_⟩
 rcases h.2 with ⟨h0, _⟩ | ⟨g', cap', cur, hv, hb, hg, hnc, hcm, hs, ht⟩
 · cases h0
 · injection hv with e1 e2 e3
   injection e1 with e1
   injection e1 with e1
   subst e1 e3
   exact .inr ⟨g, cap, cur, rfl, hb, hg, by omega, hcm, hs, by rw [e, ← ht, List.take_take]; congr 1; omega⟩
end
/-- make([]Account, n). -/
theorem run_make_acc (n : Nat) (hn : n ≤ 5864062014805) (W : World) : (Instr.makeSlice 30 (.int .i64 (n : Int)) (.int .i64 (n : Int))).run Tryz.prog W = .ok (.slice (some ⟨W.heap.size, 0, none⟩) n n) (W.alloc (.cells (madeCells #[.int .i64 0, .int .i64 0, .int .i64 0] (n * 3)) 90)) := by
 obtain ⟨i0, hi, hz0, hz1, hz2⟩ := info_parts info_acc
 have h := run_make (P := Tryz.prog) W 30 90 i0 (.agg #[.int .i64 0, .int .i64 0, .int .i64 0]) Tryz.underlying30 hi hz0 .i64 .i64 (n : Int) (n : Int) (by omega) (by omega) (by rw [hz2]; omega) (by omega)
 rw [hz1] at h
 have e2 : ((n : Int)).toNat = n := by omega
 rw [e2] at h
 exact h
theorem own_made_acc (w : World) (n base : Nat) (hn : n ≤ maxLen) (hb : base ≤ w.heap.size) :
  OwnA (w.alloc (.cells (madeCells #[.int .i64 0, .int .i64 0, .int .i64 0] (n * 3)) 90)) base (.slice (some ⟨w.heap.size, 0, none⟩) n n) (List.replicate n ⟨0, 0, 0⟩) := by
 unfold OwnA
 rw [← acells_replicate, List.length_replicate]
 exact World.ownsRow_lit w _ n hb hn (size_madeCells _ _)
theorem run_make_nine (W : World) : (Instr.makeSlice 30 (.int .i64 9) (.int .i64 9)).run Tryz.prog W = .ok (.slice (some ⟨W.heap.size, 0, none⟩) 9 9) (W.alloc (.cells (madeCells #[.int .i64 0, .int .i64 0, .int .i64 0] (9 * 3)) 90)) :=
 run_make_acc 9 (by omega) W
/-- One account more. -/
theorem wpList_append_acc {ops : Array Oper} {rest : List Oper} {o : Oper} {a : Act} {Q : Exit → Act → World → Prop} (w : World) (hgd : o.guard = none) (s x : Operand)
  (ho : o.op = .call { callee := .builtin .append, args := #[s, x], argTypes := #[30, 30] })
  (base : Nat) (v : Value) (zs : List Ac) (hs : a.eval s = v) (hown : OwnA w base v zs) (ad : Addr) (c : Nat) (b : Ac) (hx : a.eval x = .slice (some ad) 1 c) (hc : AcAt w ad 0 b) (hl : zs.length ≤ 1000000) (hbase : base ≤ w.heap.size)
  (h : ∀ v' w', OwnA w' base v' (zs ++ [b]) → w.grownBy w' v.ownBlock → wpList Tryz.prog ops Q rest (a.put o.dst v') w') : wpList Tryz.prog ops Q (o :: rest) a w :=
 wpList_plain hgd fun _ hK => by
  obtain ⟨i0, hi, hz0, hz1, hz2⟩ := info_parts info_acc
  obtain ⟨v', w', hrun, h2, h3, _⟩ := run_append_own (P := Tryz.prog) w base 30 o.type 90 i0 _ 3 24 Tryz.underlying30 hi hz0 hz1 hz2 rfl (by omega) v zs.length (acells zs) hown ad 1 c (acells [b]) rfl
   (fun j u hu => by
     match j, hu with
     | 0, hu => simp [acells] at hu; subst hu; exact hc.c0
     | 1, hu => simp [acells] at hu; subst hu; exact hc.c1
     | 2, hu => simp [acells] at hu; subst hu; exact hc.c2
     | j + 3, hu => simp [acells] at hu) (acells_one _) (by simp only [maxLen]; omega) (by omega) hbase
  unfold Oper.wp execOp
  simp only [ho, resolve, invoke, builtin, Sem.run_bind, Sem.run_pure, Result.andThen_ok, List.map_toArray, List.map_cons, List.map_nil, hs, hx, hrun]
  refine hK _ _ (h v' w' ?_ h3)
  unfold OwnA
  rw [List.length_append, acells_append]
  exact h2
/-- Whether an account may stand at a place. -/
def okAt (k : Nat) (a : Ac) : Bool :=
 decide (0 ≤ a.cur ∧ a.cur < 3) && decide (-1125899906842624 ≤ a.bal ∧ a.bal ≤ 1125899906842624) &&
  (if k < 9 then decide (a.held = 0 ∧ a.cur = (k : Int) / 3) else decide (0 ≤ a.held ∧ a.held ≤ a.bal))
/-- Whether accounts may stand behind each other from a place on. -/
def allOk : Nat → List Ac → Bool
 | _, [] => true
 | k, a :: r => okAt k a && allOk (k + 1) r
/-- Which accounts are right. -/
def rightB (zs : List Ac) : Bool := decide (9 ≤ zs.length ∧ zs.length ≤ 64) && allOk 0 zs
theorem allOk_iff : ∀ (zs : List Ac) (k : Nat), allOk k zs = true ↔ ∀ (j : Nat) (a : Ac), zs[j]? = some a → okAt (k + j) a = true
 | [], k => by simp [allOk]
 | b :: r, k => by
   simp only [allOk, Bool.and_eq_true, allOk_iff r (k + 1)]
   constructor
   · rintro ⟨h0, h1⟩ j a hj
     cases j with
     | zero => simp at hj; subst hj; exact h0
     | succ j => have := h1 j a (by simpa using hj); rw [show k + (j + 1) = k + 1 + j by omega]; exact this
   · intro h
     exact ⟨h 0 b rfl, fun j a hj => by rw [show k + 1 + j = k + (j + 1) by omega]; exact h (j + 1) a (by simpa using hj)⟩
/-- What the accounts of a currency have together. -/
def psum (c : Int) : List Ac → Int
 | [] => 0
 | a :: r => (if a.cur = c then a.bal else 0) + psum c r
theorem psum_append (c : Int) : ∀ x y : List Ac, psum c (x ++ y) = psum c x + psum c y
 | [], y => by simp [psum]
 | a :: r, y => by simp only [List.cons_append, psum, psum_append c r y]; omega
theorem psum_set (c : Int) : ∀ {x : List Ac} {j : Nat} {a : Ac} (b : Ac), x[j]? = some a → psum c (x.set j b) = psum c x - (if a.cur = c then a.bal else 0) + (if b.cur = c then b.bal else 0)
 | [], j, a, b, h => by simp at h
 | x :: r, 0, a, b, h => by simp at h; subst h; simp only [List.set_cons_zero, psum]; omega
 | x :: r, j + 1, a, b, h => by
   have := psum_set c b (show r[j]? = some a by simpa using h)
   simp only [List.set_cons_succ, psum, this]; omega
/-- What a book's accounts are, by how many clients there are. -/
structure BookOk (k : Nat) (zs : List Ac) : Prop where
 len : zs.length = 9 + k
 house : ∀ j, j < 9 → ∃ b : Int, zs[j]? = some ⟨(j : Int) / 3, b, 0⟩ ∧ -(k * 99999 : Int) ≤ b ∧ b ≤ 0
 client : ∀ (j : Nat) (a : Ac), 9 ≤ j → zs[j]? = some a → 0 ≤ a.cur ∧ a.cur < 3 ∧ 0 ≤ a.held ∧ a.held ≤ a.bal ∧ a.bal ≤ 99999
 sums : ∀ c, psum c zs = 0
/-- The house's accounts, with nothing. -/
def house : List Ac := [⟨0, 0, 0⟩, ⟨0, 0, 0⟩, ⟨0, 0, 0⟩, ⟨1, 0, 0⟩, ⟨1, 0, 0⟩, ⟨1, 0, 0⟩, ⟨2, 0, 0⟩, ⟨2, 0, 0⟩, ⟨2, 0, 0⟩]
theorem house_at (j : Nat) (hj : j < 9) : house[j]? = some ⟨(j : Int) / 3, 0, 0⟩ := by
 match j, hj with
 | 0, _ | 1, _ | 2, _ | 3, _ | 4, _ | 5, _ | 6, _ | 7, _ | 8, _ => rfl
/-- The house's accounts of which the first have their currency. -/
def houseTo (k : Nat) : List Ac := house.take k ++ List.replicate (9 - k) ⟨0, 0, 0⟩
theorem houseTo_len (k : Nat) (hk : k ≤ 9) : (houseTo k).length = 9 := by simp [houseTo, house]; omega
theorem houseTo_at (k : Nat) (hk : k < 9) : (houseTo k)[k]? = some ⟨0, 0, 0⟩ := by
 match k, hk with
 | 0, _ | 1, _ | 2, _ | 3, _ | 4, _ | 5, _ | 6, _ | 7, _ | 8, _ => rfl
theorem houseTo_next (k : Nat) (hk : k < 9) : (houseTo k).set k ⟨(k : Int) / 3, 0, 0⟩ = houseTo (k + 1) := by
 match k, hk with
 | 0, _ | 1, _ | 2, _ | 3, _ | 4, _ | 5, _ | 6, _ | 7, _ | 8, _ => rfl
theorem book_zero : BookOk 0 house := by
 refine ⟨rfl, fun j hj => ⟨0, house_at j hj, by omega, by omega⟩, fun j a hj h => ?_, fun c => ?_⟩
 · have := (List.getElem?_eq_some_iff.1 h).1
   simp [house] at this
   omega
 · simp only [house, psum]
   simp
theorem book_next {k : Nat} {zs : List Ac} (h : BookOk k zs) {c b l : Int} {m : Nat} {x : Int} (hm : (m : Int) = 3 * c) (c0 : 0 ≤ c) (c1 : c < 3) (l0 : 0 ≤ l) (l1 : l ≤ b) (b1 : b ≤ 99999) (hx : zs[m]? = some ⟨c, x, 0⟩) :
  BookOk (k + 1) (zs.set m ⟨c, x - b, 0⟩ ++ [⟨c, b, l⟩]) := by
 have hl := h.len
 have hm9 : m < 9 := by omega
 refine ⟨by simp [hl]; omega, fun j hj => ?_, fun j a hj ha => ?_, fun d => ?_⟩
 · obtain ⟨y, h1, h2, h3⟩ := h.house j hj
   by_cases hjm : j = m
   · subst hjm
     rw [hx] at h1
     injection h1 with h1
     injection h1 with e1 e2
     subst e2
     refine ⟨x - b, ?_, by omega, by omega⟩
     rw [List.getElem?_append_left (by simp [hl]; omega), List.getElem?_set_self (by omega), e1]
   · refine ⟨y, ?_, by omega, h3⟩
     rw [List.getElem?_append_left (by simp [hl]; omega), List.getElem?_set_ne (by omega)]
     exact h1
 · by_cases hjl : j < 9 + k
   · rw [List.getElem?_append_left (by simp [hl]; omega), List.getElem?_set_ne (by omega)] at ha
     exact h.client j a hj ha
   · rw [List.getElem?_append_right (by simp [hl]; omega)] at ha
     have hjz : j - (zs.set m ⟨c, x - b, 0⟩).length = 0 := by
      have := (List.getElem?_eq_some_iff.1 ha).1
      simp at this
      simp
      omega
     rw [hjz] at ha
     simp at ha
     subst ha
     exact ⟨c0, c1, l0, l1, b1⟩
 · rw [psum_append, psum_set d _ hx, h.sums d]
   simp only [psum]
   split <;> omega
theorem BookOk.ok {k : Nat} {zs : List Ac} (h : BookOk k zs) (hk : k ≤ 8) : allOk 0 zs = true := by
 rw [allOk_iff]
 intro j a hj
 rw [Nat.zero_add]
 by_cases hj9 : j < 9
 · obtain ⟨b, h1, h2, h3⟩ := h.house j hj9
   rw [hj] at h1
   injection h1 with h1
   subst h1
   simp only [okAt, hj9, if_true, Bool.and_eq_true, decide_eq_true_eq]
   exact ⟨⟨⟨by omega, by omega⟩, by omega, by omega⟩, trivial, trivial⟩
 · obtain ⟨h1, h2, h3, h4, h5⟩ := h.client j a (by omega) hj
   simp only [okAt, hj9, if_false, Bool.and_eq_true, decide_eq_true_eq]
   omega
theorem BookOk.right {k : Nat} {zs : List Ac} (h : BookOk k zs) (hk : k ≤ 8) : rightB zs = true := by
 simp only [rightB, h.ok hk, Bool.and_true, decide_eq_true_eq, h.len]
 omega
theorem RdA.cells {w : World} {ad : Addr} {zs : List Ac} (hr : RdA w (some ad) zs) (j : Nat) (v : Value) (hv : (acells zs)[j]? = some v) : w.cell? (ad.add j) = some v := by
 have hj : j < zs.length * 3 := by have := (List.getElem?_eq_some_iff.1 hv).1; rw [acells_len] at this; exact this
 obtain ⟨ad', he, hc⟩ := hr (by omega)
 injection he with he
 subst he
 have hz : zs[j / 3]? = some zs[j / 3] := List.getElem?_eq_getElem (by omega)
 obtain ⟨k0, k1, k2⟩ := acells_get hz
 have hat := hc (j / 3) _ hz
 have h3 : j % 3 = 0 ∨ j % 3 = 1 ∨ j % 3 = 2 := by omega
 rcases h3 with h3 | h3 | h3
 · have e : j / 3 * 3 = j := by omega
   rw [e, hv] at k0
   have := hat.c0
   rw [e, ← k0] at this
   exact this
 · have e : j / 3 * 3 + 1 = j := by omega
   rw [e, hv] at k1
   have := hat.c1
   rw [e, ← k1] at this
   exact this
 · have e : j / 3 * 3 + 2 = j := by omega
   rw [e, hv] at k2
   have := hat.c2
   rw [e, ← k2] at this
   exact this
set_option maxRecDepth 100000 in
/-- Accounts behind others. -/
theorem wpList_append_accs {ops : Array Oper} {rest : List Oper} {o : Oper} {a : Act} {Q : Exit → Act → World → Prop} (w : World) (hgd : o.guard = none) (s x : Operand)
  (ho : o.op = .call { callee := .builtin .append, args := #[s, x], argTypes := #[30, 30] })
  (base : Nat) (v : Value) (zs bs : List Ac) (hs : a.eval s = v) (hown : OwnA w base v zs) (ad : Addr) (m c : Nat) (hx : a.eval x = .slice (some ad) m c) (hm : bs.length = m) (hc : RdA w (some ad) bs) (hl : zs.length ≤ 1000000) (hml : m ≤ 1000000) (hbase : base ≤ w.heap.size)
  (h : ∀ v' w', OwnA w' base v' (zs ++ bs) → w.grownBy w' v.ownBlock → wpList Tryz.prog ops Q rest (a.put o.dst v') w') : wpList Tryz.prog ops Q (o :: rest) a w :=
 wpList_plain hgd fun _ hK => by
  obtain ⟨i0, hi, hz0, hz1, hz2⟩ := info_parts info_acc
  obtain ⟨v', w', hrun, h2, h3, _⟩ := run_append_own (P := Tryz.prog) w base 30 o.type 90 i0 _ 3 24 Tryz.underlying30 hi hz0 hz1 hz2 rfl (by omega) v zs.length (acells zs) hown ad m c (acells bs) (by rw [acells_len, hm])
   (fun j u hu => hc.cells j u hu) (acells_one _) (by simp only [maxLen]; omega) (by omega) hbase
  unfold Oper.wp execOp
  simp only [ho, resolve, invoke, builtin, Sem.run_bind, Sem.run_pure, Result.andThen_ok, List.map_toArray, List.map_cons, List.map_nil, hs, hx, hrun]
  refine hK _ _ (h v' w' ?_ h3)
  unfold OwnA
  rw [List.length_append, acells_append, hm]
  exact h2
theorem info_ent : (Tryz.prog.info? 243).map (fun i => (i.zero, i.size, i.bytes)) = some (some (.agg #[.int .i64 0, .int .i64 0]), 2, 16) := by kernel_rfl
/-- An entry: which account, how much. -/
structure En where
 acct : Int
 amt : Int
instance : DecidableEq En := fun a b => decidable_of_iff (a.acct = b.acct ∧ a.amt = b.amt) (by cases a; cases b; simp)
/-- Entries, cell by cell. -/
def ecells : List En → List Value
 | [] => []
 | a :: r => .int .i64 a.acct :: .int .i64 a.amt :: ecells r
theorem ecells_len : ∀ zs : List En, (ecells zs).length = zs.length * 2
 | [] => rfl
 | a :: r => by simp [ecells, ecells_len r]; omega
theorem ecells_append : ∀ a b : List En, ecells (a ++ b) = ecells a ++ ecells b
 | [], b => rfl
 | a :: r, b => by simp [ecells, ecells_append r b]
theorem ecells_get : ∀ {zs : List En} {j : Nat} {a : En}, zs[j]? = some a →
  (ecells zs)[j * 2]? = some (.int .i64 a.acct) ∧ (ecells zs)[j * 2 + 1]? = some (.int .i64 a.amt)
 | [], j, a, h => by simp at h
 | b :: r, 0, a, h => by simp at h; subst h; simp [ecells]
 | b :: r, j + 1, a, h => by
   have h' : r[j]? = some a := by simpa using h
   obtain ⟨h0, h1⟩ := ecells_get h'
   have e : (j + 1) * 2 = j * 2 + 1 + 1 := by omega
   have e1 : (j + 1) * 2 + 1 = j * 2 + 1 + 1 + 1 := by omega
   rw [e1, e]
   simp only [ecells, List.getElem?_cons_succ]
   exact ⟨h0, h1⟩
theorem ecells_set : ∀ {zs : List En} {j : Nat} {a : En}, zs[j]? = some a → ∀ x : Int,
  (ecells zs).set (j * 2) (.int .i64 x) = ecells (zs.set j ⟨x, a.amt⟩) ∧ (ecells zs).set (j * 2 + 1) (.int .i64 x) = ecells (zs.set j ⟨a.acct, x⟩)
 | [], j, a, h, x => by simp at h
 | b :: r, 0, a, h, x => by simp at h; subst h; simp [ecells]
 | b :: r, j + 1, a, h, x => by
   have h' : r[j]? = some a := by simpa using h
   obtain ⟨h0, h1⟩ := ecells_set h' x
   have e : (j + 1) * 2 = j * 2 + 1 + 1 := by omega
   have e1 : (j + 1) * 2 + 1 = j * 2 + 1 + 1 + 1 := by omega
   rw [e1, e]
   simp only [ecells, List.set_cons_succ, h0, h1]
   exact ⟨trivial, trivial⟩
theorem ecells_replicate (n : Nat) : (madeCells #[.int .i64 0, .int .i64 0] (n * 2)).toList = ecells (List.replicate n ⟨0, 0⟩) := by
 have h : ∀ v ∈ ecells (List.replicate n ⟨0, 0⟩), v = Value.int .i64 0 := by
  induction n with
  | zero => simp [ecells]
  | succ n ih =>
    intro v hv
    simp only [List.replicate_succ, ecells, List.mem_cons] at hv
    rcases hv with rfl | rfl | hv
    · rfl
    · rfl
    · exact ih v hv
 have h1 : ecells (List.replicate n ⟨0, 0⟩) = List.replicate (n * 2) (Value.int .i64 0) := by
  rw [List.eq_replicate_iff]
  exact ⟨by rw [ecells_len, List.length_replicate], h⟩
 rw [h1]
 apply List.ext_getElem?
 intro j
 by_cases hj : j < n * 2
 · have h3 : j % 2 = 0 ∨ j % 2 = 1 := by omega
   rcases h3 with h3 | h3 <;> simp [madeCells, hj, h3]
 · simp [madeCells, hj]
theorem ecells_one (zs : List En) : ∀ u ∈ ecells zs, u.oneCell' = true := by
 induction zs with
 | nil => simp [ecells]
 | cons a r ih =>
   intro u hu
   simp only [ecells, List.mem_cons] at hu
   rcases hu with rfl | rfl | hu
   · rfl
   · rfl
   · exact ih u hu
/-- The entry at j behind ad. -/
structure EnAt (w : World) (ad : Addr) (j : Nat) (a : En) : Prop where
 c0 : w.cell? (ad.add (j * 2)) = some (.int .i64 a.acct)
 c1 : w.cell? (ad.add (j * 2 + 1)) = some (.int .i64 a.amt)
/-- The slice of entries at A reads as them. -/
def RdE (w : World) (A : Option Addr) (zs : List En) : Prop := 0 < zs.length → ∃ ad, A = some ad ∧ ∀ (j : Nat) (a : En), zs[j]? = some a → EnAt w ad j a
/-- The slice v of entries is the call's own (its block is from 'base' on). -/
def OwnE (w : World) (base : Nat) (v : Value) (zs : List En) : Prop := w.ownsRow base 243 2 v zs.length (ecells zs)
section
variable {w w' : World} {A : Option Addr} {zs : List En} {base g n cap j : Nat} {a : En} {v : Value} {ad : Addr}
theorem EnAt.keep (h : EnAt w ad j a) (hk : ∀ p : Addr, p.block < w.heap.size → w'.cell? p = w.cell? p) : EnAt w' ad j a :=
 ⟨by rw [hk _ (World.block_lt_of_cell? w _ h.c0)]; exact h.c0, by rw [hk _ (World.block_lt_of_cell? w _ h.c1)]; exact h.c1⟩
theorem RdE.keep (h : RdE w A zs) (hk : ∀ p : Addr, p.block < w.heap.size → w'.cell? p = w.cell? p) : RdE w' A zs := fun hn => by
 obtain ⟨ad, he, hc⟩ := h hn
 exact ⟨ad, he, fun j a hj => (hc j a hj).keep hk⟩
theorem RdE.below (h : RdE w A zs) (hb : Below w.heap.size w w') : RdE w' A zs := h.keep fun _ hp => hb.cell hp
theorem RdE.drewN (h : RdE w A zs) (m : Nat) : RdE (w.drewN m) A zs := h.keep fun _ _ => rfl
theorem RdE.drew (h : RdE w A zs) : RdE w.drew A zs := h.keep fun _ _ => rfl
theorem RdE.alloc (h : RdE w A zs) (o : Obj) : RdE (w.alloc o) A zs := h.keep fun p hp => World.cell?_alloc_lt w o p hp
theorem RdE.at_ (h : RdE w A zs) (hj : zs[j]? = some a) : ∃ ad, A = some ad ∧ EnAt w ad j a := by
 have hlt : j < zs.length := (List.getElem?_eq_some_iff.1 hj).1
 obtain ⟨ad, he, hc⟩ := h (by omega)
 exact ⟨ad, he, hc j a hj⟩
theorem OwnE.nil : OwnE w base (.slice none 0 0) [] := World.ownsRow_nil w base _ 2
theorem OwnE.alloc (h : OwnE w base v zs) (o : Obj) : OwnE (w.alloc o) base v zs := World.ownsRow.alloc h o
theorem OwnE.drew (h : OwnE w base v zs) : OwnE w.drew base v zs := h
theorem OwnE.drewN (h : OwnE w base v zs) (m : Nat) : OwnE (w.drewN m) base v zs := h
theorem OwnE.less {b : Nat} (h : OwnE w base v zs) (hb : b ≤ base) : OwnE w b v zs := by
 refine ⟨h.1, ?_⟩
 rcases h.2 with h | ⟨g, cap, cur, hv, hg, r⟩
 · exact .inl h
 · exact .inr ⟨g, cap, cur, hv, by omega, r⟩
theorem OwnE.same (h : OwnE w base v zs) (hs : ∀ g, v.ownBlock = some g → w'.heap[g]? = w.heap[g]?) : OwnE w' base v zs := by
 refine ⟨h.1, ?_⟩
 rcases h.2 with h | ⟨g, cap, cur, hv, hg, hh, r⟩
 · exact .inl h
 · exact .inr ⟨g, cap, cur, hv, hg, by rw [hs g (by rw [hv]; rfl)]; exact hh, r⟩
theorem OwnE.rowLt (h : OwnE w base v zs) : ∀ g, v.ownBlock = some g → base ≤ g := fun g hg => (World.ownsRow.lt h g hg).1
theorem OwnE.below (h : OwnE w base v zs) (hb : Below w.heap.size w w') : OwnE w' base v zs := h.same fun g hg => hb.block g (World.ownsRow.lt h g hg).2
theorem OwnE.setOther {p : Addr} {u : Value} (h : OwnE w base v zs) (hp : ∀ g, v.ownBlock = some g → g ≠ p.block) : OwnE (w.setCell p u) base v zs :=
 h.same fun i hi => Below.heap_setCell _ _ _ _ (hp i hi)
theorem OwnE.open_ (h : OwnE w base v zs) (hn : 0 < zs.length) : ∃ g cap, v = .slice (some ⟨g, 0, none⟩) zs.length cap ∧ base ≤ g ∧ g < w.heap.size ∧ zs.length ≤ cap ∧ cap ≤ maxLen := by
 rcases h.2 with ⟨_, h0⟩ | ⟨g, cap, cur, hv, hb, hg, hnc, hcm, _⟩
 · omega
 · exact ⟨g, cap, hv, hb, (Array.getElem?_eq_some_iff.1 hg).1, hnc, hcm⟩
theorem OwnE.at_ (h : OwnE w base (.slice (some ⟨g, 0, none⟩) n cap) zs) (hj : zs[j]? = some a) :
  w.cell? ⟨g, j * 2, none⟩ = some (.int .i64 a.acct) ∧ w.cell? ⟨g, j * 2 + 1, none⟩ = some (.int .i64 a.amt) := by
 have hc := World.ownsRow.cells h (g := g) rfl
 obtain ⟨h0, h1⟩ := ecells_get hj
 have hadd : ∀ i, (⟨g, 0, none⟩ : Addr).add i = ⟨g, i, none⟩ := fun i => by unfold Addr.add; split <;> simp_all
 have k0 := hc _ _ h0
 have k1 := hc _ _ h1
 rw [hadd] at k0 k1
 exact ⟨k0, k1⟩
theorem OwnE.rd (h : OwnE w base (.slice A n cap) zs) : RdE w A zs := fun hn => by
 obtain ⟨g, c, hv, _⟩ := h.open_ hn
 injection hv with e1 e2 e3
 subst e1 e2 e3
 have hadd : ∀ i, (⟨g, 0, none⟩ : Addr).add i = ⟨g, i, none⟩ := fun i => by unfold Addr.add; split <;> simp_all
 refine ⟨_, rfl, fun j a hj => ?_⟩
 obtain ⟨h0, h1⟩ := h.at_ hj
 exact ⟨by rw [hadd]; exact h0, by rw [hadd]; exact h1⟩
/-- Whatever form it has. -/
theorem OwnE.form (h : OwnE w base v zs) : ∃ A cap, v = .slice A zs.length cap ∧ RdE w A zs ∧ zs.length ≤ cap ∧ cap ≤ maxLen ∧ (A = none → zs.length = 0 ∧ cap = 0) := by
 rcases h.2 with ⟨hv, h0⟩ | ⟨g, cap, cur, hv, hb, hg, hnc, hcm, _⟩
 · have hz : zs = [] := List.eq_nil_of_length_eq_zero h0
   subst hz
   exact ⟨none, 0, hv, fun h => by simp at h, Nat.le_refl _, Nat.zero_le _, fun _ => ⟨rfl, rfl⟩⟩
 · subst hv
   exact ⟨_, cap, rfl, h.rd, hnc, hcm, fun h => by cases h⟩
theorem OwnE.unfrozen (h : OwnE w base (.slice (some ⟨g, 0, none⟩) n cap) zs) (hn : n = zs.length) (i : Nat) : w.frozen? ⟨g, i, none⟩ = false := by
 subst hn; exact World.ownsRow.frozenAt h i
theorem OwnE.set (h : OwnE w base (.slice (some ⟨g, 0, none⟩) n cap) zs) (hn : n = zs.length) (hj : zs[j]? = some a) (x : Int) :
  OwnE (w.setCell ⟨g, j * 2, none⟩ (.int .i64 x)) base (.slice (some ⟨g, 0, none⟩) n cap) (zs.set j ⟨x, a.amt⟩) ∧
  OwnE (w.setCell ⟨g, j * 2 + 1, none⟩ (.int .i64 x)) base (.slice (some ⟨g, 0, none⟩) n cap) (zs.set j ⟨a.acct, x⟩) := by
 subst hn
 obtain ⟨h0, h1⟩ := ecells_set hj x
 refine ⟨?_, ?_⟩
 · have := (World.ownsRow.stored h (j * 2) (.int .i64 x)).1
   rw [h0] at this
   unfold OwnE
   rw [List.length_set]
   exact this
 · have := (World.ownsRow.stored h (j * 2 + 1) (.int .i64 x)).1
   rw [h1] at this
   unfold OwnE
   rw [List.length_set]
   exact this
/-- A whole entry stored. -/
theorem OwnE.put (h : OwnE w base (.slice (some ⟨g, 0, none⟩) n cap) zs) (hn : n = zs.length) (hj : j < n) (x y : Int) :
  OwnE ((w.setCell ⟨g, j * 2, none⟩ (.int .i64 x)).setCell ⟨g, j * 2 + 1, none⟩ (.int .i64 y)) base (.slice (some ⟨g, 0, none⟩) n cap) (zs.set j ⟨x, y⟩) := by
 obtain ⟨a, ha⟩ : ∃ a, zs[j]? = some a := ⟨_, List.getElem?_eq_getElem (by omega)⟩
 have h1 := (h.set hn ha x).1
 have h2 := (h1.set (by rw [List.length_set]; exact hn) (j := j) (a := ⟨x, a.amt⟩) (by rw [List.getElem?_set_self (by omega)]) y).2
 rw [List.set_set] at h2
 exact h2
end
/-- make([]Entry, n). -/
theorem run_make_ent (n : Nat) (hn : n ≤ 8796093022207) (W : World) : (Instr.makeSlice 212 (.int .i64 (n : Int)) (.int .i64 (n : Int))).run Tryz.prog W = .ok (.slice (some ⟨W.heap.size, 0, none⟩) n n) (W.alloc (.cells (madeCells #[.int .i64 0, .int .i64 0] (n * 2)) 243)) := by
 obtain ⟨i0, hi, hz0, hz1, hz2⟩ := info_parts info_ent
 have h := run_make (P := Tryz.prog) W 212 243 i0 (.agg #[.int .i64 0, .int .i64 0]) Tryz.underlying212 hi hz0 .i64 .i64 (n : Int) (n : Int) (by omega) (by omega) (by rw [hz2]; omega) (by omega)
 rw [hz1] at h
 have e2 : ((n : Int)).toNat = n := by omega
 rw [e2] at h
 exact h
theorem own_made_ent (w : World) (n base : Nat) (hn : n ≤ maxLen) (hb : base ≤ w.heap.size) :
  OwnE (w.alloc (.cells (madeCells #[.int .i64 0, .int .i64 0] (n * 2)) 243)) base (.slice (some ⟨w.heap.size, 0, none⟩) n n) (List.replicate n ⟨0, 0⟩) := by
 unfold OwnE
 rw [← ecells_replicate, List.length_replicate]
 exact World.ownsRow_lit w _ n hb hn (size_madeCells _ _)
/-- A slice written out. -/
theorem own_lit_ent (w : World) (zs : List En) (base : Nat) (hn : zs.length ≤ maxLen) (hb : base ≤ w.heap.size) :
  OwnE (w.alloc (.cells (ecells zs).toArray 243)) base (.slice (some ⟨w.heap.size, 0, none⟩) zs.length zs.length) zs := by
 unfold OwnE
 have := World.ownsRow_lit w (ecells zs).toArray zs.length hb hn (size := 2) (e := 243) (by simp [ecells_len])
 simpa using this
/-- One entry more. -/
theorem wpList_append_ent {ops : Array Oper} {rest : List Oper} {o : Oper} {a : Act} {Q : Exit → Act → World → Prop} (w : World) (hgd : o.guard = none) (s x : Operand)
  (ho : o.op = .call { callee := .builtin .append, args := #[s, x], argTypes := #[212, 212] })
  (base : Nat) (v : Value) (zs : List En) (hs : a.eval s = v) (hown : OwnE w base v zs) (ad : Addr) (c : Nat) (b : En) (hx : a.eval x = .slice (some ad) 1 c) (hc : EnAt w ad 0 b) (hl : zs.length ≤ 1000000) (hbase : base ≤ w.heap.size)
  (h : ∀ v' w', OwnE w' base v' (zs ++ [b]) → w.grownBy w' v.ownBlock → wpList Tryz.prog ops Q rest (a.put o.dst v') w') : wpList Tryz.prog ops Q (o :: rest) a w :=
 wpList_plain hgd fun _ hK => by
  obtain ⟨i0, hi, hz0, hz1, hz2⟩ := info_parts info_ent
  obtain ⟨v', w', hrun, h2, h3, _⟩ := run_append_own (P := Tryz.prog) w base 212 o.type 243 i0 _ 2 16 Tryz.underlying212 hi hz0 hz1 hz2 rfl (by omega) v zs.length (ecells zs) hown ad 1 c (ecells [b]) rfl
   (fun j u hu => by
     match j, hu with
     | 0, hu => simp [ecells] at hu; subst hu; exact hc.c0
     | 1, hu => simp [ecells] at hu; subst hu; exact hc.c1
     | j + 2, hu => simp [ecells] at hu) (ecells_one _) (by simp only [maxLen]; omega) (by omega) hbase
  unfold Oper.wp execOp
  simp only [ho, resolve, invoke, builtin, Sem.run_bind, Sem.run_pure, Result.andThen_ok, List.map_toArray, List.map_cons, List.map_nil, hs, hx, hrun]
  refine hK _ _ (h v' w' ?_ h3)
  unfold OwnE
  rw [List.length_append, ecells_append]
  exact h2
/-- The currency of the account at a place; -1, if there is none. -/
def curOf (zs : List Ac) (k : Int) : Int := if 0 ≤ k then (match zs[k.toNat]? with | some a => a.cur | none => -1) else -1
theorem curOf_at {zs : List Ac} {q : Nat} {a : Ac} (h : zs[q]? = some a) : curOf zs (q : Int) = a.cur := by
 unfold curOf
 rw [if_pos (by omega), Int.toNat_natCast, h]
theorem curOf_out {zs : List Ac} {k : Int} (h : ¬ (0 ≤ k ∧ k < (zs.length : Int))) : curOf zs k = -1 := by
 unfold curOf
 split
 · rw [List.getElem?_eq_none (by omega)]
 · rfl
/-- Three sums. -/
structure S3 where
 a : Int
 b : Int
 c : Int
def S3.get (s : S3) (x : Int) : Int := if x = 0 then s.a else if x = 1 then s.b else if x = 2 then s.c else 0
def S3.put (s : S3) (x v : Int) : S3 := if x = 0 then ⟨v, s.b, s.c⟩ else if x = 1 then ⟨s.a, v, s.c⟩ else ⟨s.a, s.b, v⟩
def isMay (n : Int) : Prop := -1125899906842624 ≤ n ∧ n ≤ 1125899906842624
instance (n : Int) : Decidable (isMay n) := inferInstanceAs (Decidable (_ ∧ _))
/-- May an entry go in? -/
def goes (zs : List Ac) (s : S3) (e : En) : Prop := (0 ≤ curOf zs e.acct ∧ curOf zs e.acct < 3) ∧ isMay e.amt ∧ isMay (s.get (curOf zs e.acct) + e.amt)
instance (zs : List Ac) (s : S3) (e : En) : Decidable (goes zs s e) := inferInstanceAs (Decidable (_ ∧ _))
/-- The sums with an entry more. -/
def gone (zs : List Ac) (s : S3) (e : En) : S3 := s.put (curOf zs e.acct) (s.get (curOf zs e.acct) + e.amt)
/-- Are entries balanced, with sums from before? -/
def balGo (zs : List Ac) : S3 → List En → Bool
 | s, [] => decide (s.a = 0 ∧ s.b = 0 ∧ s.c = 0)
 | s, e :: r => if goes zs s e then balGo zs (gone zs s e) r else false
def balB (zs : List Ac) (es : List En) : Bool := balGo zs ⟨0, 0, 0⟩ es
theorem balGo_yes {zs : List Ac} {s : S3} {es : List En} {k : Nat} {e : En} (h : es[k]? = some e) (hg : goes zs s e) : balGo zs s (es.drop k) = balGo zs (gone zs s e) (es.drop (k + 1)) := by
 obtain ⟨hk, rfl⟩ := List.getElem?_eq_some_iff.1 h
 rw [List.drop_eq_getElem_cons hk, balGo, if_pos hg]
theorem balGo_no {zs : List Ac} {s : S3} {es : List En} {k : Nat} {e : En} (h : es[k]? = some e) (hg : ¬ goes zs s e) : balGo zs s (es.drop k) = false := by
 obtain ⟨hk, rfl⟩ := List.getElem?_eq_some_iff.1 h
 rw [List.drop_eq_getElem_cons hk, balGo, if_neg hg]
theorem balGo_end {zs : List Ac} {s : S3} {es : List En} {k : Nat} (h : es.length ≤ k) : balGo zs s (es.drop k) = decide (s.a = 0 ∧ s.b = 0 ∧ s.c = 0) := by
 rw [List.drop_eq_nil_of_le h, balGo]
/-- What entries come to in a currency. -/
def esum (zs : List Ac) (c : Int) : List En → Int
 | [] => 0
 | e :: r => (if curOf zs e.acct = c then e.amt else 0) + esum zs c r
theorem S3.get_put (s : S3) (x v y : Int) (hx : 0 ≤ x ∧ x < 3) (hy : 0 ≤ y ∧ y < 3) : (s.put x v).get y = if y = x then v else s.get y := by
 have h1 : x = 0 ∨ x = 1 ∨ x = 2 := by omega
 have h2 : y = 0 ∨ y = 1 ∨ y = 2 := by omega
 rcases h1 with rfl | rfl | rfl <;> rcases h2 with rfl | rfl | rfl <;> simp [S3.get, S3.put]
/-- Entries the other way round. -/
def negE (e : En) : En := ⟨e.acct, wrap64 (-e.amt)⟩
def backE (es : List En) : List En := (es.map negE).reverse
theorem backE_len (es : List En) : (backE es).length = es.length := by simp [backE]
theorem backE_snoc (xs : List En) (e : En) : backE (xs ++ [e]) = negE e :: backE xs := by simp [backE]
/-! The entries by which an amount moves. -/
/-- The rate between two currencies. -/
def rateN (a b : Int) : Int := if a = 0 then (if b = 0 then 1 else if b = 1 then 9 else 150) else if a = 1 then (if b = 0 then 11 else if b = 1 then 1 else 160) else 1
def rateD (a b : Int) : Int := if a = 0 then (if b = 0 then 1 else if b = 1 then 10 else 1) else if a = 1 then (if b = 0 then 10 else 1) else (if b = 0 then 151 else if b = 1 then 161 else 1)
/-- An amount of one currency in another one. -/
def conv (a b n : Int) : Int := n * rateN a b / rateD a b
theorem rate_ok {a b : Int} (ha : 0 ≤ a ∧ a < 3) (hb : 0 ≤ b ∧ b < 3) : 1 ≤ rateN a b ∧ rateN a b ≤ 1024 ∧ 1 ≤ rateD a b ∧ rateD a b ≤ 1024 := by
 have h1 : a = 0 ∨ a = 1 ∨ a = 2 := by omega
 have h2 : b = 0 ∨ b = 1 ∨ b = 2 := by omega
 rcases h1 with rfl | rfl | rfl <;> rcases h2 with rfl | rfl | rfl <;> (simp only [rateN, rateD]; simp)
/-- The error that a conversion tells; 0, if none. -/
def convE (a b n : Int) : Int := if 1099511627776 < conv a b n then 4 else if conv a b n = 0 then 1 else 0
/-- The error that a move tells; 0, if none. -/
def moveE (zs : List Ac) (f t n : Int) : Int :=
 if ¬ (0 ≤ f ∧ f < (zs.length : Int)) ∨ ¬ (0 ≤ t ∧ t < (zs.length : Int)) then 2
 else if f = t ∨ ¬ (1 ≤ n ∧ n ≤ 1099511627776) then 1
 else if curOf zs f = curOf zs t then 0
 else convE (curOf zs f) (curOf zs t) n
/-- The house's Exchange of a currency. -/
def exch (a : Int) : Int := 3 * a + 1
/-- The entries of a move that goes. -/
def moveOk (a b f t n : Int) : List En :=
 if a = b then [⟨f, -n⟩, ⟨t, n⟩] else [⟨f, -n⟩, ⟨exch a, n⟩, ⟨exch b, -(conv a b n)⟩, ⟨t, conv a b n⟩]
def moveL (zs : List Ac) (f t n : Int) : List En := if moveE zs f t n = 0 then moveOk (curOf zs f) (curOf zs t) f t n else []
/-- May an amount be added to a balance? -/
def addOk (b x : Int) : Prop := -1125899906842624 ≤ b ∧ b ≤ 1125899906842624 ∧ -1125899906842624 ≤ x ∧ x ≤ 1125899906842624 ∧ -1125899906842624 ≤ b + x ∧ b + x ≤ 1125899906842624
instance (b x : Int) : Decidable (addOk b x) := inferInstanceAs (Decidable (_ ∧ _))
/-- The accounts with an entry in; none, if it does not go. -/
def putE (zs : List Ac) (e : En) : Option (List Ac) :=
 if 0 ≤ e.acct then
  match zs[e.acct.toNat]? with
  | some a => if addOk a.bal e.amt then some (zs.set e.acct.toNat ⟨a.cur, a.bal + e.amt, a.held⟩) else none
  | none => none
 else none
/-- The accounts with entries in, one by one. -/
def postGo : List Ac → List En → Option (List Ac)
 | zs, [] => some zs
 | zs, e :: r => match putE zs e with | some ys => postGo ys r | none => none
/-- Has a client less than is held? -/
def shortA (a : Ac) : Bool := decide (wrap64 (a.bal - a.held) < 0)
theorem shortA_no {a : Ac} : shortA a = false ↔ ¬ wrap64 (a.bal - a.held) < 0 := decide_eq_false_iff_not
def shortGo (zs : List Ac) : Bool := zs.any shortA
def shortB (zs : List Ac) : Bool := shortGo (zs.drop 9)
/-- The error that Post tells of entries that are balanced; 0, if none. -/
def postE1 : Option (List Ac) → Int
 | none => 4
 | some ys => if shortB ys then 3 else 0
def postL1 : Option (List Ac) → List Ac
 | none => []
 | some ys => if shortB ys then [] else ys
def postE (zs : List Ac) (es : List En) : Int := if balB zs es then postE1 (postGo zs es) else 13
def postL (zs : List Ac) (es : List En) : List Ac := if balB zs es then postL1 (postGo zs es) else []
theorem putE_yes {zs : List Ac} {q : Nat} {a : Ac} {x : Int} (h : zs[q]? = some a) (ho : addOk a.bal x) : putE zs ⟨(q : Int), x⟩ = some (zs.set q ⟨a.cur, a.bal + x, a.held⟩) := by
 unfold putE
 rw [if_pos (by dsimp only; omega)]
 simp only [Int.toNat_natCast, h, if_pos ho]
theorem putE_no {zs : List Ac} {q : Nat} {a : Ac} {x : Int} (h : zs[q]? = some a) (ho : ¬ addOk a.bal x) : putE zs ⟨(q : Int), x⟩ = none := by
 unfold putE
 rw [if_pos (by dsimp only; omega)]
 simp only [Int.toNat_natCast, h, if_neg ho]
theorem postGo_yes {zs ys : List Ac} {es : List En} {k : Nat} {e : En} (h : es[k]? = some e) (hg : putE zs e = some ys) : postGo zs (es.drop k) = postGo ys (es.drop (k + 1)) := by
 obtain ⟨hk, rfl⟩ := List.getElem?_eq_some_iff.1 h
 rw [List.drop_eq_getElem_cons hk, postGo, hg]
theorem postGo_no {zs : List Ac} {es : List En} {k : Nat} {e : En} (h : es[k]? = some e) (hg : putE zs e = none) : postGo zs (es.drop k) = none := by
 obtain ⟨hk, rfl⟩ := List.getElem?_eq_some_iff.1 h
 rw [List.drop_eq_getElem_cons hk, postGo, hg]
theorem postGo_end {zs : List Ac} {es : List En} {k : Nat} (h : es.length ≤ k) : postGo zs (es.drop k) = some zs := by
 rw [List.drop_eq_nil_of_le h, postGo]
theorem shortGo_at {zs : List Ac} {k : Nat} {a : Ac} (h : zs[k]? = some a) : shortGo (zs.drop k) = (shortA a || shortGo (zs.drop (k + 1))) := by
 obtain ⟨hk, rfl⟩ := List.getElem?_eq_some_iff.1 h
 rw [List.drop_eq_getElem_cons hk]
 rfl
theorem shortGo_end {zs : List Ac} {k : Nat} (h : zs.length ≤ k) : shortGo (zs.drop k) = false := by
 rw [List.drop_eq_nil_of_le h]
 rfl
/-- Entries that are balanced are of accounts there are. -/
theorem balGo_in : ∀ {zs : List Ac} {es : List En} {s : S3}, balGo zs s es = true → ∀ e ∈ es, (0 ≤ curOf zs e.acct ∧ curOf zs e.acct < 3) ∧ isMay e.amt
 | zs, [], s, _, e, he => by simp at he
 | zs, e :: r, s, h, x, hx => by
   rw [balGo] at h
   split at h
   · rename_i hg
     rcases List.mem_cons.1 hx with rfl | hx
     · exact ⟨hg.1, hg.2.1⟩
     · exact balGo_in h x hx
   · cases h
theorem curOf_ok {zs : List Ac} {k : Int} (h : 0 ≤ curOf zs k) : 0 ≤ k ∧ k < (zs.length : Int) := by
 refine Decidable.byContradiction fun hn => ?_
 rw [curOf_out hn] at h
 omega
theorem bal_in {zs : List Ac} {es : List En} (h : balB zs es = true) : ∀ e ∈ es, (0 ≤ e.acct ∧ e.acct < (zs.length : Int)) ∧ isMay e.amt := fun e he => by
 obtain ⟨h1, h2⟩ := balGo_in h e he
 exact ⟨curOf_ok h1.1, h2⟩
/-! What stays. -/
theorem putE_ok {zs ys : List Ac} {e : En} (h : putE zs e = some ys) : ∃ a, zs[e.acct.toNat]? = some a ∧ addOk a.bal e.amt ∧ ys = zs.set e.acct.toNat ⟨a.cur, a.bal + e.amt, a.held⟩ ∧ 0 ≤ e.acct := by
 unfold putE at h
 split at h
 · rename_i hk
   split at h
   · rename_i a ha
     split at h
     · rename_i ho
       injection h with h
       exact ⟨a, ha, ho, h.symm, hk⟩
     · cases h
   · cases h
 · cases h
theorem postGo_cons {zs ys : List Ac} {e : En} {r : List En} (h : postGo zs (e :: r) = some ys) : ∃ z1, putE zs e = some z1 ∧ postGo z1 r = some ys := by
 rw [postGo] at h
 split at h
 · rename_i z1 h1
   exact ⟨z1, h1, h⟩
 · cases h
/-- The same accounts, but for their balances; these may be. -/
structure Stay (zs ys : List Ac) : Prop where
 len : ys.length = zs.length
 at_ : ∀ (j : Nat) (a : Ac), zs[j]? = some a → ∃ b : Int, ys[j]? = some ⟨a.cur, b, a.held⟩ ∧ (b = a.bal ∨ isMay b)
theorem Stay.refl (zs : List Ac) : Stay zs zs := ⟨rfl, fun j a h => ⟨a.bal, h, .inl rfl⟩⟩
theorem Stay.trans {x y z : List Ac} (h : Stay x y) (k : Stay y z) : Stay x z := ⟨k.len.trans h.len, fun j a ha => by
  obtain ⟨b, h1, h2⟩ := h.at_ j a ha
  obtain ⟨c, h3, h4⟩ := k.at_ j _ h1
  refine ⟨c, h3, ?_⟩
  rcases h4 with h4 | h4
  · dsimp only at h4
    rw [h4]
    exact h2
  · exact .inr h4⟩
theorem putE_stay {zs ys : List Ac} {e : En} (h : putE zs e = some ys) : Stay zs ys := by
 obtain ⟨a, ha, ho, rfl, _⟩ := putE_ok h
 have hl := (List.getElem?_eq_some_iff.1 ha).1
 refine ⟨by simp, fun j b hb => ?_⟩
 by_cases hj : e.acct.toNat = j
 · subst hj
   rw [ha] at hb
   injection hb with hb
   subst hb
   exact ⟨_, by rw [List.getElem?_set_self hl], .inr ⟨ho.2.2.2.2.1, ho.2.2.2.2.2⟩⟩
 · exact ⟨b.bal, by rw [List.getElem?_set_ne hj]; exact hb, .inl rfl⟩
theorem postGo_stay : ∀ {es : List En} {zs ys : List Ac}, postGo zs es = some ys → Stay zs ys
 | [], zs, ys, h => by
   injection h with h
   subst h
   exact Stay.refl _
 | e :: r, zs, ys, h => by
   obtain ⟨z1, h1, h2⟩ := postGo_cons h
   exact (putE_stay h1).trans (postGo_stay h2)
theorem Stay.cur {zs ys : List Ac} (h : Stay zs ys) (k : Int) : curOf ys k = curOf zs k := by
 unfold curOf
 split
 · rename_i hk
   by_cases hl : k.toNat < zs.length
   · obtain ⟨b, h1, _⟩ := h.at_ _ _ (List.getElem?_eq_getElem hl)
     rw [h1, List.getElem?_eq_getElem hl]
   · rw [List.getElem?_eq_none (by have := h.len; omega), List.getElem?_eq_none (by omega)]
 · rfl
theorem Stay.back {zs ys : List Ac} (h : Stay zs ys) {j : Nat} {b : Ac} (hb : ys[j]? = some b) : ∃ a, zs[j]? = some a ∧ b.cur = a.cur ∧ b.held = a.held ∧ (b.bal = a.bal ∨ isMay b.bal) := by
 have hl := (List.getElem?_eq_some_iff.1 hb).1
 have hl2 : j < zs.length := by have := h.len; omega
 obtain ⟨x, h1, h2⟩ := h.at_ j _ (List.getElem?_eq_getElem hl2)
 rw [hb] at h1
 injection h1 with h1
 subst h1
 exact ⟨_, List.getElem?_eq_getElem hl2, rfl, rfl, h2⟩
theorem Stay.gone {zs ys : List Ac} (h : Stay zs ys) (s : S3) (e : En) : gone ys s e = gone zs s e := by
 unfold Go.Proofs.YteifgmdaggiaaaaGreatDoor.gone
 rw [h.cur]
theorem Stay.goes {zs ys : List Ac} (h : Stay zs ys) (s : S3) (e : En) : goes ys s e ↔ goes zs s e := by
 unfold Go.Proofs.YteifgmdaggiaaaaGreatDoor.goes
 rw [h.cur]
theorem Stay.balGo {zs ys : List Ac} (h : Stay zs ys) : ∀ (es : List En) (s : S3), balGo ys s es = balGo zs s es
 | [], s => rfl
 | e :: r, s => by
   rw [Go.Proofs.YteifgmdaggiaaaaGreatDoor.balGo, Go.Proofs.YteifgmdaggiaaaaGreatDoor.balGo]
   by_cases hg : Go.Proofs.YteifgmdaggiaaaaGreatDoor.goes zs s e
   · rw [if_pos hg, if_pos ((h.goes s e).2 hg), h.gone, h.balGo r]
   · rw [if_neg hg, if_neg (fun k => hg ((h.goes s e).1 k))]
theorem Stay.balB {zs ys : List Ac} (h : Stay zs ys) (es : List En) : balB ys es = balB zs es := h.balGo es _
/-- What is balanced comes to nothing. -/
theorem balGo_sum (zs : List Ac) (c : Int) (hc : 0 ≤ c ∧ c < 3) : ∀ (es : List En) (s : S3), balGo zs s es = true → s.get c + esum zs c es = 0
 | [], s, h => by
   rw [balGo] at h
   have := of_decide_eq_true h
   have h3 : c = 0 ∨ c = 1 ∨ c = 2 := by omega
   rcases h3 with rfl | rfl | rfl <;> simp [S3.get, esum] <;> omega
 | e :: r, s, h => by
   rw [balGo] at h
   split at h
   · rename_i hg
     have := balGo_sum zs c hc r _ h
     unfold gone at this
     rw [S3.get_put _ _ _ _ hg.1 hc] at this
     simp only [esum]
     by_cases hq : c = curOf zs e.acct
     · subst hq
       rw [if_pos rfl] at this
       rw [if_pos rfl]
       omega
     · rw [if_neg hq] at this
       rw [if_neg (Ne.symm hq)]
       omega
   · cases h
theorem bal_sum {zs : List Ac} {es : List En} (h : balB zs es = true) (c : Int) (hc : 0 ≤ c ∧ c < 3) : esum zs c es = 0 := by
 have := balGo_sum zs c hc es ⟨0, 0, 0⟩ h
 have h0 : (⟨0, 0, 0⟩ : S3).get c = 0 := by simp [S3.get]
 omega
theorem Stay.esum {zs ys : List Ac} (h : Stay zs ys) (c : Int) : ∀ es : List En, esum ys c es = esum zs c es
 | [] => rfl
 | e :: r => by
   simp only [Go.Proofs.YteifgmdaggiaaaaGreatDoor.esum, h.cur, h.esum c r]
/-- What accounts have together behind entries. -/
theorem postGo_sum (c : Int) (hc : 0 ≤ c) : ∀ {es : List En} {zs ys : List Ac}, postGo zs es = some ys → psum c ys = psum c zs + esum zs c es
 | [], zs, ys, h => by
   injection h with h
   subst h
   simp [esum]
 | e :: r, zs, ys, h => by
   obtain ⟨z1, h1, h2⟩ := postGo_cons h
   have hst := putE_stay h1
   rw [postGo_sum c hc h2, hst.esum]
   obtain ⟨a, ha, ho, rfl, hk⟩ := putE_ok h1
   rw [psum_set c _ ha]
   have hcur : curOf zs e.acct = a.cur := by
    unfold curOf
    rw [if_pos hk, ha]
   simp only [Go.Proofs.YteifgmdaggiaaaaGreatDoor.esum, hcur]
   split <;> omega
/-! The other way round. -/
theorem postE_ok {zs : List Ac} {es : List En} (h : postE zs es = 0) : ∃ ys, balB zs es = true ∧ postGo zs es = some ys ∧ shortB ys = false ∧ postL zs es = ys := by
 unfold postE at h
 unfold postL
 split at h
 · rename_i hb
   rw [if_pos hb]
   cases hg : postGo zs es with
   | none => rw [hg] at h; simp [postE1] at h
   | some ys =>
     rw [hg] at h
     cases hs : shortB ys with
     | true => simp [postE1, hs] at h
     | false => exact ⟨ys, hb, rfl, hs, by simp [postL1, hs]⟩
 · omega
theorem postE_of {zs ys : List Ac} {es : List En} (hb : balB zs es = true) (hg : postGo zs es = some ys) (hs : shortB ys = false) : postE zs es = 0 ∧ postL zs es = ys := by
 unfold postE postL
 rw [if_pos hb, if_pos hb, hg]
 simp [postE1, postL1, hs]
/-! Right accounts. -/
theorem right_len {zs : List Ac} (h : rightB zs = true) : 9 ≤ zs.length ∧ zs.length ≤ 64 := by
 simp only [rightB, Bool.and_eq_true, decide_eq_true_eq] at h
 exact h.1
theorem right_at {zs : List Ac} (h : rightB zs = true) {j : Nat} {a : Ac} (ha : zs[j]? = some a) : (0 ≤ a.cur ∧ a.cur < 3) ∧ isMay a.bal ∧ (j < 9 → a.held = 0 ∧ a.cur = (j : Int) / 3) ∧ (9 ≤ j → 0 ≤ a.held ∧ a.held ≤ a.bal) := by
 simp only [rightB, Bool.and_eq_true] at h
 have h1 := (allOk_iff zs 0).1 h.2 j a ha
 rw [Nat.zero_add] at h1
 simp only [okAt, Bool.and_eq_true, decide_eq_true_eq] at h1
 obtain ⟨⟨h2, h3⟩, h4⟩ := h1
 refine ⟨h2, h3, fun hj => ?_, fun hj => ?_⟩
 · rw [if_pos hj] at h4; exact of_decide_eq_true h4
 · rw [if_neg (by omega)] at h4; exact of_decide_eq_true h4
theorem right_of {zs : List Ac} (hl : 9 ≤ zs.length ∧ zs.length ≤ 64) (h : ∀ (j : Nat) (a : Ac), zs[j]? = some a → (0 ≤ a.cur ∧ a.cur < 3) ∧ isMay a.bal ∧ (j < 9 → a.held = 0 ∧ a.cur = (j : Int) / 3) ∧ (9 ≤ j → 0 ≤ a.held ∧ a.held ≤ a.bal)) : rightB zs = true := by
 simp only [rightB, Bool.and_eq_true]
 refine ⟨decide_eq_true hl, (allOk_iff zs 0).2 fun j a ha => ?_⟩
 obtain ⟨h1, h2, h3, h4⟩ := h j a ha
 rw [Nat.zero_add]
 simp only [okAt, Bool.and_eq_true, decide_eq_true_eq]
 refine ⟨⟨h1, h2⟩, ?_⟩
 split
 · rename_i hj; exact decide_eq_true (h3 hj)
 · rename_i hj; exact decide_eq_true (h4 (by omega))
theorem shortB_no {zs : List Ac} (h : shortB zs = false) {j : Nat} {a : Ac} (hj : 9 ≤ j) (ha : zs[j]? = some a) : shortA a = false := by
 unfold shortB shortGo at h
 rw [List.any_eq_false] at h
 have : a ∈ zs.drop 9 := List.mem_of_getElem? (i := j - 9) (by rw [List.getElem?_drop, show 9 + (j - 9) = j by omega]; exact ha)
 simpa using h a this
/-- Right accounts are right behind entries. -/
theorem post_right {zs : List Ac} {es : List En} (hr : rightB zs = true) (h : postE zs es = 0) : rightB (postL zs es) = true := by
 obtain ⟨ys, hb, hg, hs, hl⟩ := postE_ok h
 rw [hl]
 have hst := postGo_stay hg
 have hlen := right_len hr
 refine right_of (by rw [hst.len]; exact hlen) fun j b hbj => ?_
 obtain ⟨a, ha, e1, e2, e3⟩ := hst.back hbj
 obtain ⟨h1, h2, h3, h4⟩ := right_at hr ha
 have hm : isMay b.bal := by
  rcases e3 with e3 | e3
  · rw [e3]; exact h2
  · exact e3
 refine ⟨by rw [e1]; exact h1, hm, fun hj => by rw [e1, e2]; exact h3 hj, fun hj => ?_⟩
 have h5 := h4 hj
 have h6 := shortB_no hs hj hbj
 rw [shortA_no] at h6
 simp only [wrap64] at h6
 unfold isMay at hm h2
 rw [e2] at *
 omega
theorem post_sums {zs : List Ac} {es : List En} (h : postE zs es = 0) (c : Int) (hc : 0 ≤ c ∧ c < 3) : psum c (postL zs es) = psum c zs := by
 obtain ⟨ys, hb, hg, hs, hl⟩ := postE_ok h
 rw [hl, postGo_sum c hc.1 hg, bal_sum hb c hc]
 omega
theorem post_len {zs : List Ac} {es : List En} (h : postE zs es = 0) : (postL zs es).length = zs.length := by
 obtain ⟨ys, hb, hg, hs, hl⟩ := postE_ok h
 rw [hl, (postGo_stay hg).len]
/-! Holds. -/
/-- The error that Hold and Release tell first; 0, if none. -/
def mayE (n : Nat) (k x : Int) : Int := if 9 ≤ k ∧ k < (n : Int) then (if 1 ≤ x ∧ x ≤ 1099511627776 then 0 else 1) else 2
/-- The account at a place. -/
def acOf (zs : List Ac) (k : Int) : Ac := zs.getD k.toNat ⟨0, 0, 0⟩
def holdE (zs : List Ac) (k x : Int) : Int := if mayE zs.length k x = 0 then (if wrap64 ((acOf zs k).bal - (acOf zs k).held) < x then 3 else 0) else mayE zs.length k x
def relE (zs : List Ac) (k x : Int) : Int := if mayE zs.length k x = 0 then (if (acOf zs k).held < x then 6 else 0) else mayE zs.length k x
def heldAs (zs : List Ac) (k h : Int) : List Ac := zs.set k.toNat ⟨(acOf zs k).cur, (acOf zs k).bal, h⟩
def holdL (zs : List Ac) (k x : Int) : List Ac := if holdE zs k x = 0 then heldAs zs k (wrap64 ((acOf zs k).held + x)) else []
def relL (zs : List Ac) (k x : Int) : List Ac := if relE zs k x = 0 then heldAs zs k (wrap64 ((acOf zs k).held - x)) else []
theorem acOf_at {zs : List Ac} {q : Nat} {a : Ac} (h : zs[q]? = some a) : acOf zs (q : Int) = a := by
 simp [acOf, List.getD, h]
theorem holdE_ok {zs : List Ac} {k x : Int} (h : holdE zs k x = 0) : (9 ≤ k ∧ k < (zs.length : Int)) ∧ (1 ≤ x ∧ x ≤ 1099511627776) ∧ x ≤ wrap64 ((acOf zs k).bal - (acOf zs k).held) := by
 unfold holdE at h
 split at h
 · rename_i hm
   unfold mayE at hm
   split at hm
   · rename_i h1
     split at hm
     · rename_i h2
       split at h
       · omega
       · exact ⟨h1, h2, by omega⟩
     · omega
   · omega
 · omega
theorem relE_ok {zs : List Ac} {k x : Int} (h : relE zs k x = 0) : (9 ≤ k ∧ k < (zs.length : Int)) ∧ (1 ≤ x ∧ x ≤ 1099511627776) ∧ x ≤ (acOf zs k).held := by
 unfold relE at h
 split at h
 · rename_i hm
   unfold mayE at hm
   split at hm
   · rename_i h1
     split at hm
     · rename_i h2
       split at h
       · omega
       · exact ⟨h1, h2, by omega⟩
     · omega
   · omega
 · omega
theorem heldAs_len (zs : List Ac) (k h : Int) : (heldAs zs k h).length = zs.length := by simp [heldAs]
theorem hold_len {zs : List Ac} {k x : Int} (h : holdE zs k x = 0) : (holdL zs k x).length = zs.length := by
 unfold holdL
 rw [if_pos h, heldAs_len]
theorem hold_right {zs : List Ac} {k x : Int} (hr : rightB zs = true) (h : holdE zs k x = 0) : rightB (holdL zs k x) = true := by
 obtain ⟨h1, h2, h3⟩ := holdE_ok h
 obtain ⟨q, rfl⟩ : ∃ q : Nat, k = (q : Int) := ⟨k.toNat, by omega⟩
 obtain ⟨a, ha⟩ : ∃ a, zs[q]? = some a := ⟨_, List.getElem?_eq_getElem (by omega)⟩
 rw [acOf_at ha] at h3
 have hlen := right_len hr
 obtain ⟨r1, r2, r3, r4⟩ := right_at hr ha
 have r5 := r4 (by omega)
 unfold isMay at r2
 unfold holdL heldAs
 rw [if_pos h, acOf_at ha, Int.toNat_natCast]
 refine right_of (by rw [List.length_set]; exact hlen) fun j b hb => ?_
 by_cases hj : q = j
 · subst hj
   rw [List.getElem?_set_self (by omega)] at hb
   injection hb with hb
   subst hb
   refine ⟨r1, r2, fun hj => by omega, fun _ => ?_⟩
   dsimp only
   simp only [wrap64] at *
   omega
 · rw [List.getElem?_set_ne hj] at hb
   exact right_at hr hb
theorem hold_sums {zs : List Ac} {k x : Int} (h : holdE zs k x = 0) (c : Int) : psum c (holdL zs k x) = psum c zs := by
 obtain ⟨h1, h2, h3⟩ := holdE_ok h
 obtain ⟨q, rfl⟩ : ∃ q : Nat, k = (q : Int) := ⟨k.toNat, by omega⟩
 obtain ⟨a, ha⟩ : ∃ a, zs[q]? = some a := ⟨_, List.getElem?_eq_getElem (by omega)⟩
 unfold holdL heldAs
 rw [if_pos h, acOf_at ha, Int.toNat_natCast, psum_set c _ ha]
 dsimp only
 omega
/-! Spends. -/
def spendE (zs : List Ac) (x : Int) (es : List En) : Int :=
 match es with
 | [] => 13
 | e :: _ => if relE zs e.acct x = 0 then postE (relL zs e.acct x) es else relE zs e.acct x
def spendL (zs : List Ac) (x : Int) (es : List En) : List Ac :=
 match es with
 | [] => []
 | e :: _ => if relE zs e.acct x = 0 then postL (relL zs e.acct x) es else []
/-- A payment's ints, in the order of its fields. -/
structure Py where
 frm : Int
 dst : Int
 aut : Int
 cap : Int
 ref : Int
 chg : Int
 til : Int
 stg : Int
deriving DecidableEq
def Py.val (p : Py) : Value := .agg #[.int .i64 p.frm, .int .i64 p.dst, .int .i64 p.aut, .int .i64 p.cap, .int .i64 p.ref, .int .i64 p.chg, .int .i64 p.til, .int .i64 p.stg]
def Py.zero : Py := ⟨0, 0, 0, 0, 0, 0, 0, 0⟩
def in64 (x : Int) : Prop := -9223372036854775808 ≤ x ∧ x ≤ 9223372036854775807
def Py.fits (p : Py) : Prop := in64 p.frm ∧ in64 p.dst ∧ in64 p.aut ∧ in64 p.cap ∧ in64 p.ref ∧ in64 p.chg ∧ in64 p.til ∧ in64 p.stg
/-- What is left of a payment, and what of it may go back. -/
def leftP (p : Py) : Int := if p.stg = 0 then wrap64 (p.aut - p.cap) else 0
def gaveP (p : Py) : Int := wrap64 (wrap64 (p.cap - p.ref) - p.chg)
/-- What is wrong with an amount of which there is no more than m. -/
def excE (n m : Int) : Int := if n < 1 then 1 else if m < n then 6 else 0
/-- What is wrong with an op: the error's number. -/
def payE (p : Py) (op n : Int) : Int :=
 if op = 4 then excE n (leftP p) else if op = 5 then (if p.stg = 0 then 0 else 6) else if op = 6 then excE n (gaveP p) else if op = 7 then excE n (gaveP p) else 13
/-- What an op makes of a payment, if nothing is wrong. -/
def payP (p : Py) (op n : Int) : Py :=
 if op = 4 then ⟨p.frm, p.dst, p.aut, wrap64 (p.cap + n), p.ref, p.chg, p.til, if wrap64 (p.cap + n) = p.aut then 1 else p.stg⟩
 else if op = 5 then ⟨p.frm, p.dst, p.aut, p.cap, p.ref, p.chg, p.til, 1⟩
 else if op = 6 then ⟨p.frm, p.dst, p.aut, p.cap, wrap64 (p.ref + n), p.chg, p.til, p.stg⟩
 else if op = 7 then ⟨p.frm, p.dst, p.aut, p.cap, p.ref, wrap64 (p.chg + n), p.til, p.stg⟩
 else p
/-- What an op answers: the payment, zero where something is wrong. -/
def payR (p : Py) (op n : Int) : Py := if payE p op n = 0 then payP p op n else Py.zero
/-- What went back. -/
def backOk (p : Py) : Prop := 0 ≤ p.ref ∧ 0 ≤ p.chg ∧ p.ref + p.chg ≤ p.cap
instance (p : Py) : Decidable (backOk p) := by unfold backOk; exact inferInstance
/-- Which payments may be. -/
def Py.right (p : Py) : Prop := (1 ≤ p.aut ∧ p.aut ≤ 1099511627776) ∧ (0 ≤ p.cap ∧ p.cap ≤ p.aut) ∧ backOk p ∧ (0 ≤ p.til ∧ p.til ≤ 1073741824) ∧ (p.stg = 0 ∨ p.stg = 1)
instance (p : Py) : Decidable p.right := by unfold Py.right; exact inferInstance
theorem w64 {x : Int} (h1 : -9223372036854775808 ≤ x) (h2 : x ≤ 9223372036854775807) : wrap64 x = x := by simp only [wrap64]; omega
theorem Py.right.left {p : Py} (h : p.right) : leftP p = if p.stg = 0 then p.aut - p.cap else 0 := by
 unfold Py.right backOk at h
 unfold leftP
 rw [w64 (by omega) (by omega)]
theorem Py.right.gave {p : Py} (h : p.right) : gaveP p = p.cap - p.ref - p.chg := by
 unfold Py.right backOk at h
 unfold gaveP
 rw [w64 (x := p.cap - p.ref) (by omega) (by omega), w64 (by omega) (by omega)]
theorem excE_zero {n m : Int} (h : excE n m = 0) : 1 ≤ n ∧ n ≤ m := by
 unfold excE at h
 split at h
 · omega
 · split at h <;> omega
/-- A right payment stays right, and nothing that was captured or went back becomes less. -/
theorem Py.right.stays {p : Py} (h : p.right) {op n : Int} (he : payE p op n = 0) : (payP p op n).right ∧ p.cap ≤ (payP p op n).cap ∧ p.ref ≤ (payP p op n).ref ∧ p.chg ≤ (payP p op n).chg ∧ (payP p op n).aut = p.aut ∧ (p.stg = 1 → (payP p op n).stg = 1) := by
 have hl := h.left
 have hg := h.gave
 unfold payE at he
 rw [hl, hg] at he
 obtain ⟨f, d, a, c, r, g, t, s⟩ := p
 unfold Py.right backOk at h ⊢
 unfold payP
 dsimp only at h he ⊢
 by_cases h4 : op = 4
 · rw [if_pos h4] at he ⊢
   obtain ⟨h1, h2⟩ := excE_zero he
   by_cases hs : s = 0
   · rw [if_pos hs] at h2
     rw [w64 (by omega) (by omega)]
     dsimp only
     have hq : ((if c + n = a then 1 else s) = 1 ∨ (if c + n = a then 1 else s) = s) := by split <;> simp
     obtain ⟨q, hq'⟩ : ∃ q, (if c + n = a then 1 else s) = q := ⟨_, rfl⟩
     rw [hq'] at hq ⊢
     omega
   · rw [if_neg hs] at h2
     omega
 · rw [if_neg h4] at he ⊢
   by_cases h5 : op = 5
   · rw [if_pos h5] at he ⊢
     dsimp only
     omega
   · rw [if_neg h5] at he ⊢
     by_cases h6 : op = 6
     · rw [if_pos h6] at he ⊢
       obtain ⟨h1, h2⟩ := excE_zero he
       rw [w64 (by omega) (by omega)]
       dsimp only
       omega
     · rw [if_neg h6] at he ⊢
       by_cases h7 : op = 7
       · rw [if_pos h7] at he ⊢
         obtain ⟨h1, h2⟩ := excE_zero he
         rw [w64 (by omega) (by omega)]
         dsimp only
         omega
       · rw [if_neg h7] at he
         omega
end Go.Proofs.YteifgmdaggiaaaaGreatDoor
namespace Go.Proofs.YteifgmdaggiaaaaGreatDoor
open Go Go.RowKit Go.ChangeShapes Go.WideShapes Go.Deep Go.Joins
set_option linter.unusedVariables false
def Py.cells (p : Py) : List Value := [.int .i64 p.frm, .int .i64 p.dst, .int .i64 p.aut, .int .i64 p.cap, .int .i64 p.ref, .int .i64 p.chg, .int .i64 p.til, .int .i64 p.stg]
section
variable {H : Type} {enc : TypeId × Value → H} {w : World} {base fuel : Nat} {spare : Nat → Bool} {held : Bool} {cs : List Value} {x : DataW H × List MemPlace}
end
end Go.Proofs.YteifgmdaggiaaaaGreatDoor
namespace Go.Proofs.YteifgmdaggiaaaaGreatDoor
open Go Go.RowKit
set_option linter.unusedVariables false
theorem info_pay : (Tryz.prog.info? 96).map (fun i => (i.zero, i.size, i.bytes)) = some (some (.agg #[.int .i64 0, .int .i64 0, .int .i64 0, .int .i64 0, .int .i64 0, .int .i64 0, .int .i64 0, .int .i64 0]), 8, 64) := by kernel_rfl
def pays : Shape Py := ⟨8, 96, Py.cells, by omega, fun _ => rfl, fun a u hu => by
  simp only [Py.cells, List.mem_cons, List.not_mem_nil, or_false] at hu
  rcases hu with rfl | rfl | rfl | rfl | rfl | rfl | rfl | rfl <;> rfl⟩
/-- The cells of the payment at j. -/
theorem pay_cells {w : World} {ad : Addr} {j : Nat} {k : Py} (h : AtS pays w ad j k) :
  w.cell? (ad.add (j * 8)) = some (.int .i64 k.frm) ∧
  w.cell? ⟨(ad.add (j * 8)).block, (ad.add (j * 8)).off + 1, none⟩ = some (.int .i64 k.dst) ∧
  w.cell? ⟨(ad.add (j * 8)).block, (ad.add (j * 8)).off + 2, none⟩ = some (.int .i64 k.aut) ∧
  w.cell? ⟨(ad.add (j * 8)).block, (ad.add (j * 8)).off + 3, none⟩ = some (.int .i64 k.cap) ∧
  w.cell? ⟨(ad.add (j * 8)).block, (ad.add (j * 8)).off + 4, none⟩ = some (.int .i64 k.ref) ∧
  w.cell? ⟨(ad.add (j * 8)).block, (ad.add (j * 8)).off + 5, none⟩ = some (.int .i64 k.chg) ∧
  w.cell? ⟨(ad.add (j * 8)).block, (ad.add (j * 8)).off + 6, none⟩ = some (.int .i64 k.til) ∧
  w.cell? ⟨(ad.add (j * 8)).block, (ad.add (j * 8)).off + 7, none⟩ = some (.int .i64 k.stg) := by
 refine ⟨h 0 _ rfl, ?_, ?_, ?_, ?_, ?_, ?_, ?_⟩ <;> rw [← add_next _ _ _ (by omega)]
 · exact h 1 _ rfl
 · exact h 2 _ rfl
 · exact h 3 _ rfl
 · exact h 4 _ rfl
 · exact h 5 _ rfl
 · exact h 6 _ rfl
 · exact h 7 _ rfl
structure Sg where
 rq : Rq
 ph : Int
 leg : Int
 tries : Int
 why : Int
deriving DecidableEq
def Sg.val (s : Sg) : Value := .agg #[.int .i64 s.rq.key, .int .i64 s.rq.op, .int .i64 s.rq.a, .int .i64 s.rq.b, .int .i64 s.rq.amt, .int .i64 s.rq.legs, .int .i64 s.rq.til, .int .i64 s.ph, .int .i64 s.leg, .int .i64 s.tries, .int .i64 s.why]
def Sg.cells (s : Sg) : List Value := [.int .i64 s.rq.key, .int .i64 s.rq.op, .int .i64 s.rq.a, .int .i64 s.rq.b, .int .i64 s.rq.amt, .int .i64 s.rq.legs, .int .i64 s.rq.til, .int .i64 s.ph, .int .i64 s.leg, .int .i64 s.tries, .int .i64 s.why]
/-- What begins. -/
def beginS (r : Rq) : Sg := ⟨r, 0, 0, 0, 0⟩
/-- Whether a leg's answer is waited for. -/
def waitS (s : Sg) : Prop := s.ph = 0 ∧ s.leg < s.rq.legs
instance (s : Sg) : Decidable (waitS s) := by unfold waitS; exact inferInstance
def readyS (s : Sg) : Prop := s.ph = 0 ∧ s.rq.legs ≤ s.leg
instance (s : Sg) : Decidable (readyS s) := by unfold readyS; exact inferInstance
/-- Behind an answer. -/
def legS (s : Sg) (ok : Bool) : Sg :=
 if waitS s then
  (if ok = true then ⟨s.rq, s.ph, wrap64 (s.leg + 1), 0, s.why⟩
   else if 3 < wrap64 (s.tries + 1) then ⟨s.rq, 1, s.leg, wrap64 (s.tries + 1), 9⟩ else ⟨s.rq, s.ph, s.leg, wrap64 (s.tries + 1), s.why⟩)
 else s
theorem legS_stay {s : Sg} (ok : Bool) (h : ¬ waitS s) : legS s ok = s := by unfold legS; rw [if_neg h]
theorem legS_yes {s : Sg} (h : waitS s) : legS s true = ⟨s.rq, s.ph, wrap64 (s.leg + 1), 0, s.why⟩ := by unfold legS; rw [if_pos h, if_pos rfl]
theorem legS_back {s : Sg} (h : waitS s) (ht : 3 < wrap64 (s.tries + 1)) : legS s false = ⟨s.rq, 1, s.leg, wrap64 (s.tries + 1), 9⟩ := by unfold legS; rw [if_pos h, if_neg (by simp), if_pos ht]
theorem legS_no {s : Sg} (h : waitS s) (ht : ¬ 3 < wrap64 (s.tries + 1)) : legS s false = ⟨s.rq, s.ph, s.leg, wrap64 (s.tries + 1), s.why⟩ := by unfold legS; rw [if_pos h, if_neg (by simp), if_neg ht]
def turnS (s : Sg) (why : Int) : Sg := if s.ph = 0 then ⟨s.rq, 1, s.leg, s.tries, why⟩ else s
/-- How many steps there are at most, of a small one. -/
def mostS (s : Sg) : Int := if s.ph = 0 then 4 * (if s.leg < s.rq.legs then s.rq.legs - s.leg else 0) - s.tries + 2 else if s.ph = 1 then 1 else 0
/-- Few legs, and few tries. -/
structure Sg.small (s : Sg) : Prop where
 legs : 0 ≤ s.rq.legs ∧ s.rq.legs ≤ 4
 leg : 0 ≤ s.leg ∧ s.leg ≤ s.rq.legs
 tries : 0 ≤ s.tries ∧ s.tries ≤ 4
 fwd : s.ph = 0 → s.tries ≤ 3
 ph : s.ph = 0 ∨ s.ph = 1
theorem wr1 {x : Int} (h1 : -9223372036854775808 ≤ x) (h2 : x ≤ 9223372036854775807) : wrap64 x = x := by simp only [wrap64]; omega
theorem small_begin (r : Rq) (h : 0 ≤ r.legs ∧ r.legs ≤ 4) : (beginS r).small := ⟨h, ⟨Int.le_refl _, h.1⟩, ⟨Int.le_refl _, (show (0 : Int) ≤ 4 by decide)⟩, (fun _ => show (0 : Int) ≤ 3 by decide), .inl rfl⟩
/-- What an answer makes of a small one. -/
theorem legS_small {s : Sg} (h : s.small) (ok : Bool) : legS s ok = if waitS s then
  (if ok = true then ⟨s.rq, s.ph, s.leg + 1, 0, s.why⟩ else if 3 < s.tries + 1 then ⟨s.rq, 1, s.leg, s.tries + 1, 9⟩ else ⟨s.rq, s.ph, s.leg, s.tries + 1, s.why⟩) else s := by
 have h1 := h.legs
 have h2 := h.leg
 have h3 := h.tries
 unfold legS
 rw [wr1 (x := s.leg + 1) (by omega) (by omega), wr1 (x := s.tries + 1) (by omega) (by omega)]
theorem Sg.small.leg_ {s : Sg} (h : s.small) (ok : Bool) : (legS s ok).small := by
 rw [legS_small h]
 have h1 := h.legs
 have h2 := h.leg
 have h3 := h.tries
 have h4 := h.fwd
 have h5 := h.ph
 by_cases hw : waitS s
 · rw [if_pos hw]
   have hw' : s.ph = 0 ∧ s.leg < s.rq.legs := hw
   have h6 := h4 hw'.1
   by_cases ho : ok = true
   · rw [if_pos ho]
     exact ⟨h1, by dsimp only; omega, ⟨Int.le_refl _, (show (0 : Int) ≤ 4 by decide)⟩, (fun _ => show (0 : Int) ≤ 3 by decide), h5⟩
   · rw [if_neg ho]
     by_cases ht : 3 < s.tries + 1
     · rw [if_pos ht]
       exact ⟨h1, h2, by dsimp only; omega, (fun h => absurd h (show ¬ (1 : Int) = 0 by decide)), .inr rfl⟩
     · rw [if_neg ht]
       exact ⟨h1, h2, by dsimp only; omega, (fun _ => by dsimp only; omega), h5⟩
 · rw [if_neg hw]; exact h
theorem legS_rq (s : Sg) (ok : Bool) : (legS s ok).rq = s.rq := by
 unfold legS
 split
 · split
   · rfl
   · split <;> rfl
 · rfl
/-- Each answer that is waited for leaves fewer steps. -/
theorem most_less {s : Sg} (h : s.small) (hw : waitS s) (ok : Bool) : mostS (legS s ok) < mostS s ∧ 1 ≤ mostS (legS s ok) := by
 have h1 := h.legs
 have h2 := h.leg
 have h3 := h.tries
 have hw' : s.ph = 0 ∧ s.leg < s.rq.legs := hw
 have h6 := h.fwd hw'.1
 rw [legS_small h, if_pos hw]
 have e0 : mostS s = 4 * (s.rq.legs - s.leg) - s.tries + 2 := by unfold mostS; rw [if_pos hw'.1, if_pos hw'.2]
 rw [e0]
 by_cases ho : ok = true
 · rw [if_pos ho]
   unfold mostS
   dsimp only
   rw [if_pos hw'.1]
   split <;> omega
 · rw [if_neg ho]
   by_cases ht : 3 < s.tries + 1
   · rw [if_pos ht]
     unfold mostS
     dsimp only
     rw [if_neg (by decide), if_pos rfl]
     omega
   · rw [if_neg ht]
     unfold mostS
     dsimp only
     rw [if_pos hw'.1, if_pos hw'.2]
     omega
/-- An element: a request, a reply (its error and its ID), and whether it was told. -/
structure Kn where
 rq : Rq
 err : Int
 id : Int
 told : Bool
deriving DecidableEq
def Kn.cells (k : Kn) : List Value := [.int .i64 k.rq.key, .int .i64 k.rq.op, .int .i64 k.rq.a, .int .i64 k.rq.b, .int .i64 k.rq.amt, .int .i64 k.rq.legs, .int .i64 k.rq.til, .int .i64 k.err, .int .i64 k.id, .bool k.told]
def Kn.zero : Kn := ⟨Rq.zero, 0, 0, false⟩
theorem info_known : (Tryz.prog.info? 124).map (fun i => (i.zero, i.size, i.bytes)) = some (some (.agg #[.int .i64 0, .int .i64 0, .int .i64 0, .int .i64 0, .int .i64 0, .int .i64 0, .int .i64 0, .int .i64 0, .int .i64 0, .bool false]), 10, 80) := by kernel_rfl
theorem size_known : (Tryz.prog.info? 124).map (·.size) = some 10 := by kernel_rfl
def known : Shape Kn := ⟨10, 124, Kn.cells, by omega, fun _ => rfl, fun a u hu => by
  simp only [Kn.cells, List.mem_cons, List.not_mem_nil, or_false] at hu
  rcases hu with rfl | rfl | rfl | rfl | rfl | rfl | rfl | rfl | rfl | rfl <;> rfl⟩
/-- The cells of the element at j. -/
theorem kn_cells {w : World} {ad : Addr} {j : Nat} {k : Kn} (h : AtS known w ad j k) :
  w.cell? (ad.add (j * 10)) = some (.int .i64 k.rq.key) ∧ w.cell? ⟨(ad.add (j * 10)).block, (ad.add (j * 10)).off + 1, none⟩ = some (.int .i64 k.rq.op) ∧ w.cell? ⟨(ad.add (j * 10)).block, (ad.add (j * 10)).off + 2, none⟩ = some (.int .i64 k.rq.a) ∧
  w.cell? ⟨(ad.add (j * 10)).block, (ad.add (j * 10)).off + 3, none⟩ = some (.int .i64 k.rq.b) ∧ w.cell? ⟨(ad.add (j * 10)).block, (ad.add (j * 10)).off + 4, none⟩ = some (.int .i64 k.rq.amt) ∧ w.cell? ⟨(ad.add (j * 10)).block, (ad.add (j * 10)).off + 5, none⟩ = some (.int .i64 k.rq.legs) ∧
  w.cell? ⟨(ad.add (j * 10)).block, (ad.add (j * 10)).off + 6, none⟩ = some (.int .i64 k.rq.til) ∧ w.cell? ⟨(ad.add (j * 10)).block, (ad.add (j * 10)).off + 7, none⟩ = some (.int .i64 k.err) ∧ w.cell? ⟨(ad.add (j * 10)).block, (ad.add (j * 10)).off + 8, none⟩ = some (.int .i64 k.id) ∧
  w.cell? ⟨(ad.add (j * 10)).block, (ad.add (j * 10)).off + 9, none⟩ = some (.bool k.told) := by
 refine ⟨h 0 _ rfl, ?_, ?_, ?_, ?_, ?_, ?_, ?_, ?_, ?_⟩ <;> rw [← add_next _ _ _ (by omega)]
 · exact h 1 _ rfl
 · exact h 2 _ rfl
 · exact h 3 _ rfl
 · exact h 4 _ rfl
 · exact h 5 _ rfl
 · exact h 6 _ rfl
 · exact h 7 _ rfl
 · exact h 8 _ rfl
 · exact h 9 _ rfl
/-- Where a key lies first. -/
def findN (ks : List Kn) (key : Int) : Option Nat := ks.findIdx? fun a => decide (a.rq.key = key)
/-- The same as an int. -/
def fi : Option Nat → Int
 | none => -1
 | some k => (k : Int)
section
variable {ks : List Kn} {key : Int} {i : Nat} {a : Kn}
theorem find_none : findN ks key = none ↔ ∀ (j : Nat) a, ks[j]? = some a → a.rq.key ≠ key := by
 unfold findN
 rw [List.findIdx?_eq_none_iff]
 constructor
 · intro h j a ha
   have := h a (List.mem_of_getElem? ha)
   simpa using this
 · intro h a ha
   obtain ⟨j, hj, rfl⟩ := List.getElem_of_mem ha
   have := h j _ (List.getElem?_eq_getElem hj)
   simpa using this
theorem find_some : findN ks key = some i ↔ (∃ a, ks[i]? = some a ∧ a.rq.key = key) ∧ ∀ (j : Nat) a, j < i → ks[j]? = some a → a.rq.key ≠ key := by
 unfold findN
 rw [List.findIdx?_eq_some_iff_getElem]
 constructor
 · rintro ⟨h, h1, h2⟩
   refine ⟨⟨_, List.getElem?_eq_getElem h, by simpa using h1⟩, fun j a hj ha => ?_⟩
   obtain ⟨hl, rfl⟩ := List.getElem?_eq_some_iff.1 ha
   simpa using h2 j hj
 · rintro ⟨⟨a, ha, hk⟩, h2⟩
   obtain ⟨hl, rfl⟩ := List.getElem?_eq_some_iff.1 ha
   exact ⟨hl, by simpa using hk, fun j hj => by simpa using h2 j _ hj (List.getElem?_eq_getElem (by omega))⟩
theorem find_lt (h : findN ks key = some i) : i < ks.length := by
 obtain ⟨⟨a, ha, _⟩, _⟩ := find_some.1 h
 exact (List.getElem?_eq_some_iff.1 ha).1
theorem find_get (h : findN ks key = some i) : ∃ a, ks[i]? = some a ∧ a.rq.key = key := (find_some.1 h).1
/-- One element more. -/
theorem find_snoc (b : Kn) : findN (ks ++ [b]) key = match findN ks key with | some i => some i | none => if b.rq.key = key then some ks.length else none := by
 cases h : findN ks key with
 | some i =>
   dsimp only
   obtain ⟨⟨a, ha, hk⟩, h2⟩ := find_some.1 h
   have hl := find_lt h
   refine find_some.2 ⟨⟨a, by rw [List.getElem?_append_left hl]; exact ha, hk⟩, fun j a' hj ha' => h2 j a' hj ?_⟩
   rw [List.getElem?_append_left (by omega)] at ha'
   exact ha'
 | none =>
   dsimp only
   have h0 := find_none.1 h
   by_cases hb : b.rq.key = key
   · rw [if_pos hb]
     refine find_some.2 ⟨⟨b, by simp, hb⟩, fun j a hj ha => h0 j a ?_⟩
     rw [List.getElem?_append_left hj] at ha
     exact ha
   · rw [if_neg hb]
     refine find_none.2 fun j a ha => ?_
     by_cases hj : j < ks.length
     · rw [List.getElem?_append_left hj] at ha
       exact h0 j a ha
     · have hj' : j = ks.length := by
        have := (List.getElem?_eq_some_iff.1 ha).1
        simp at this
        omega
       subst hj'
       simp at ha
       subst ha
       exact hb
end
/-- The element at a place. -/
def knAt (ks : List Kn) (i : Nat) : Kn := ks.getD i Kn.zero
theorem knAt_of {ks : List Kn} {i : Nat} {a : Kn} (h : ks[i]? = some a) : knAt ks i = a := by simp [knAt, List.getD, h]
/-- What Ask tells: an error, an ID, and whether the key is known. -/
def askR (ks : List Kn) (r : Rq) : Int × Int × Bool :=
 match findN ks r.key with
 | none => (0, 0, false)
 | some i => if (knAt ks i).rq = r then (if (knAt ks i).told = true then ((knAt ks i).err, (knAt ks i).id, true) else (10, 0, true)) else (5, 0, true)
/-- Put's error, and its elements. -/
def kputE (ks : List Kn) (r : Rq) : Int := if findN ks r.key = none then (if 256 ≤ ks.length then 7 else 0) else 5
def putL (ks : List Kn) (r : Rq) : List Kn := if kputE ks r = 0 then ks ++ [⟨r, 0, 0, false⟩] else []
/-- Tell's error, and its elements. -/
def tellE (ks : List Kn) (key : Int) : Int :=
 match findN ks key with
 | none => 2
 | some i => if (knAt ks i).told = true then 6 else 0
def tellL (ks : List Kn) (key e x : Int) : List Kn :=
 match findN ks key with
 | none => []
 | some i => if (knAt ks i).told = true then [] else ks.set i ⟨(knAt ks i).rq, e, x, true⟩
end Go.Proofs.YteifgmdaggiaaaaGreatDoor
