/-
  Accounts as plain data; a slice of them that reads as a list; one that is the call's own; what a store, and an append, make of it.
-/
import Derived.Test.YtbneohglblkmeaaDoorSlices
import Derived.Test.YtbneohglblkmeaaDoorProg
import Derived.Lib.Hide
namespace Go.Proofs.YtbneohglblkmeaaDoor
open Go Go.RowKit
set_option linter.unusedVariables false

theorem info_acc : (Tryd.prog.info? 48).map (fun i => (i.zero, i.size, i.bytes)) = some (some (.agg #[.int .i64 0, .int .i64 0, .int .i64 0]), 3, 24) := by kernel_rfl

/-- An account: its currency, its balance, and what of it is held. -/
structure Ac where
  cur : Int
  bal : Int
  held : Int

/-- It fits Go's int. -/
def isInt (x : Int) : Prop := -9223372036854775808 ≤ x ∧ x ≤ 9223372036854775807
def Ac.fits (a : Ac) : Prop := isInt a.cur ∧ isInt a.bal ∧ isInt a.held

/-- Accounts, cell by cell. -/
def acells : List Ac → List Value
  | [] => []
  | a :: r => .int .i64 a.cur :: .int .i64 a.bal :: .int .i64 a.held :: acells r

theorem acells_len : ∀ zs : List Ac, (acells zs).length = zs.length * 3
  | [] => rfl
  | a :: r => by simp [acells, acells_len r]; omega
theorem acells_append : ∀ a b : List Ac, acells (a ++ b) = acells a ++ acells b
  | [], b => rfl
  | a :: r, b => by simp [acells, acells_append r b]
theorem acells_get : ∀ {zs : List Ac} {j : Nat} {a : Ac}, zs[j]? = some a →
    (acells zs)[j * 3]? = some (.int .i64 a.cur) ∧ (acells zs)[j * 3 + 1]? = some (.int .i64 a.bal) ∧ (acells zs)[j * 3 + 2]? = some (.int .i64 a.held)
  | [], j, a, h => by simp at h
  | b :: r, 0, a, h => by simp at h; subst h; simp [acells]
  | b :: r, j + 1, a, h => by
    have h' : r[j]? = some a := by simpa using h
    obtain ⟨h0, h1, h2⟩ := acells_get h'
    have e : (j + 1) * 3 = j * 3 + 1 + 1 + 1 := by omega
    have e1 : (j + 1) * 3 + 1 = j * 3 + 1 + 1 + 1 + 1 := by omega
    have e2 : (j + 1) * 3 + 2 = j * 3 + 2 + 1 + 1 + 1 := by omega
    rw [e1, e2, e]
    simp only [acells, List.getElem?_cons_succ]
    exact ⟨h0, h1, h2⟩
theorem acells_set : ∀ {zs : List Ac} {j : Nat} {a : Ac}, zs[j]? = some a → ∀ x : Int,
    (acells zs).set (j * 3) (.int .i64 x) = acells (zs.set j ⟨x, a.bal, a.held⟩) ∧ (acells zs).set (j * 3 + 1) (.int .i64 x) = acells (zs.set j ⟨a.cur, x, a.held⟩) ∧ (acells zs).set (j * 3 + 2) (.int .i64 x) = acells (zs.set j ⟨a.cur, a.bal, x⟩)
  | [], j, a, h, x => by simp at h
  | b :: r, 0, a, h, x => by simp at h; subst h; simp [acells]
  | b :: r, j + 1, a, h, x => by
    have h' : r[j]? = some a := by simpa using h
    obtain ⟨h0, h1, h2⟩ := acells_set h' x
    have e : (j + 1) * 3 = j * 3 + 1 + 1 + 1 := by omega
    have e1 : (j + 1) * 3 + 1 = j * 3 + 1 + 1 + 1 + 1 := by omega
    have e2 : (j + 1) * 3 + 2 = j * 3 + 2 + 1 + 1 + 1 := by omega
    rw [e1, e2, e]
    simp only [acells, List.set_cons_succ, h0, h1, h2]
    exact ⟨trivial, trivial, trivial⟩
theorem acells_replicate (n : Nat) : (madeCells #[.int .i64 0, .int .i64 0, .int .i64 0] (n * 3)).toList = acells (List.replicate n ⟨0, 0, 0⟩) := by
  have h : ∀ v ∈ acells (List.replicate n ⟨0, 0, 0⟩), v = Value.int .i64 0 := by
    induction n with
    | zero => simp [acells]
    | succ n ih =>
      intro v hv
      simp only [List.replicate_succ, acells, List.mem_cons] at hv
      rcases hv with rfl | rfl | rfl | hv
      · rfl
      · rfl
      · rfl
      · exact ih v hv
  have h1 : acells (List.replicate n ⟨0, 0, 0⟩) = List.replicate (n * 3) (Value.int .i64 0) := by
    rw [List.eq_replicate_iff]
    exact ⟨by rw [acells_len, List.length_replicate], h⟩
  rw [h1]
  apply List.ext_getElem?
  intro j
  by_cases hj : j < n * 3
  · have h3 : j % 3 = 0 ∨ j % 3 = 1 ∨ j % 3 = 2 := by omega
    rcases h3 with h3 | h3 | h3 <;> simp [madeCells, hj, h3]
  · simp [madeCells, hj]
theorem acells_one (zs : List Ac) : ∀ u ∈ acells zs, u.oneCell' = true := by
  induction zs with
  | nil => simp [acells]
  | cons a r ih =>
    intro u hu
    simp only [acells, List.mem_cons] at hu
    rcases hu with rfl | rfl | rfl | hu
    · rfl
    · rfl
    · rfl
    · exact ih u hu

/-- The account at j behind ad. -/
structure AcAt (w : World) (ad : Addr) (j : Nat) (a : Ac) : Prop where
  c0 : w.cell? (ad.add (j * 3)) = some (.int .i64 a.cur)
  c1 : w.cell? (ad.add (j * 3 + 1)) = some (.int .i64 a.bal)
  c2 : w.cell? (ad.add (j * 3 + 2)) = some (.int .i64 a.held)

/-- The slice of accounts at A reads as them. -/
def RdA (w : World) (A : Option Addr) (zs : List Ac) : Prop := 0 < zs.length → ∃ ad, A = some ad ∧ ∀ (j : Nat) (a : Ac), zs[j]? = some a → AcAt w ad j a

/-- The slice v of accounts is the call's own (its block is from 'base' on). -/
def OwnA (w : World) (base : Nat) (v : Value) (zs : List Ac) : Prop := w.ownsRow base 48 3 v zs.length (acells zs)

theorem add_next (ad : Addr) (n j : Nat) (hj : 0 < j) : ad.add (n + j) = ⟨(ad.add n).block, (ad.add n).off + j, none⟩ := by
  unfold Addr.add
  rw [if_neg (by omega)]
  by_cases hn : n = 0
  · subst hn; simp
  · simp [hn]; omega

section
variable {w w' : World} {A : Option Addr} {zs : List Ac} {base g n cap j : Nat} {a : Ac} {v : Value} {ad : Addr}

theorem AcAt.keep (h : AcAt w ad j a) (hk : ∀ p : Addr, p.block < w.heap.size → w'.cell? p = w.cell? p) : AcAt w' ad j a :=
  ⟨by rw [hk _ (World.block_lt_of_cell? w _ h.c0)]; exact h.c0, by rw [hk _ (World.block_lt_of_cell? w _ h.c1)]; exact h.c1, by rw [hk _ (World.block_lt_of_cell? w _ h.c2)]; exact h.c2⟩
theorem RdA.keep (h : RdA w A zs) (hk : ∀ p : Addr, p.block < w.heap.size → w'.cell? p = w.cell? p) : RdA w' A zs := fun hn => by
  obtain ⟨ad, he, hc⟩ := h hn
  exact ⟨ad, he, fun j a hj => (hc j a hj).keep hk⟩
theorem RdA.below (h : RdA w A zs) (hb : Below w.heap.size w w') : RdA w' A zs := h.keep fun _ hp => hb.cell hp
theorem RdA.drewN (h : RdA w A zs) (m : Nat) : RdA (w.drewN m) A zs := h.keep fun _ _ => rfl
theorem RdA.drew (h : RdA w A zs) : RdA w.drew A zs := h.keep fun _ _ => rfl
theorem RdA.alloc (h : RdA w A zs) (o : Obj) : RdA (w.alloc o) A zs := h.keep fun p hp => World.cell?_alloc_lt w o p hp
theorem RdA.at_ (h : RdA w A zs) (hj : zs[j]? = some a) : ∃ ad, A = some ad ∧ AcAt w ad j a := by
  have hlt : j < zs.length := (List.getElem?_eq_some_iff.1 hj).1
  obtain ⟨ad, he, hc⟩ := h (by omega)
  exact ⟨ad, he, hc j a hj⟩
theorem RdA.front (h : RdA w A zs) (k : Nat) : RdA w A (zs.take k) := fun hn => by
  rw [List.length_take] at hn
  obtain ⟨ad, he, hc⟩ := h (by omega)
  refine ⟨ad, he, fun j a hj => hc j a ?_⟩
  rw [List.getElem?_take] at hj
  split at hj
  · exact hj
  · cases hj

theorem OwnA.alloc (h : OwnA w base v zs) (o : Obj) : OwnA (w.alloc o) base v zs := World.ownsRow.alloc h o
theorem OwnA.drew (h : OwnA w base v zs) : OwnA w.drew base v zs := h
theorem OwnA.drewN (h : OwnA w base v zs) (m : Nat) : OwnA (w.drewN m) base v zs := h
theorem OwnA.less {b : Nat} (h : OwnA w base v zs) (hb : b ≤ base) : OwnA w b v zs := by
  refine ⟨h.1, ?_⟩
  rcases h.2 with h | ⟨g, cap, cur, hv, hg, r⟩
  · exact .inl h
  · exact .inr ⟨g, cap, cur, hv, by omega, r⟩
theorem OwnA.same (h : OwnA w base v zs) (hs : ∀ g, v.ownBlock = some g → w'.heap[g]? = w.heap[g]?) : OwnA w' base v zs := by
  refine ⟨h.1, ?_⟩
  rcases h.2 with h | ⟨g, cap, cur, hv, hg, hh, r⟩
  · exact .inl h
  · exact .inr ⟨g, cap, cur, hv, hg, by rw [hs g (by rw [hv]; rfl)]; exact hh, r⟩
theorem OwnA.rowLt (h : OwnA w base v zs) : ∀ g, v.ownBlock = some g → base ≤ g := fun g hg => (World.ownsRow.lt h g hg).1
theorem OwnA.below (h : OwnA w base v zs) (hb : Below w.heap.size w w') : OwnA w' base v zs := h.same fun g hg => hb.block g (World.ownsRow.lt h g hg).2
theorem OwnA.setOther {p : Addr} {u : Value} (h : OwnA w base v zs) (hp : ∀ g, v.ownBlock = some g → g ≠ p.block) : OwnA (w.setCell p u) base v zs :=
  h.same fun i hi => Below.heap_setCell _ _ _ _ (hp i hi)
theorem OwnA.open_ (h : OwnA w base v zs) (hn : 0 < zs.length) : ∃ g cap, v = .slice (some ⟨g, 0, none⟩) zs.length cap ∧ base ≤ g ∧ g < w.heap.size ∧ zs.length ≤ cap ∧ cap ≤ maxLen := by
  rcases h.2 with ⟨_, h0⟩ | ⟨g, cap, cur, hv, hb, hg, hnc, hcm, _⟩
  · omega
  · exact ⟨g, cap, hv, hb, (Array.getElem?_eq_some_iff.1 hg).1, hnc, hcm⟩
theorem OwnA.at_ (h : OwnA w base (.slice (some ⟨g, 0, none⟩) n cap) zs) (hj : zs[j]? = some a) :
    w.cell? ⟨g, j * 3, none⟩ = some (.int .i64 a.cur) ∧ w.cell? ⟨g, j * 3 + 1, none⟩ = some (.int .i64 a.bal) ∧ w.cell? ⟨g, j * 3 + 2, none⟩ = some (.int .i64 a.held) := by
  have hc := World.ownsRow.cells h (g := g) rfl
  obtain ⟨h0, h1, h2⟩ := acells_get hj
  have hadd : ∀ i, (⟨g, 0, none⟩ : Addr).add i = ⟨g, i, none⟩ := fun i => by unfold Addr.add; split <;> simp_all
  have k0 := hc _ _ h0
  have k1 := hc _ _ h1
  have k2 := hc _ _ h2
  rw [hadd] at k0 k1 k2
  exact ⟨k0, k1, k2⟩
theorem OwnA.rd (h : OwnA w base (.slice A n cap) zs) : RdA w A zs := fun hn => by
  obtain ⟨g, c, hv, _⟩ := h.open_ hn
  injection hv with e1 e2 e3
  subst e1 e2 e3
  have hadd : ∀ i, (⟨g, 0, none⟩ : Addr).add i = ⟨g, i, none⟩ := fun i => by unfold Addr.add; split <;> simp_all
  refine ⟨_, rfl, fun j a hj => ?_⟩
  obtain ⟨h0, h1, h2⟩ := h.at_ hj
  exact ⟨by rw [hadd]; exact h0, by rw [hadd]; exact h1, by rw [hadd]; exact h2⟩
theorem OwnA.unfrozen (h : OwnA w base (.slice (some ⟨g, 0, none⟩) n cap) zs) (hn : n = zs.length) (i : Nat) : w.frozen? ⟨g, i, none⟩ = false := by
  subst hn; exact World.ownsRow.frozenAt h i
theorem OwnA.set (h : OwnA w base (.slice (some ⟨g, 0, none⟩) n cap) zs) (hn : n = zs.length) (hj : zs[j]? = some a) (x : Int) :
    OwnA (w.setCell ⟨g, j * 3, none⟩ (.int .i64 x)) base (.slice (some ⟨g, 0, none⟩) n cap) (zs.set j ⟨x, a.bal, a.held⟩) ∧
    OwnA (w.setCell ⟨g, j * 3 + 1, none⟩ (.int .i64 x)) base (.slice (some ⟨g, 0, none⟩) n cap) (zs.set j ⟨a.cur, x, a.held⟩) ∧
    OwnA (w.setCell ⟨g, j * 3 + 2, none⟩ (.int .i64 x)) base (.slice (some ⟨g, 0, none⟩) n cap) (zs.set j ⟨a.cur, a.bal, x⟩) := by
  subst hn
  obtain ⟨h0, h1, h2⟩ := acells_set hj x
  refine ⟨?_, ?_, ?_⟩
  · have := (World.ownsRow.stored h (j * 3) (.int .i64 x)).1
    rw [h0] at this
    unfold OwnA
    rw [List.length_set]
    exact this
  · have := (World.ownsRow.stored h (j * 3 + 1) (.int .i64 x)).1
    rw [h1] at this
    unfold OwnA
    rw [List.length_set]
    exact this
  · have := (World.ownsRow.stored h (j * 3 + 2) (.int .i64 x)).1
    rw [h2] at this
    unfold OwnA
    rw [List.length_set]
    exact this
/-- The first of them, in the same memory. -/
theorem OwnA.front (h : OwnA w base (.slice (some ⟨g, 0, none⟩) n cap) zs) (hn : n = zs.length) (k : Nat) (hk : k ≤ n) : OwnA w base (.slice (some ⟨g, 0, none⟩) k cap) (zs.take k) := by
  subst hn
  have e : acells (zs.take k) = (acells zs).take (k * 3) := by
    have h1 : acells zs = acells (zs.take k) ++ acells (zs.drop k) := by rw [← acells_append, List.take_append_drop]
    rw [h1, List.take_left' (by rw [acells_len, List.length_take]; congr 1; omega)]
  have hkl : (zs.take k).length = k := by rw [List.length_take]; omega
  unfold OwnA
  rw [hkl]
  refine ⟨by rw [acells_len, hkl], ?_⟩
  rcases h.2 with ⟨h0, _⟩ | ⟨g', cap', cur, hv, hb, hg, hnc, hcm, hs, ht⟩
  · cases h0
  · injection hv with e1 e2 e3
    injection e1 with e1
    injection e1 with e1
    subst e1 e3
    exact .inr ⟨g, cap, cur, rfl, hb, hg, by omega, hcm, hs, by rw [e, ← ht, List.take_take]; congr 1; omega⟩
end

/-- make([]Account, n). -/
theorem run_make_acc (n : Nat) (hn : n ≤ 5864062014805) (W : World) : (Instr.makeSlice 29 (.int .i64 (n : Int)) (.int .i64 (n : Int))).run Tryd.prog W = .ok (.slice (some ⟨W.heap.size, 0, none⟩) n n) (W.alloc (.cells (madeCells #[.int .i64 0, .int .i64 0, .int .i64 0] (n * 3)) 48)) := by
  obtain ⟨i0, hi, hz0, hz1, hz2⟩ := info_parts info_acc
  have h := run_make (P := Tryd.prog) W 29 48 i0 (.agg #[.int .i64 0, .int .i64 0, .int .i64 0]) Tryd.underlying29 hi hz0 .i64 .i64 (n : Int) (n : Int) (by omega) (by omega) (by rw [hz2]; omega) (by omega)
  rw [hz1] at h
  have e2 : ((n : Int)).toNat = n := by omega
  rw [e2] at h
  exact h
theorem own_made_acc (w : World) (n base : Nat) (hn : n ≤ maxLen) (hb : base ≤ w.heap.size) :
    OwnA (w.alloc (.cells (madeCells #[.int .i64 0, .int .i64 0, .int .i64 0] (n * 3)) 48)) base (.slice (some ⟨w.heap.size, 0, none⟩) n n) (List.replicate n ⟨0, 0, 0⟩) := by
  unfold OwnA
  rw [← acells_replicate, List.length_replicate]
  exact World.ownsRow_lit w _ n hb hn (size_madeCells _ _)

theorem run_make_nine (W : World) : (Instr.makeSlice 29 (.int .i64 9) (.int .i64 9)).run Tryd.prog W = .ok (.slice (some ⟨W.heap.size, 0, none⟩) 9 9) (W.alloc (.cells (madeCells #[.int .i64 0, .int .i64 0, .int .i64 0] (9 * 3)) 48)) :=
  run_make_acc 9 (by omega) W

/-- One account more. -/
theorem wpList_append_acc {ops : Array Oper} {rest : List Oper} {o : Oper} {a : Act} {Q : Exit → Act → World → Prop} (w : World) (hgd : o.guard = none) (s x : Operand)
    (ho : o.op = .call { callee := .builtin .append, args := #[s, x], argTypes := #[29, 29] })
    (base : Nat) (v : Value) (zs : List Ac) (hs : a.eval s = v) (hown : OwnA w base v zs) (ad : Addr) (c : Nat) (b : Ac) (hx : a.eval x = .slice (some ad) 1 c) (hc : AcAt w ad 0 b) (hl : zs.length ≤ 1000000) (hbase : base ≤ w.heap.size)
    (h : ∀ v' w', OwnA w' base v' (zs ++ [b]) → w.grownBy w' v.ownBlock → wpList Tryd.prog ops Q rest (a.put o.dst v') w') : wpList Tryd.prog ops Q (o :: rest) a w :=
  wpList_plain hgd fun _ hK => by
    obtain ⟨i0, hi, hz0, hz1, hz2⟩ := info_parts info_acc
    obtain ⟨v', w', hrun, h2, h3, _⟩ := run_append_own (P := Tryd.prog) w base 29 o.type 48 i0 _ 3 24 Tryd.underlying29 hi hz0 hz1 hz2 rfl (by omega) v zs.length (acells zs) hown ad 1 c (acells [b]) rfl
      (fun j u hu => by
        match j, hu with
        | 0, hu => simp [acells] at hu; subst hu; exact hc.c0
        | 1, hu => simp [acells] at hu; subst hu; exact hc.c1
        | 2, hu => simp [acells] at hu; subst hu; exact hc.c2
        | j + 3, hu => simp [acells] at hu) (acells_one _) (by simp only [maxLen]; omega) (by omega) hbase
    unfold Oper.wp execOp
    simp only [ho, resolve, invoke, builtin, Sem.run_bind, Sem.run_pure, Result.andThen_ok, List.map_toArray, List.map_cons, List.map_nil, hs, hx, hrun]
    refine hK _ _ (h v' w' ?_ h3)
    unfold OwnA
    rw [List.length_append, acells_append]
    exact h2
end Go.Proofs.YtbneohglblkmeaaDoor
