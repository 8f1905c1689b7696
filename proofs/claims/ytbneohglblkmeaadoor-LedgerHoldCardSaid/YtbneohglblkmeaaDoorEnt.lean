/-
  Entries as plain data; a slice of them that reads as a list; one that is the call's own; what a store, and an append, make of it.
-/
import Derived.Test.YtbneohglblkmeaaDoorAcc
namespace Go.Proofs.YtbneohglblkmeaaDoor
open Go Go.RowKit
set_option linter.unusedVariables false

theorem info_ent : (Tryd.prog.info? 33).map (fun i => (i.zero, i.size, i.bytes)) = some (some (.agg #[.int .i64 0, .int .i64 0]), 2, 16) := by kernel_rfl

/-- An entry: which account, how much. -/
structure En where
  acct : Int
  amt : Int
instance : DecidableEq En := fun a b => decidable_of_iff (a.acct = b.acct ∧ a.amt = b.amt) (by cases a; cases b; simp)

/-- Entries, cell by cell. -/
def ecells : List En → List Value
  | [] => []
  | a :: r => .int .i64 a.acct :: .int .i64 a.amt :: ecells r

theorem ecells_len : ∀ zs : List En, (ecells zs).length = zs.length * 2
  | [] => rfl
  | a :: r => by simp [ecells, ecells_len r]; omega
theorem ecells_append : ∀ a b : List En, ecells (a ++ b) = ecells a ++ ecells b
  | [], b => rfl
  | a :: r, b => by simp [ecells, ecells_append r b]
theorem ecells_get : ∀ {zs : List En} {j : Nat} {a : En}, zs[j]? = some a →
    (ecells zs)[j * 2]? = some (.int .i64 a.acct) ∧ (ecells zs)[j * 2 + 1]? = some (.int .i64 a.amt)
  | [], j, a, h => by simp at h
  | b :: r, 0, a, h => by simp at h; subst h; simp [ecells]
  | b :: r, j + 1, a, h => by
    have h' : r[j]? = some a := by simpa using h
    obtain ⟨h0, h1⟩ := ecells_get h'
    have e : (j + 1) * 2 = j * 2 + 1 + 1 := by omega
    have e1 : (j + 1) * 2 + 1 = j * 2 + 1 + 1 + 1 := by omega
    rw [e1, e]
    simp only [ecells, List.getElem?_cons_succ]
    exact ⟨h0, h1⟩
theorem ecells_set : ∀ {zs : List En} {j : Nat} {a : En}, zs[j]? = some a → ∀ x : Int,
    (ecells zs).set (j * 2) (.int .i64 x) = ecells (zs.set j ⟨x, a.amt⟩) ∧ (ecells zs).set (j * 2 + 1) (.int .i64 x) = ecells (zs.set j ⟨a.acct, x⟩)
  | [], j, a, h, x => by simp at h
  | b :: r, 0, a, h, x => by simp at h; subst h; simp [ecells]
  | b :: r, j + 1, a, h, x => by
    have h' : r[j]? = some a := by simpa using h
    obtain ⟨h0, h1⟩ := ecells_set h' x
    have e : (j + 1) * 2 = j * 2 + 1 + 1 := by omega
    have e1 : (j + 1) * 2 + 1 = j * 2 + 1 + 1 + 1 := by omega
    rw [e1, e]
    simp only [ecells, List.set_cons_succ, h0, h1]
    exact ⟨trivial, trivial⟩
theorem ecells_replicate (n : Nat) : (madeCells #[.int .i64 0, .int .i64 0] (n * 2)).toList = ecells (List.replicate n ⟨0, 0⟩) := by
  have h : ∀ v ∈ ecells (List.replicate n ⟨0, 0⟩), v = Value.int .i64 0 := by
    induction n with
    | zero => simp [ecells]
    | succ n ih =>
      intro v hv
      simp only [List.replicate_succ, ecells, List.mem_cons] at hv
      rcases hv with rfl | rfl | hv
      · rfl
      · rfl
      · exact ih v hv
  have h1 : ecells (List.replicate n ⟨0, 0⟩) = List.replicate (n * 2) (Value.int .i64 0) := by
    rw [List.eq_replicate_iff]
    exact ⟨by rw [ecells_len, List.length_replicate], h⟩
  rw [h1]
  apply List.ext_getElem?
  intro j
  by_cases hj : j < n * 2
  · have h3 : j % 2 = 0 ∨ j % 2 = 1 := by omega
    rcases h3 with h3 | h3 <;> simp [madeCells, hj, h3]
  · simp [madeCells, hj]
theorem ecells_one (zs : List En) : ∀ u ∈ ecells zs, u.oneCell' = true := by
  induction zs with
  | nil => simp [ecells]
  | cons a r ih =>
    intro u hu
    simp only [ecells, List.mem_cons] at hu
    rcases hu with rfl | rfl | hu
    · rfl
    · rfl
    · exact ih u hu

/-- The entry at j behind ad. -/
structure EnAt (w : World) (ad : Addr) (j : Nat) (a : En) : Prop where
  c0 : w.cell? (ad.add (j * 2)) = some (.int .i64 a.acct)
  c1 : w.cell? (ad.add (j * 2 + 1)) = some (.int .i64 a.amt)

/-- The slice of entries at A reads as them. -/
def RdE (w : World) (A : Option Addr) (zs : List En) : Prop := 0 < zs.length → ∃ ad, A = some ad ∧ ∀ (j : Nat) (a : En), zs[j]? = some a → EnAt w ad j a

/-- The slice v of entries is the call's own (its block is from 'base' on). -/
def OwnE (w : World) (base : Nat) (v : Value) (zs : List En) : Prop := w.ownsRow base 33 2 v zs.length (ecells zs)

section
variable {w w' : World} {A : Option Addr} {zs : List En} {base g n cap j : Nat} {a : En} {v : Value} {ad : Addr}

theorem EnAt.keep (h : EnAt w ad j a) (hk : ∀ p : Addr, p.block < w.heap.size → w'.cell? p = w.cell? p) : EnAt w' ad j a :=
  ⟨by rw [hk _ (World.block_lt_of_cell? w _ h.c0)]; exact h.c0, by rw [hk _ (World.block_lt_of_cell? w _ h.c1)]; exact h.c1⟩
theorem RdE.keep (h : RdE w A zs) (hk : ∀ p : Addr, p.block < w.heap.size → w'.cell? p = w.cell? p) : RdE w' A zs := fun hn => by
  obtain ⟨ad, he, hc⟩ := h hn
  exact ⟨ad, he, fun j a hj => (hc j a hj).keep hk⟩
theorem RdE.below (h : RdE w A zs) (hb : Below w.heap.size w w') : RdE w' A zs := h.keep fun _ hp => hb.cell hp
theorem RdE.drewN (h : RdE w A zs) (m : Nat) : RdE (w.drewN m) A zs := h.keep fun _ _ => rfl
theorem RdE.drew (h : RdE w A zs) : RdE w.drew A zs := h.keep fun _ _ => rfl
theorem RdE.alloc (h : RdE w A zs) (o : Obj) : RdE (w.alloc o) A zs := h.keep fun p hp => World.cell?_alloc_lt w o p hp
theorem RdE.at_ (h : RdE w A zs) (hj : zs[j]? = some a) : ∃ ad, A = some ad ∧ EnAt w ad j a := by
  have hlt : j < zs.length := (List.getElem?_eq_some_iff.1 hj).1
  obtain ⟨ad, he, hc⟩ := h (by omega)
  exact ⟨ad, he, hc j a hj⟩

theorem OwnE.nil : OwnE w base (.slice none 0 0) [] := World.ownsRow_nil w base _ 2
theorem OwnE.alloc (h : OwnE w base v zs) (o : Obj) : OwnE (w.alloc o) base v zs := World.ownsRow.alloc h o
theorem OwnE.drew (h : OwnE w base v zs) : OwnE w.drew base v zs := h
theorem OwnE.drewN (h : OwnE w base v zs) (m : Nat) : OwnE (w.drewN m) base v zs := h
theorem OwnE.less {b : Nat} (h : OwnE w base v zs) (hb : b ≤ base) : OwnE w b v zs := by
  refine ⟨h.1, ?_⟩
  rcases h.2 with h | ⟨g, cap, cur, hv, hg, r⟩
  · exact .inl h
  · exact .inr ⟨g, cap, cur, hv, by omega, r⟩
theorem OwnE.same (h : OwnE w base v zs) (hs : ∀ g, v.ownBlock = some g → w'.heap[g]? = w.heap[g]?) : OwnE w' base v zs := by
  refine ⟨h.1, ?_⟩
  rcases h.2 with h | ⟨g, cap, cur, hv, hg, hh, r⟩
  · exact .inl h
  · exact .inr ⟨g, cap, cur, hv, hg, by rw [hs g (by rw [hv]; rfl)]; exact hh, r⟩
theorem OwnE.rowLt (h : OwnE w base v zs) : ∀ g, v.ownBlock = some g → base ≤ g := fun g hg => (World.ownsRow.lt h g hg).1
theorem OwnE.below (h : OwnE w base v zs) (hb : Below w.heap.size w w') : OwnE w' base v zs := h.same fun g hg => hb.block g (World.ownsRow.lt h g hg).2
theorem OwnE.setOther {p : Addr} {u : Value} (h : OwnE w base v zs) (hp : ∀ g, v.ownBlock = some g → g ≠ p.block) : OwnE (w.setCell p u) base v zs :=
  h.same fun i hi => Below.heap_setCell _ _ _ _ (hp i hi)
theorem OwnE.open_ (h : OwnE w base v zs) (hn : 0 < zs.length) : ∃ g cap, v = .slice (some ⟨g, 0, none⟩) zs.length cap ∧ base ≤ g ∧ g < w.heap.size ∧ zs.length ≤ cap ∧ cap ≤ maxLen := by
  rcases h.2 with ⟨_, h0⟩ | ⟨g, cap, cur, hv, hb, hg, hnc, hcm, _⟩
  · omega
  · exact ⟨g, cap, hv, hb, (Array.getElem?_eq_some_iff.1 hg).1, hnc, hcm⟩
theorem OwnE.at_ (h : OwnE w base (.slice (some ⟨g, 0, none⟩) n cap) zs) (hj : zs[j]? = some a) :
    w.cell? ⟨g, j * 2, none⟩ = some (.int .i64 a.acct) ∧ w.cell? ⟨g, j * 2 + 1, none⟩ = some (.int .i64 a.amt) := by
  have hc := World.ownsRow.cells h (g := g) rfl
  obtain ⟨h0, h1⟩ := ecells_get hj
  have hadd : ∀ i, (⟨g, 0, none⟩ : Addr).add i = ⟨g, i, none⟩ := fun i => by unfold Addr.add; split <;> simp_all
  have k0 := hc _ _ h0
  have k1 := hc _ _ h1
  rw [hadd] at k0 k1
  exact ⟨k0, k1⟩
theorem OwnE.rd (h : OwnE w base (.slice A n cap) zs) : RdE w A zs := fun hn => by
  obtain ⟨g, c, hv, _⟩ := h.open_ hn
  injection hv with e1 e2 e3
  subst e1 e2 e3
  have hadd : ∀ i, (⟨g, 0, none⟩ : Addr).add i = ⟨g, i, none⟩ := fun i => by unfold Addr.add; split <;> simp_all
  refine ⟨_, rfl, fun j a hj => ?_⟩
  obtain ⟨h0, h1⟩ := h.at_ hj
  exact ⟨by rw [hadd]; exact h0, by rw [hadd]; exact h1⟩
/-- Whatever form it has. -/
theorem OwnE.form (h : OwnE w base v zs) : ∃ A cap, v = .slice A zs.length cap ∧ RdE w A zs ∧ zs.length ≤ cap ∧ cap ≤ maxLen ∧ (A = none → zs.length = 0 ∧ cap = 0) := by
  rcases h.2 with ⟨hv, h0⟩ | ⟨g, cap, cur, hv, hb, hg, hnc, hcm, _⟩
  · have hz : zs = [] := List.eq_nil_of_length_eq_zero h0
    subst hz
    exact ⟨none, 0, hv, fun h => by simp at h, Nat.le_refl _, Nat.zero_le _, fun _ => ⟨rfl, rfl⟩⟩
  · subst hv
    exact ⟨_, cap, rfl, h.rd, hnc, hcm, fun h => by cases h⟩
theorem OwnE.unfrozen (h : OwnE w base (.slice (some ⟨g, 0, none⟩) n cap) zs) (hn : n = zs.length) (i : Nat) : w.frozen? ⟨g, i, none⟩ = false := by
  subst hn; exact World.ownsRow.frozenAt h i
theorem OwnE.set (h : OwnE w base (.slice (some ⟨g, 0, none⟩) n cap) zs) (hn : n = zs.length) (hj : zs[j]? = some a) (x : Int) :
    OwnE (w.setCell ⟨g, j * 2, none⟩ (.int .i64 x)) base (.slice (some ⟨g, 0, none⟩) n cap) (zs.set j ⟨x, a.amt⟩) ∧
    OwnE (w.setCell ⟨g, j * 2 + 1, none⟩ (.int .i64 x)) base (.slice (some ⟨g, 0, none⟩) n cap) (zs.set j ⟨a.acct, x⟩) := by
  subst hn
  obtain ⟨h0, h1⟩ := ecells_set hj x
  refine ⟨?_, ?_⟩
  · have := (World.ownsRow.stored h (j * 2) (.int .i64 x)).1
    rw [h0] at this
    unfold OwnE
    rw [List.length_set]
    exact this
  · have := (World.ownsRow.stored h (j * 2 + 1) (.int .i64 x)).1
    rw [h1] at this
    unfold OwnE
    rw [List.length_set]
    exact this
/-- A whole entry stored. -/
theorem OwnE.put (h : OwnE w base (.slice (some ⟨g, 0, none⟩) n cap) zs) (hn : n = zs.length) (hj : j < n) (x y : Int) :
    OwnE ((w.setCell ⟨g, j * 2, none⟩ (.int .i64 x)).setCell ⟨g, j * 2 + 1, none⟩ (.int .i64 y)) base (.slice (some ⟨g, 0, none⟩) n cap) (zs.set j ⟨x, y⟩) := by
  obtain ⟨a, ha⟩ : ∃ a, zs[j]? = some a := ⟨_, List.getElem?_eq_getElem (by omega)⟩
  have h1 := (h.set hn ha x).1
  have h2 := (h1.set (by rw [List.length_set]; exact hn) (j := j) (a := ⟨x, a.amt⟩) (by rw [List.getElem?_set_self (by omega)]) y).2
  rw [List.set_set] at h2
  exact h2
end

/-- make([]Entry, n). -/
theorem run_make_ent (n : Nat) (hn : n ≤ 8796093022207) (W : World) : (Instr.makeSlice 27 (.int .i64 (n : Int)) (.int .i64 (n : Int))).run Tryd.prog W = .ok (.slice (some ⟨W.heap.size, 0, none⟩) n n) (W.alloc (.cells (madeCells #[.int .i64 0, .int .i64 0] (n * 2)) 33)) := by
  obtain ⟨i0, hi, hz0, hz1, hz2⟩ := info_parts info_ent
  have h := run_make (P := Tryd.prog) W 27 33 i0 (.agg #[.int .i64 0, .int .i64 0]) Tryd.underlying27 hi hz0 .i64 .i64 (n : Int) (n : Int) (by omega) (by omega) (by rw [hz2]; omega) (by omega)
  rw [hz1] at h
  have e2 : ((n : Int)).toNat = n := by omega
  rw [e2] at h
  exact h
theorem own_made_ent (w : World) (n base : Nat) (hn : n ≤ maxLen) (hb : base ≤ w.heap.size) :
    OwnE (w.alloc (.cells (madeCells #[.int .i64 0, .int .i64 0] (n * 2)) 33)) base (.slice (some ⟨w.heap.size, 0, none⟩) n n) (List.replicate n ⟨0, 0⟩) := by
  unfold OwnE
  rw [← ecells_replicate, List.length_replicate]
  exact World.ownsRow_lit w _ n hb hn (size_madeCells _ _)
/-- A slice written out. -/
theorem own_lit_ent (w : World) (zs : List En) (base : Nat) (hn : zs.length ≤ maxLen) (hb : base ≤ w.heap.size) :
    OwnE (w.alloc (.cells (ecells zs).toArray 33)) base (.slice (some ⟨w.heap.size, 0, none⟩) zs.length zs.length) zs := by
  unfold OwnE
  have := World.ownsRow_lit w (ecells zs).toArray zs.length hb hn (size := 2) (e := 33) (by simp [ecells_len])
  simpa using this

/-- One entry more. -/
theorem wpList_append_ent {ops : Array Oper} {rest : List Oper} {o : Oper} {a : Act} {Q : Exit → Act → World → Prop} (w : World) (hgd : o.guard = none) (s x : Operand)
    (ho : o.op = .call { callee := .builtin .append, args := #[s, x], argTypes := #[27, 27] })
    (base : Nat) (v : Value) (zs : List En) (hs : a.eval s = v) (hown : OwnE w base v zs) (ad : Addr) (c : Nat) (b : En) (hx : a.eval x = .slice (some ad) 1 c) (hc : EnAt w ad 0 b) (hl : zs.length ≤ 1000000) (hbase : base ≤ w.heap.size)
    (h : ∀ v' w', OwnE w' base v' (zs ++ [b]) → w.grownBy w' v.ownBlock → wpList Tryd.prog ops Q rest (a.put o.dst v') w') : wpList Tryd.prog ops Q (o :: rest) a w :=
  wpList_plain hgd fun _ hK => by
    obtain ⟨i0, hi, hz0, hz1, hz2⟩ := info_parts info_ent
    obtain ⟨v', w', hrun, h2, h3, _⟩ := run_append_own (P := Tryd.prog) w base 27 o.type 33 i0 _ 2 16 Tryd.underlying27 hi hz0 hz1 hz2 rfl (by omega) v zs.length (ecells zs) hown ad 1 c (ecells [b]) rfl
      (fun j u hu => by
        match j, hu with
        | 0, hu => simp [ecells] at hu; subst hu; exact hc.c0
        | 1, hu => simp [ecells] at hu; subst hu; exact hc.c1
        | j + 2, hu => simp [ecells] at hu) (ecells_one _) (by simp only [maxLen]; omega) (by omega) hbase
    unfold Oper.wp execOp
    simp only [ho, resolve, invoke, builtin, Sem.run_bind, Sem.run_pure, Result.andThen_ok, List.map_toArray, List.map_cons, List.map_nil, hs, hx, hrun]
    refine hK _ _ (h v' w' ?_ h3)
    unfold OwnE
    rw [List.length_append, ecells_append]
    exact h2
end Go.Proofs.YtbneohglblkmeaaDoor
