/-
  Records of several cells, of whatever type: a slice of them that reads as a list; one that is the call's own; what a store, an append, a make and a copy make of it. Of any program.
-/
import Derived.Test.YtdcghnoioecglaaWords
import Derived.Test.YtdcghnoioecglaaSlices
import Derived.Laws.CopyRow
import Derived.Laws.AppendOwn
import Derived.Lib.Hide
namespace Go.Proofs.Ytdcghnoioecglaa
open Go Go.RowKit
set_option linter.unusedVariables false

/-- How a value of a type lies in memory: so many cells, one behind the other. -/
structure Shape (α : Type) where
  size : Nat
  ty : TypeId
  cells : α → List Value
  pos : 0 < size
  len : ∀ a, (cells a).length = size
  one : ∀ a, ∀ u ∈ cells a, u.oneCell' = true

section
variable {α : Type} (S : Shape α)

/-- The cells of all of them. -/
def Shape.flat : List α → List Value
  | [] => []
  | a :: r => S.cells a ++ Shape.flat r

theorem Shape.flat_len : ∀ zs : List α, (S.flat zs).length = zs.length * S.size
  | [] => by simp [Shape.flat]
  | a :: r => by simp only [Shape.flat, List.length_append, List.length_cons, S.len, Shape.flat_len r]; rw [Nat.add_mul]; omega
theorem Shape.flat_append : ∀ a b : List α, S.flat (a ++ b) = S.flat a ++ S.flat b
  | [], b => rfl
  | a :: r, b => by simp only [List.cons_append, Shape.flat, Shape.flat_append r b, List.append_assoc]
theorem Shape.flat_one (zs : List α) : ∀ u ∈ S.flat zs, u.oneCell' = true := by
  induction zs with
  | nil => simp [Shape.flat]
  | cons a r ih =>
    intro u hu
    simp only [Shape.flat, List.mem_append] at hu
    rcases hu with hu | hu
    · exact S.one a u hu
    · exact ih u hu
theorem Shape.succ_at (j i : Nat) : (j + 1) * S.size + i = S.size + (j * S.size + i) := by rw [Nat.add_mul]; omega
theorem Shape.flat_get : ∀ {zs : List α} {j : Nat} {a : α}, zs[j]? = some a → ∀ i, i < S.size → (S.flat zs)[j * S.size + i]? = (S.cells a)[i]?
  | [], j, a, h, i, hi => by simp at h
  | b :: r, 0, a, h, i, hi => by
    simp at h; subst h
    simp only [Shape.flat, Nat.zero_mul, Nat.zero_add]
    rw [List.getElem?_append_left (by rw [S.len]; exact hi)]
  | b :: r, j + 1, a, h, i, hi => by
    have h' : r[j]? = some a := by simpa using h
    rw [S.succ_at, ← Shape.flat_get h' i hi]
    simp only [Shape.flat]
    rw [List.getElem?_append_right (by rw [S.len]; omega), S.len]
    congr 1
    omega
theorem Shape.flat_set : ∀ {zs : List α} {j : Nat} {a : α}, zs[j]? = some a → ∀ (i : Nat) (u : Value) (b : α), i < S.size → (S.cells a).set i u = S.cells b → (S.flat zs).set (j * S.size + i) u = S.flat (zs.set j b)
  | [], j, a, h, i, u, b, hi, hs => by simp at h
  | c :: r, 0, a, h, i, u, b, hi, hs => by
    simp at h; subst h
    simp only [Shape.flat, Nat.zero_mul, Nat.zero_add, List.set_cons_zero]
    rw [List.set_append_left _ _ (by rw [S.len]; exact hi), hs]
  | c :: r, j + 1, a, h, i, u, b, hi, hs => by
    have h' : r[j]? = some a := by simpa using h
    have ih := Shape.flat_set h' i u b hi hs
    rw [S.succ_at]
    simp only [Shape.flat, List.set_cons_succ]
    rw [List.set_append_right _ _ (by rw [S.len]; omega), S.len, ← ih]
    congr 2
    omega

/-- The record at j behind ad. -/
def AtS (w : World) (ad : Addr) (j : Nat) (a : α) : Prop := ∀ i u, (S.cells a)[i]? = some u → w.cell? (ad.add (j * S.size + i)) = some u
/-- The slice of records at A reads as them. -/
def RdS (w : World) (A : Option Addr) (zs : List α) : Prop := 0 < zs.length → ∃ ad, A = some ad ∧ ∀ (j : Nat) (a : α), zs[j]? = some a → AtS S w ad j a
/-- The slice v of records is the call's own (its block is from 'base' on). -/
def OwnS (w : World) (base : Nat) (v : Value) (zs : List α) : Prop := w.ownsRow base S.ty S.size v zs.length (S.flat zs)
end

section
variable {α : Type} {S : Shape α} {w w' : World} {A : Option Addr} {zs : List α} {base g n cap j : Nat} {a : α} {v : Value} {ad : Addr}

theorem AtS.keep (h : AtS S w ad j a) (hk : ∀ p : Addr, p.block < w.heap.size → w'.cell? p = w.cell? p) : AtS S w' ad j a :=
  fun i u hu => by rw [hk _ (World.block_lt_of_cell? w _ (h i u hu))]; exact h i u hu
theorem RdS.nil : RdS S w A [] := fun h => absurd h (by simp)
theorem RdS.keep (h : RdS S w A zs) (hk : ∀ p : Addr, p.block < w.heap.size → w'.cell? p = w.cell? p) : RdS S w' A zs := fun hn => by
  obtain ⟨ad, he, hc⟩ := h hn
  exact ⟨ad, he, fun j a hj => (hc j a hj).keep hk⟩
theorem RdS.below (h : RdS S w A zs) (hb : Below w.heap.size w w') : RdS S w' A zs := h.keep fun _ hp => hb.cell hp
theorem RdS.drewN (h : RdS S w A zs) (m : Nat) : RdS S (w.drewN m) A zs := h.keep fun _ _ => rfl
theorem RdS.drew (h : RdS S w A zs) : RdS S w.drew A zs := h.keep fun _ _ => rfl
theorem RdS.alloc (h : RdS S w A zs) (o : Obj) : RdS S (w.alloc o) A zs := h.keep fun p hp => World.cell?_alloc_lt w o p hp
theorem RdS.at_ (h : RdS S w A zs) (hj : zs[j]? = some a) : ∃ ad, A = some ad ∧ AtS S w ad j a := by
  have hlt : j < zs.length := (List.getElem?_eq_some_iff.1 hj).1
  obtain ⟨ad, he, hc⟩ := h (by omega)
  exact ⟨ad, he, hc j a hj⟩
theorem RdS.front (h : RdS S w A zs) (k : Nat) : RdS S w A (zs.take k) := fun hn => by
  rw [List.length_take] at hn
  obtain ⟨ad, he, hc⟩ := h (by omega)
  refine ⟨ad, he, fun j a hj => hc j a ?_⟩
  rw [List.getElem?_take] at hj
  split at hj
  · exact hj
  · cases hj

theorem OwnS.nil : OwnS S w base (.slice none 0 0) [] := World.ownsRow_nil w base _ S.size
theorem OwnS.alloc (h : OwnS S w base v zs) (o : Obj) : OwnS S (w.alloc o) base v zs := World.ownsRow.alloc h o
theorem OwnS.drew (h : OwnS S w base v zs) : OwnS S w.drew base v zs := h
theorem OwnS.drewN (h : OwnS S w base v zs) (m : Nat) : OwnS S (w.drewN m) base v zs := h
theorem OwnS.less {b : Nat} (h : OwnS S w base v zs) (hb : b ≤ base) : OwnS S w b v zs := by
  refine ⟨h.1, ?_⟩
  rcases h.2 with h | ⟨g, cap, cur, hv, hg, r⟩
  · exact .inl h
  · exact .inr ⟨g, cap, cur, hv, by omega, r⟩
theorem OwnS.same (h : OwnS S w base v zs) (hs : ∀ g, v.ownBlock = some g → w'.heap[g]? = w.heap[g]?) : OwnS S w' base v zs := by
  refine ⟨h.1, ?_⟩
  rcases h.2 with h | ⟨g, cap, cur, hv, hg, hh, r⟩
  · exact .inl h
  · exact .inr ⟨g, cap, cur, hv, hg, by rw [hs g (by rw [hv]; rfl)]; exact hh, r⟩
theorem OwnS.rowLt (h : OwnS S w base v zs) : ∀ g, v.ownBlock = some g → base ≤ g := fun g hg => (World.ownsRow.lt h g hg).1
theorem OwnS.below (h : OwnS S w base v zs) (hb : Below w.heap.size w w') : OwnS S w' base v zs := h.same fun g hg => hb.block g (World.ownsRow.lt h g hg).2
theorem OwnS.setOther {p : Addr} {u : Value} (h : OwnS S w base v zs) (hp : ∀ g, v.ownBlock = some g → g ≠ p.block) : OwnS S (w.setCell p u) base v zs :=
  h.same fun i hi => Below.heap_setCell _ _ _ _ (hp i hi)
theorem OwnS.open_ (h : OwnS S w base v zs) (hn : 0 < zs.length) : ∃ g cap, v = .slice (some ⟨g, 0, none⟩) zs.length cap ∧ base ≤ g ∧ g < w.heap.size ∧ zs.length ≤ cap ∧ cap ≤ maxLen := by
  rcases h.2 with ⟨_, h0⟩ | ⟨g, cap, cur, hv, hb, hg, hnc, hcm, _⟩
  · omega
  · exact ⟨g, cap, hv, hb, (Array.getElem?_eq_some_iff.1 hg).1, hnc, hcm⟩
theorem OwnS.at_ (h : OwnS S w base (.slice (some ⟨g, 0, none⟩) n cap) zs) (hj : zs[j]? = some a) (i : Nat) (u : Value) (hu : (S.cells a)[i]? = some u) : w.cell? ⟨g, j * S.size + i, none⟩ = some u := by
  have hi : i < S.size := by have := (List.getElem?_eq_some_iff.1 hu).1; rw [S.len] at this; exact this
  have hc := World.ownsRow.cells h (g := g) rfl (j * S.size + i) u (by rw [S.flat_get hj i hi]; exact hu)
  rw [add_flat] at hc
  exact hc
theorem OwnS.rd (h : OwnS S w base (.slice A n cap) zs) : RdS S w A zs := fun hn => by
  obtain ⟨g, c, hv, _⟩ := h.open_ hn
  injection hv with e1 e2 e3
  subst e1 e2 e3
  exact ⟨_, rfl, fun j a hj i u hu => by rw [add_flat]; exact h.at_ hj i u hu⟩
/-- The slice's own form: its address, its capacity; and that it reads. -/
theorem OwnS.form (h : OwnS S w base v zs) : ∃ A cap, v = .slice A zs.length cap ∧ RdS S w A zs ∧ zs.length ≤ cap ∧ cap ≤ maxLen ∧ (A = none → zs.length = 0 ∧ cap = 0) := by
  have hrd : ∀ A n c, v = .slice A n c → RdS S w A zs := fun A n c e => by rw [e] at h; exact h.rd
  rcases h.2 with ⟨hv, hn⟩ | ⟨g, cap, cur, hv, hb, hg, hnc, hcm, _⟩
  · exact ⟨none, 0, by rw [hn]; exact hv, hrd _ _ _ hv, by omega, by simp [maxLen], fun _ => ⟨hn, rfl⟩⟩
  · exact ⟨_, cap, hv, hrd _ _ _ hv, hnc, hcm, fun h => by cases h⟩
theorem OwnS.unfrozen (h : OwnS S w base (.slice (some ⟨g, 0, none⟩) n cap) zs) (hn : n = zs.length) (i : Nat) : w.frozen? ⟨g, i, none⟩ = false := by
  subst hn; exact World.ownsRow.frozenAt h i
/-- One cell of one of them laid anew. -/
theorem OwnS.set (h : OwnS S w base (.slice (some ⟨g, 0, none⟩) n cap) zs) (hn : n = zs.length) (hj : zs[j]? = some a) (i : Nat) (u : Value) (b : α) (hi : i < S.size) (hb : (S.cells a).set i u = S.cells b) :
    OwnS S (w.setCell ⟨g, j * S.size + i, none⟩ u) base (.slice (some ⟨g, 0, none⟩) n cap) (zs.set j b) := by
  subst hn
  have := (World.ownsRow.stored h (j * S.size + i) u).1
  rw [S.flat_set hj i u b hi hb] at this
  unfold OwnS
  rw [List.length_set]
  exact this
/-- The first of them, in the same memory. -/
theorem OwnS.front (h : OwnS S w base (.slice (some ⟨g, 0, none⟩) n cap) zs) (hn : n = zs.length) (k : Nat) (hk : k ≤ n) : OwnS S w base (.slice (some ⟨g, 0, none⟩) k cap) (zs.take k) := by
  subst hn
  have e : S.flat (zs.take k) = (S.flat zs).take (k * S.size) := by
    have h1 : S.flat zs = S.flat (zs.take k) ++ S.flat (zs.drop k) := by rw [← S.flat_append, List.take_append_drop]
    rw [h1, List.take_left' (by rw [S.flat_len, List.length_take]; congr 1; omega)]
  have hkl : (zs.take k).length = k := by rw [List.length_take]; omega
  unfold OwnS
  rw [hkl]
  refine ⟨by rw [S.flat_len, hkl], ?_⟩
  rcases h.2 with ⟨h0, _⟩ | ⟨g', cap', cur, hv, hb, hg, hnc, hcm, hs, ht⟩
  · cases h0
  · injection hv with e1 e2 e3
    injection e1 with e1
    injection e1 with e1
    subst e1 e3
    exact .inr ⟨g, cap, cur, rfl, hb, hg, by omega, hcm, hs, by rw [e, ← ht, List.take_take]; congr 1; rw [Nat.min_eq_left (Nat.mul_le_mul_right _ hk)]⟩
/-- A slice written out. -/
theorem OwnS.lit (w : World) (zs : List α) (base : Nat) (hn : zs.length ≤ maxLen) (hb : base ≤ w.heap.size) (cs : Array Value) (hc : cs.toList = S.flat zs) :
    OwnS S (w.alloc (.cells cs S.ty)) base (.slice (some ⟨w.heap.size, 0, none⟩) zs.length zs.length) zs := by
  unfold OwnS
  rw [← hc]
  exact World.ownsRow_lit w cs zs.length hb hn (by rw [← Array.length_toList, hc, S.flat_len])
end

section
variable {α : Type} (S : Shape α)


/-- One record more. -/
theorem wpList_append_rec {P : Program} {bytes : Nat} {z : Value} (st : TypeId) (hu : P.underlying st = some (.slice S.ty)) (hinfo : (P.info? S.ty).map (fun i => (i.zero, i.size, i.bytes)) = some (some z, S.size, bytes)) (hzc : z.cells.size = S.size)
    {ops : Array Oper} {rest : List Oper} {o : Oper} {a : Act} {Q : Exit → Act → World → Prop} (w : World) (hgd : o.guard = none) (s x : Operand)
    (ho : o.op = .call { callee := .builtin .append, args := #[s, x], argTypes := #[st, st] })
    (base : Nat) (v : Value) (zs : List α) (hs : a.eval s = v) (hown : OwnS S w base v zs) (ad : Addr) (c : Nat) (b : α) (hx : a.eval x = .slice (some ad) 1 c) (hc : AtS S w ad 0 b) (hl : zs.length ≤ 17592186043904) (hby : (zs.length + 1) * bytes ≤ 140737488355328) (hbase : base ≤ w.heap.size)
    (h : ∀ v' w', OwnS S w' base v' (zs ++ [b]) → w.grownBy w' v.ownBlock → wpList P ops Q rest (a.put o.dst v') w') : wpList P ops Q (o :: rest) a w :=
  wpList_plain hgd fun _ hK => by
    obtain ⟨i0, hi, hz0, hz1, hz2⟩ := info_parts hinfo
    have hfl : S.flat [b] = S.cells b := by simp [Shape.flat]
    obtain ⟨v', w', hrun, h2, h3, _⟩ := run_append_own (P := P) w base st o.type S.ty i0 _ S.size bytes hu hi hz0 hz1 hz2 hzc S.pos v zs.length (S.flat zs) hown ad 1 c (S.flat [b]) (by rw [hfl, S.len, Nat.one_mul])
      (fun j u hu => by
        rw [hfl] at hu
        have := hc j u hu
        rw [Nat.zero_mul, Nat.zero_add] at this
        exact this) (S.flat_one _) (by simp only [maxLen]; omega) hby hbase
    unfold Oper.wp execOp
    simp only [ho, resolve, invoke, builtin, Sem.run_bind, Sem.run_pure, Result.andThen_ok, List.map_toArray, List.map_cons, List.map_nil, hs, hx, hrun]
    refine hK _ _ (h v' w' ?_ h3)
    unfold OwnS
    rw [List.length_append, S.flat_append]
    exact h2

set_option maxRecDepth 100000 in
/-- copy of as many records as there are, to where there are so many or more. -/
theorem run_copy_rec {P : Program} (st : TypeId) (hu : P.underlying st = some (.slice S.ty)) (hsize : (P.info? S.ty).map (·.size) = some S.size)
    (w : World) (ty : TypeId) (g n dCap : Nat) (A : Option Addr) (sCap : Nat) (cur : Array Value) (t : TypeId) (zs : List α) (hg : w.heap[g]? = some (.cells cur t (0, 0))) (hl : zs.length = n) (hr : RdS S w A zs) (hfit : n * S.size ≤ cur.size) (hnil : A = none → n = 0 ∧ sCap = 0) :
    (Builtin.copy_ #[st, st] ty #[.slice (some ⟨g, 0, none⟩) n dCap, .slice A n sCap]).run P w = .ok (goInt n) (w.setRow g (S.flat zs ++ cur.toList.drop (n * S.size)).toArray) := by
  have hcl : (S.flat zs).length = n * S.size := by rw [S.flat_len, hl]
  cases hq : P.info? S.ty with
  | none => simp [hq] at hsize
  | some i =>
    have hi : i.size = S.size := by simpa [hq] using hsize
    cases A with
    | none =>
      obtain ⟨rfl, rfl⟩ := hnil rfl
      have h0 : zs = [] := List.eq_nil_of_length_eq_zero hl
      subst h0
      have hset : w.setRow g (S.flat [] ++ cur.toList.drop (0 * S.size)).toArray = w := by
        simp only [Shape.flat, List.nil_append, Nat.zero_mul, List.drop_zero, Array.toArray_toList]
        exact setRow_self w g cur t (0, 0) hg
      rw [hset]
      simp [Builtin.copy_, run_underlying hu, Builtin.lenOf, Builtin.firstCells, sizeOf, typeInfo, hq, storeCells]
    | some a =>
      have hsrc : ∀ j v, (S.flat zs)[j]? = some v → w.cell? (a.add j) = some v := by
        intro j v hv
        have hj : j < n * S.size := by have := (List.getElem?_eq_some_iff.1 hv).1; omega
        have hdm : j / S.size * S.size + j % S.size = j := Nat.div_add_mod' j S.size
        have hm : j % S.size < S.size := Nat.mod_lt _ S.pos
        have hqn : j / S.size < n := Nat.div_lt_of_lt_mul (by rw [Nat.mul_comm]; exact hj)
        obtain ⟨ad, he, hc⟩ := hr (by rw [hl]; exact Nat.lt_of_le_of_lt (Nat.zero_le _) hqn)
        injection he with he
        subst he
        have hz : zs[j / S.size]? = some zs[j / S.size] := List.getElem?_eq_getElem (by rw [hl]; exact hqn)
        have h1 := S.flat_get hz _ hm
        rw [hdm, hv] at h1
        have h2 := hc (j / S.size) _ hz _ v h1.symm
        rw [hdm] at h2
        exact h2
      have hld := run_loadCells_list (P := P) w a (S.flat zs) hsrc
      rw [hcl] at hld
      have hst := run_storeCells_at P g 0 t (S.flat zs) 0 cur w hg (by omega) (S.flat_one zs)
      rw [hcl] at hst
      simp only [Nat.add_zero, Nat.zero_add, List.take_zero, List.nil_append] at hst
      have hmin : Nat.min n n = n := Nat.min_self n
      simp [Builtin.copy_, run_underlying hu, Builtin.lenOf, Builtin.firstCells, sizeOf, typeInfo, hq, hi, hmin, hld, hst]

/-- What a copy into a block just made leaves is the call's own. -/
theorem OwnS.copied {w : World} {g n cap : Nat} {cur : Array Value} {zs : List α} {base : Nat} (hg : w.heap[g]? = some (.cells cur S.ty (0, 0))) (hl : zs.length = n) (hnc : n ≤ cap) (hcm : cap ≤ maxLen) (hsz : cur.size = cap * S.size) (hb : base ≤ g) :
    OwnS S (w.setRow g (S.flat zs ++ cur.toList.drop (n * S.size)).toArray) base (.slice (some ⟨g, 0, none⟩) n cap) zs := by
  subst hl
  have hcl := S.flat_len zs
  have hle : zs.length * S.size ≤ cap * S.size := Nat.mul_le_mul_right _ hnc
  refine ⟨hcl, .inr ⟨g, cap, _, rfl, hb, setRow_heap _ _ _ _ _ _ hg, hnc, hcm, ?_, ?_⟩⟩
  · simp only [List.size_toArray, List.length_append, List.length_drop, Array.length_toList, hcl, hsz]; omega
  · rw [List.take_left' (by rw [hcl])]
end
end Go.Proofs.Ytdcghnoioecglaa
