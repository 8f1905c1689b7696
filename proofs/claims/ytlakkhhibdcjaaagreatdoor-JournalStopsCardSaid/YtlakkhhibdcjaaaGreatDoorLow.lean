/-
  The sum of bytes over natural numbers: one step of the register, eight of them, a row of bytes; that a step is linear and loses nothing. Of any program.
  Slices of integers in memory: one that reads as a list, one that the call owns; what append makes of them, up to the very bound at which Go's own growslice refuses; bytes as a string. Of any program.
  Bytes as natural numbers in slices: the words that the contracts of this seat share.
  Small common words of the rows' proofs of this seat: the program's own knobs, that its memory is laid out, and what a walk is told of a slice of integers that came in.
  Slices of integers that came in, as lists: bytes as natural numbers, ints as they are.
  b[:k] and b[k:] of a []byte: one run each, whatever the address (nil too).
  Bytes as strings; bytes.Clone by its contract.
  make([]byte, n) is the call's own.
  Append to a slice of one's own, with where the new slice lies: in the old one's row, or in a new block. Of any program.
  A region that draws its order, whose operations read, and whose callees make memory but turn nothing that was there: one walk in the order of the text. Of any program.
  Small words of the laws' walks: integers that came in as natural numbers; the lesser of two.
  A slice of integers that is the call's own: its cells, that none is frozen, and what a store into one leaves. Of any program.
  One value more at the end of a slice that is the call's own, with where the slice lies then: in its own block still, or in a new one. Of any program.
  Slices of slices of bytes: one that reads as a list of lists, one that is the call's own; one row more at its end.
  Slices of slices of bytes of which it is known where they lie; several values more at the end of a slice that is the call's own.
  A slice of slices of integers that came in; of bytes: as a list of lists.
-/
import Derived.Laws.BitsAllLaws
import Derived.Below
import Derived.Laws.OwnMore
import Derived.OwnWalk
import Derived.Laws.BytesString
import Derived.Laws.BytesArg
import Derived.Deep.Draws
import Derived.Test.YtlakkhhibdcjaaaGreatDoorProg
import Derived.Test.YtlakkhhibdcjaaaGreatDoorRows
import Derived.WalkKit
import Derived.ProofKit
import Derived.OpenShut
import Derived.ShutString
import Derived.ChangeOld
import Derived.Carry
import Derived.Lib.SliceRun
import Derived.Lib.Hide
import Derived.Laws.ShiftsVar
import Derived.Laws.Strings
import Derived.Deep.OwnRows
import Derived.BigQuiet
import Derived.Deep.Matrix
namespace Go.Proofs.YtlakkhhibdcjaaaGreatDoor

def poly : Nat := 3988292384
/-- One step of the register. -/
def cstep (r : Nat) : Nat := if r % 2 = 1 then (r / 2) ^^^ poly else r / 2
/-- So many steps. -/
def citer : Nat → Nat → Nat
  | 0, r => r
  | k + 1, r => cstep (citer k r)
/-- The register behind bytes. -/
def creg (r : Nat) (xs : List Nat) : Nat := xs.foldl (fun r c => citer 8 (r ^^^ c)) r
/-- The sum. -/
def csum (xs : List Nat) : Nat := 4294967295 - creg 4294967295 xs

theorem xor_lt32 {a b : Nat} (ha : a < 4294967296) (hb : b < 4294967296) : a ^^^ b < 4294967296 := Nat.xor_lt_two_pow (n := 32) ha hb
theorem poly_lt : poly < 4294967296 := by decide
theorem cstep_lt {r : Nat} (h : r < 4294967296) : cstep r < 4294967296 := by
  unfold cstep
  split
  · exact xor_lt32 (by omega) poly_lt
  · omega
theorem citer_lt (k : Nat) {r : Nat} (h : r < 4294967296) : citer k r < 4294967296 := by
  induction k with
  | zero => exact h
  | succ k ih => exact cstep_lt ih
theorem creg_nil (r : Nat) : creg r [] = r := rfl
theorem creg_cons (r c : Nat) (xs : List Nat) : creg r (c :: xs) = creg (citer 8 (r ^^^ c)) xs := by unfold creg; rw [List.foldl_cons]
theorem creg_append (r : Nat) (xs ys : List Nat) : creg r (xs ++ ys) = creg (creg r xs) ys := by unfold creg; rw [List.foldl_append]
theorem creg_one (r c : Nat) : creg r [c] = citer 8 (r ^^^ c) := by rw [creg_cons, creg_nil]
theorem creg_snoc (r : Nat) (xs : List Nat) (c : Nat) : creg r (xs ++ [c]) = citer 8 (creg r xs ^^^ c) := by rw [creg_append, creg_one]
theorem creg_lt (xs : List Nat) : ∀ {r : Nat}, r < 4294967296 → (∀ x ∈ xs, x < 256) → creg r xs < 4294967296 := by
  induction xs with
  | nil => intro r h _; exact h
  | cons c xs ih =>
    intro r h hx
    rw [creg_cons]
    have hc := hx c (by simp)
    exact ih (citer_lt 8 (xor_lt32 h (by omega))) fun x hm => hx x (by simp [hm])

theorem xor_mod2 (a b : Nat) : (a ^^^ b) % 2 = (a % 2 + b % 2) % 2 := by
  have h := Nat.testBit_xor a b 0
  simp only [Nat.testBit_zero] at h
  have ha := Nat.mod_two_eq_zero_or_one a
  have hb := Nat.mod_two_eq_zero_or_one b
  have hc := Nat.mod_two_eq_zero_or_one (a ^^^ b)
  rcases ha with ha | ha <;> rcases hb with hb | hb <;> rcases hc with hc | hc <;> rw [ha, hb, hc] at h <;> simp [ha, hb, hc] at h ⊢
theorem xor_div2 (a b : Nat) : (a ^^^ b) / 2 = a / 2 ^^^ b / 2 := by
  have h := Nat.shiftRight_xor_distrib (a := a) (b := b) (i := 1)
  simpa [Nat.shiftRight_eq_div_pow] using h

theorem xor_four (a b c d : Nat) : (a ^^^ b) ^^^ (c ^^^ d) = (a ^^^ c) ^^^ (b ^^^ d) := by
  rw [Nat.xor_assoc, Nat.xor_assoc, ← Nat.xor_assoc b, Nat.xor_comm b c, Nat.xor_assoc c]
theorem xor_cancel {a b c : Nat} (h : a ^^^ c = b ^^^ c) : a = b := by
  have := congrArg (· ^^^ c) h
  simpa [Nat.xor_assoc, Nat.xor_self] using this
/-- A step is linear. -/
theorem cstep_xor (a b : Nat) : cstep (a ^^^ b) = cstep a ^^^ cstep b := by
  unfold cstep
  rw [xor_mod2, xor_div2]
  rcases Nat.mod_two_eq_zero_or_one a with ha | ha <;> rcases Nat.mod_two_eq_zero_or_one b with hb | hb <;> simp only [ha, hb]
  · simp
  · simp [Nat.xor_assoc]
  · simp
    rw [Nat.xor_assoc, Nat.xor_assoc, Nat.xor_comm (b / 2)]
  · simp
    rw [xor_four]
    simp
theorem citer_xor (k a b : Nat) : citer k (a ^^^ b) = citer k a ^^^ citer k b := by
  induction k with
  | zero => rfl
  | succ k ih => show cstep _ = cstep _ ^^^ cstep _; rw [ih, cstep_xor]

theorem xor_high {a : Nat} (ha : a < 2147483648) : 2147483648 ≤ a ^^^ poly := by
  have h : (a ^^^ poly).testBit 31 = true := by
    rw [Nat.testBit_xor, Nat.testBit_lt_two_pow (by omega)]
    decide
  exact Nat.ge_two_pow_of_testBit h
/-- A step loses nothing. -/
theorem cstep_inj {a b : Nat} (ha : a < 4294967296) (hb : b < 4294967296) (h : cstep a = cstep b) : a = b := by
  unfold cstep at h
  have ha2 : a / 2 < 2147483648 := by omega
  have hb2 : b / 2 < 2147483648 := by omega
  have h1 := xor_high ha2
  have h2 := xor_high hb2
  split at h <;> split at h
  · have := xor_cancel h
    omega
  · omega
  · omega
  · omega
theorem citer_inj (k : Nat) {a b : Nat} (ha : a < 4294967296) (hb : b < 4294967296) (h : citer k a = citer k b) : a = b := by
  induction k with
  | zero => exact h
  | succ k ih => exact ih (cstep_inj (citer_lt k ha) (citer_lt k hb) h)
theorem creg_inj (xs : List Nat) (hx : ∀ x ∈ xs, x < 256) : ∀ {a b : Nat}, a < 4294967296 → b < 4294967296 → creg a xs = creg b xs → a = b := by
  induction xs with
  | nil => intro a b _ _ h; exact h
  | cons c xs ih =>
    intro a b ha hb h
    have hc := hx c (by simp)
    rw [creg_cons, creg_cons] at h
    have h2 := ih (fun x hm => hx x (by simp [hm])) (citer_lt 8 (xor_lt32 ha (by omega))) (citer_lt 8 (xor_lt32 hb (by omega))) h
    exact xor_cancel (citer_inj 8 (xor_lt32 ha (by omega)) (xor_lt32 hb (by omega)) h2)
end Go.Proofs.YtlakkhhibdcjaaaGreatDoor

namespace Go.Proofs.YtlakkhhibdcjaaaGreatDoor
open Go Go.RowKit

/-- The slice of n elements at A reads as zs (nil, empty or not). -/
def Rd (k : IntKind) (w : World) (A : Option Addr) (n : Nat) (zs : List Int) : Prop :=
  zs.length = n ∧ (0 < n → ∃ ad, A = some ad ∧ ∀ j, j < n → w.cell? (ad.add j) = some (.int k (zs.getD j 0)))

/-- The slice v of n elements is the call's own (its block is from 'base' on), and holds zs. -/
def Own (e : TypeId) (k : IntKind) (w : World) (base : Nat) (v : Value) (n : Nat) (zs : List Int) : Prop := w.ownsRow base e 1 v n (zs.map (Value.int k))

section
variable {k : IntKind} {w w' : World} {A : Option Addr} {n base : Nat} {zs : List Int} {e : TypeId} {v : Value}

theorem add_block (a : Addr) (j : Nat) : (a.add j).block = a.block := by unfold Addr.add; split <;> rfl
theorem add_add (a : Addr) (i j : Nat) : (a.add i).add j = a.add (i + j) := by
  by_cases hi : i = 0 <;> by_cases hj : j = 0 <;> simp [Addr.add, hi, hj, Nat.add_assoc]

theorem Rd.nil : Rd k w A 0 [] := ⟨rfl, fun h => absurd h (by omega)⟩
theorem Rd.at_ {j : Nat} (h : Rd k w A n zs) (hj : j < n) : ∃ ad, A = some ad ∧ w.cell? (ad.add j) = some (.int k (zs.getD j 0)) := by
  obtain ⟨ad, he, hc⟩ := h.2 (by omega)
  exact ⟨ad, he, hc j hj⟩
theorem Rd.keep (h : Rd k w A n zs) (hk : ∀ p : Addr, p.block < w.heap.size → w'.cell? p = w.cell? p) : Rd k w' A n zs :=
  ⟨h.1, fun hn => by
    obtain ⟨ad, he, hc⟩ := h.2 hn
    exact ⟨ad, he, fun j hj => by
      have := hc j hj
      rw [hk _ (World.block_lt_of_cell? w _ this)]; exact this⟩⟩
theorem Rd.below (h : Rd k w A n zs) (hb : Below w.heap.size w w') : Rd k w' A n zs := h.keep fun _ hp => hb.cell hp
theorem Rd.drewN (h : Rd k w A n zs) (m : Nat) : Rd k (w.drewN m) A n zs := h
theorem Rd.drew (h : Rd k w A n zs) : Rd k w.drew A n zs := h
theorem Rd.alloc (h : Rd k w A n zs) (o : Obj) : Rd k (w.alloc o) A n zs := h.keep fun p hp => World.cell?_alloc_lt w o p hp
theorem Rd.cut (h : Rd k w A n zs) {j cap : Nat} (hj : j ≤ n) (hc : n ≤ cap) :
    Rd k w (if cap = j then A else A.map (·.add j)) (n - j) (zs.drop j) := by
  refine ⟨by rw [List.length_drop, h.1], fun hn => ?_⟩
  obtain ⟨ad, rfl, hcell⟩ := h.2 (by omega)
  rw [if_neg (by omega)]
  refine ⟨ad.add j, rfl, fun i hi => ?_⟩
  rw [add_add, hcell (j + i) (by omega)]
  simp [List.getD, List.getElem?_drop]
theorem Rd.front (h : Rd k w A n zs) {j : Nat} (hj : j ≤ n) : Rd k w A j (zs.take j) := by
  refine ⟨by rw [List.length_take, h.1]; omega, fun hn => ?_⟩
  obtain ⟨ad, rfl, hcell⟩ := h.2 (by omega)
  refine ⟨ad, rfl, fun i hi => ?_⟩
  rw [hcell i (by omega)]
  simp [List.getD, hi]

theorem Own.len (h : Own e k w base v n zs) : zs.length = n := by have := h.1; simpa using this
theorem Own.nil : Own e k w base (.slice none 0 0) 0 [] := World.ownsRow_nil w base e 1
theorem Own.alloc (h : Own e k w base v n zs) (o : Obj) : Own e k (w.alloc o) base v n zs := World.ownsRow.alloc h o
theorem Own.drew (h : Own e k w base v n zs) : Own e k w.drew base v n zs := h
theorem Own.drewN (h : Own e k w base v n zs) (m : Nat) : Own e k (w.drewN m) base v n zs := h
theorem Own.less {b : Nat} (h : Own e k w base v n zs) (hb : b ≤ base) : Own e k w b v n zs := by
  refine ⟨h.1, ?_⟩
  rcases h.2 with h | ⟨g, cap, cur, hv, hg, r⟩
  · exact .inl h
  · exact .inr ⟨g, cap, cur, hv, by omega, r⟩
/-- The slice's own form: its address, its capacity; and that it reads. -/
theorem Own.form (h : Own e k w base v n zs) : ∃ A cap, v = .slice A n cap ∧ n ≤ cap ∧ cap ≤ maxLen ∧ Rd k w A n zs ∧ (A = none → n = 0 ∧ cap = 0) := by
  have hl := h.len
  rcases h.2 with ⟨rfl, rfl⟩ | ⟨g, cap, cur, rfl, _, hg, hnc, hcm, _, htake⟩
  · exact ⟨none, 0, rfl, Nat.le_refl _, Nat.zero_le _, ⟨hl, fun h => absurd h (by omega)⟩, fun _ => ⟨rfl, rfl⟩⟩
  · refine ⟨some ⟨g, 0, none⟩, cap, rfl, hnc, hcm, ⟨hl, fun _ => ⟨_, rfl, fun j hj => ?_⟩⟩, fun h => by cases h⟩
    have := World.ownsRow.cells h (g := g) rfl j (.int k (zs.getD j 0)) (by
      have hj' : j < zs.length := by omega
      simp [List.getElem?_map, List.getElem?_eq_getElem hj', List.getD])
    exact this
theorem Own.below (h : Own e k w base v n zs) (hb : Below w.heap.size w w') : Own e k w' base v n zs := by
  refine ⟨h.1, ?_⟩
  rcases h.2 with h | ⟨g, cap, cur, hv, hg, hh, r⟩
  · exact .inl h
  · exact .inr ⟨g, cap, cur, hv, hg, by rw [hb.block g (Array.getElem?_eq_some_iff.1 hh).1]; exact hh, r⟩
theorem Own.rowLt (h : Own e k w base v n zs) : ∀ g, v.ownBlock = some g → base ≤ g := fun g hg => (World.ownsRow.lt h g hg).1
end

/-- How far growslice goes. -/
theorem next_le {need old : Nat} (h : old < need) : 4 * Builtin.nextslicecap need old ≤ 5 * need + 768 := by
  unfold Builtin.nextslicecap
  split
  · omega
  · split
    · omega
    · rw [growBy_four]
      split
      · omega
      · split
        · omega
        · split
          · omega
          · split
            · omega
            · omega

section
variable {P : Program} (w : World)

theorem run_append_ints (k : IntKind) (bytes base : Nat) (t ty e : TypeId) (ht : P.underlying t = some (.slice e))
    (hinfo : (P.info? e).map (fun i => (i.zero, i.size, i.bytes)) = some (some (.int k 0), 1, bytes))
    (v : Value) (n : Nat) (xs : List Int) (hown : Own e k w base v n xs) (A : Option Addr) (m c : Nat) (zs : List Int) (hr : Rd k w A m zs)
    (h63 : n + m ≤ 9223372036854775807) (hfit : (5 * (n + m) + 768) * bytes ≤ 1125899906842624) (hbase : base ≤ w.heap.size) :
    ∃ v' w', (Builtin.append_ #[t, t] ty #[v, .slice A m c]).run P w = .ok v' w' ∧ Own e k w' base v' (n + m) (xs ++ zs) ∧ w.grownBy w' v.ownBlock := by
  obtain ⟨i, hi, hz, hsize, hby⟩ := info_parts hinfo
  have hxl := hown.len
  have hzl := hr.1
  rcases Nat.eq_zero_or_pos m with rfl | hm
  · have hzn : zs = [] := List.eq_nil_of_length_eq_zero hzl
    subst hzn
    refine ⟨v, w, ?_, by simpa using hown, World.grownBy.refl w _⟩
    rcases hown.2 with ⟨rfl, rfl⟩ | ⟨g, cap, cur, rfl, _, _, hnc, _⟩
    · cases A <;> simp [Builtin.append_, run_underlying ht, sizeOf, typeInfo, hi, Builtin.lenOf, Builtin.firstCells, loadCells, loadCellsFrom]
    · cases A <;> simp [Builtin.append_, run_underlying ht, sizeOf, typeInfo, hi, Builtin.lenOf, Builtin.firstCells, loadCells, loadCellsFrom, hnc, storeCells]
  · obtain ⟨ad, rfl, hcell⟩ := hr.2 hm
    have hnews : ∀ j u, (zs.map (Value.int k))[j]? = some u → w.cell? (ad.add j) = some u := by
      intro j u hu
      have hj : j < zs.length := by have := (List.getElem?_eq_some_iff.1 hu).1; simpa using this
      rw [hcell j (by omega)]
      rw [List.getElem?_map, List.getElem?_eq_getElem hj] at hu
      simp [List.getD, List.getElem?_eq_getElem hj] at hu ⊢
      exact hu
    have hl : (zs.map (Value.int k)).length = m * i.size := by rw [hsize, List.length_map]; omega
    have h1 : ∀ u ∈ zs.map (Value.int k), u.oneCell' = true := ints_oneCell k zs
    have hcap : ∀ old, old < n + m → Builtin.nextslicecap (n + m) old * i.bytes ≤ 281474976710656 := by
      intro old ho
      rw [hby]
      have h2 := Nat.mul_le_mul_right bytes (next_le ho)
      rw [Nat.mul_assoc] at h2
      omega
    have hnew : ∀ (olds : List Int), olds.length = n → ∀ c', n + m ≤ c' → c' ≤ maxLen → ∀ wd : World, base ≤ wd.heap.size →
        Own e k (wd.alloc (.cells ((olds.map (Value.int k)).toArray ++ (zs.map (Value.int k)).toArray ++ Builtin.zeroCells (Value.int k 0).cells (c' - (n + m))) e)) base
          (.slice (some ⟨wd.heap.size, 0, none⟩) (n + m) c') (n + m) (olds ++ zs) := by
      intro olds ho c' hc1 hc2 wd hwd
      refine ⟨by simp [ho, hzl], .inr ⟨wd.heap.size, c', _, rfl, hwd, heap_alloc_new wd _, hc1, hc2, ?_, ?_⟩⟩
      · simp only [Array.size_append, List.size_toArray, List.length_map, size_zeroCells, Value.cells, ho, hzl]
        simp
        omega
      · simp only [Array.toList_append, List.map_append]
        rw [List.take_left']
        simp [ho, hzl]
    have hgr : ∀ (o : Obj) (row : Option Nat), w.grownBy (w.drew.alloc o) row := fun o row => ⟨rfl, rfl, rfl, by simp, fun j hj _ => by first | exact heap_alloc_old w.drew _ j hj | exact heap_alloc_old w.drew _ hj⟩
    rcases hown.2 with ⟨rfl, rfl⟩ | ⟨g, cap, cur, rfl, hbg, hg, hnc, hcm, hcs, htake⟩
    · have hxn : xs = [] := List.eq_nil_of_length_eq_zero hxl
      subst hxn
      have hcap0 := hcap 0 (by omega)
      rw [nextslicecap_zero (by omega)] at hcap0
      have hrun := run_append_nil (P := P) w t ty e i _ ht hi hz ad m c _ hl hnews hm (by omega) (by simpa using hcap0)
      have hge := grownCap_ge w m 0 e
      have hle := grownCap_le_maxLen w m 0 e (by simp only [maxLen]; omega)
      have hN := hnew [] rfl (grownCap w m 0 e) (by omega) hle w.drew hbase
      simp only [Nat.zero_add, List.map_nil, List.nil_append, Array.empty_append] at hN ⊢
      exact ⟨_, _, hrun, hN, hgr _ _⟩
    · by_cases hroom : n + m ≤ cap
      · have hfit' : n * i.size + (zs.map (Value.int k)).length ≤ cur.size := by rw [hsize, hcs, List.length_map]; omega
        have hrun := run_append_room (P := P) w t ty e i ht hi g n cap cur hg ad m c _ hl hnews h1 hroom hfit'
        refine ⟨_, _, hrun, ⟨by simp [hxl, hzl], .inr ⟨g, cap, _, rfl, hbg, setRow_heap w g cur _ e _ hg, hroom, hcm, ?_, ?_⟩⟩, ⟨rfl, rfl, rfl, by simp, fun j _ hj => setRow_other w g j _ (fun he => hj (by simp [Value.ownBlock, he]))⟩⟩
        · simp only [List.size_toArray, List.length_append, List.length_take, List.length_drop, Array.length_toList]
          omega
        · rw [hsize, htake, List.map_append]
          show List.take ((n + m) * 1) ((xs.map (Value.int k) ++ zs.map (Value.int k)) ++ _) = _
          rw [List.take_left']
          simp [hxl, hzl]
      · have holds : ∀ j u, (xs.map (Value.int k))[j]? = some u → w.cell? ((⟨g, 0, none⟩ : Addr).add j) = some u := World.ownsRow.cells hown (g := g) rfl
        have hrun := run_append_grow (P := P) w t ty e i _ ht hi hz ⟨g, 0, none⟩ n cap (xs.map (Value.int k)) (by rw [hsize, List.length_map]; omega) holds ad m c _ hl hnews (by omega) (by omega) (hcap cap (by omega))
        have hge := grownCap_ge w (n + m) cap e
        have hle := grownCap_le_maxLen w (n + m) cap e (by simp only [maxLen]; omega)
        exact ⟨_, _, hrun, hnew xs hxl _ hge hle w.drew hbase, hgr _ _⟩

theorem wp_append_ints {o : Oper} {a : Act} {K : Act → World → Prop} {Q : Exit → Act → World → Prop} (s x : Operand) (t : TypeId)
    (ho : o.op = .call { callee := .builtin .append, args := #[s, x], argTypes := #[t, t] })
    (k : IntKind) (bytes base : Nat) (e : TypeId) (ht : P.underlying t = some (.slice e))
    (hinfo : (P.info? e).map (fun i => (i.zero, i.size, i.bytes)) = some (some (.int k 0), 1, bytes))
    (v : Value) (n : Nat) (xs : List Int) (hs : a.eval s = v) (hown : Own e k w base v n xs) (A : Option Addr) (m c : Nat) (zs : List Int) (hx : a.eval x = .slice A m c) (hr : Rd k w A m zs)
    (h63 : n + m ≤ 9223372036854775807) (hfit : (5 * (n + m) + 768) * bytes ≤ 1125899906842624) (hbase : base ≤ w.heap.size)
    (h : ∀ v' w', Own e k w' base v' (n + m) (xs ++ zs) → w.grownBy w' v.ownBlock → K (a.put o.dst v') w') : o.wp P a w K Q := by
  obtain ⟨v', w', hrun, h2, h3⟩ := run_append_ints (P := P) w k bytes base t o.type e ht hinfo v n xs hown A m c zs hr h63 hfit hbase
  unfold Oper.wp execOp
  simp only [ho, resolve, invoke, builtin, Sem.run_bind, Sem.run_pure, Result.andThen_ok, List.map_toArray, List.map_cons, List.map_nil, hs, hx, hrun]
  exact h v' w' h2 h3

theorem wpList_append_ints {ops : Array Oper} {rest : List Oper} {o : Oper} {a : Act} {Q : Exit → Act → World → Prop} (hgd : o.guard = none) (s x : Operand) (t : TypeId)
    (ho : o.op = .call { callee := .builtin .append, args := #[s, x], argTypes := #[t, t] })
    (k : IntKind) (bytes base : Nat) (e : TypeId) (ht : P.underlying t = some (.slice e))
    (hinfo : (P.info? e).map (fun i => (i.zero, i.size, i.bytes)) = some (some (.int k 0), 1, bytes))
    (v : Value) (n : Nat) (xs : List Int) (hs : a.eval s = v) (hown : Own e k w base v n xs) (A : Option Addr) (m c : Nat) (zs : List Int) (hx : a.eval x = .slice A m c) (hr : Rd k w A m zs)
    (h63 : n + m ≤ 9223372036854775807) (hfit : (5 * (n + m) + 768) * bytes ≤ 1125899906842624) (hbase : base ≤ w.heap.size)
    (h : ∀ v' w', Own e k w' base v' (n + m) (xs ++ zs) → w.grownBy w' v.ownBlock → wpList P ops Q rest (a.put o.dst v') w') : wpList P ops Q (o :: rest) a w :=
  wpList_plain hgd fun _ hK => wp_append_ints w s x t ho k bytes base e ht hinfo v n xs hs hown A m c zs hx hr h63 hfit hbase fun v' w' h2 h3 => hK _ _ (h v' w' h2 h3)

/-- A slice of bytes as a string. -/
theorem run_str (src dst e : TypeId) (hs : P.underlying src = some (.slice e)) (he : P.underlying e = some (.int .u8)) (hd : P.underlying dst = some .string)
    (A : Option Addr) (n c : Nat) (zs : List Int) (hr : Rd .u8 w A n zs) : (convert src dst (.slice A n c)).run P w = .ok (.string (strOfNums zs)) w := by
  rw [run_convert_bytes_string w src dst e A n c hs he hd]
  rcases A with _ | ad
  · have hn : n = 0 := by
      rcases Nat.eq_zero_or_pos n with h | h
      · exact h
      · obtain ⟨_, h', _⟩ := hr.2 h; cases h'
    subst hn
    have hz : zs = [] := List.eq_nil_of_length_eq_zero hr.1
    subst hz
    simp [Conv.bytesToString]
    rfl
  · have hl : (loadCells ad n).run P w = .ok (zs.map (Value.int .u8)).toArray w := by
      have := run_loadCells_list (P := P) w ad (zs.map (Value.int .u8)) (fun j u hu => by
        have hj : j < zs.length := by have := (List.getElem?_eq_some_iff.1 hu).1; simpa using this
        have hn := hr.1
        obtain ⟨ad', h', hcell⟩ := hr.2 (by omega)
        injection h' with h'
        subst h'
        rw [hcell j (by omega)]
        rw [List.getElem?_map, List.getElem?_eq_getElem hj] at hu
        simp [List.getD, List.getElem?_eq_getElem hj] at hu ⊢
        exact hu)
      rw [List.length_map, hr.1] at this
      exact this
    rw [run_bytesToString w ad n c zs hl, foldl_push_bytes]
    simp [strOfNums, ByteArray.empty, ByteArray.emptyWithCapacity]
    rfl
end
end Go.Proofs.YtlakkhhibdcjaaaGreatDoor

namespace Go.Proofs.YtlakkhhibdcjaaaGreatDoor
open Go.RowKit

theorem info_byte : (Tryz.prog.info? 5).map (fun i => (i.zero, i.size, i.bytes)) = some (some (.int .u8 0), 1, 1) := by kernel_rfl

/-- Natural numbers as integers. -/
def ints (xs : List Nat) : List Int := xs.map fun x : Nat => (x : Int)
theorem ints_append (a b : List Nat) : ints (a ++ b) = ints a ++ ints b := by simp [ints]
theorem ints_length (a : List Nat) : (ints a).length = a.length := by simp [ints]
theorem ints_one (x : Nat) : ints [x] = [(x : Int)] := rfl
theorem ints_getD (a : List Nat) (j : Nat) : (ints a).getD j 0 = ((a.getD j 0 : Nat) : Int) := by
  by_cases h : j < a.length
  · simp [ints, List.getD, h]
  · simp [ints, List.getD, h]
theorem ints_drop (a : List Nat) (j : Nat) : (ints a).drop j = ints (a.drop j) := by simp [ints, List.map_drop]
theorem ints_inj {a b : List Nat} (h : ints a = ints b) : a = b := by
  have := congrArg (List.map Int.toNat) h
  simpa [ints, List.map_map, Function.comp_def] using this

/-- One cell in a new block. -/
theorem Rd.one {k : IntKind} {w : World} {t : TypeId} (x : Int) : Rd k (w.alloc (.cells #[.int k x] t)) (some ⟨w.heap.size, 0, none⟩) 1 [x] :=
  ⟨rfl, fun _ => ⟨_, rfl, fun j hj => by
    obtain rfl : j = 0 := by omega
    simp [Addr.add]⟩⟩

theorem own_more {e : TypeId} {w : World} {base : Nat} {v : Value} {ys : List Nat} {x : Int} {q : Nat} (h : Own e .u8 w base v (ys.length + 1) (ints ys ++ [x])) (hx : x = (q : Int)) :
    Own e .u8 w base v (ys ++ [q]).length (ints (ys ++ [q])) := by
  subst hx
  rw [ints_append, ints_one, List.length_append]
  exact h

/-- It hands back bytes of its own, and turns nothing below 'base'. -/
def OwnRes (w : World) (base : Nat) (xs : List Nat) (e : Ending) (w' : World) : Prop :=
  ∃ v, e = .returned v ∧ Own 5 .u8 w' base v xs.length (ints xs) ∧ Below base w w'
end Go.Proofs.YtlakkhhibdcjaaaGreatDoor

namespace Go.Proofs.YtlakkhhibdcjaaaGreatDoor
open Go.ChangeShapes Go.WideShapes Go.RowKit

theorem own0 : ownKnob Tryz.prog.godebug = none := by kernel_rfl
theorem laidOut : laidOutB Tryz.prog = true := by kernel_rfl

/-- A slice of integers: it is nil; or it leads to a row of 'cap' cells, the numbers 'zs' (the first 'len' are its elements), each fitting its kind. -/
def IsRow (k : IntKind) (w : World) (a : Option Addr) (len cap : Nat) (zs : List Int) : Prop :=
  (a = none ∧ len = 0 ∧ cap = 0 ∧ zs = []) ∨
  ∃ x, a = some x ∧ len ≤ cap ∧ cap ≤ maxLen ∧ zs.length = cap ∧ (∀ i, i < zs.length → w.cell? (x.add i) = some (.int k (zs.getD i 0))) ∧ ∀ n ∈ zs, (Lit.int k n).wf = true
end Go.Proofs.YtlakkhhibdcjaaaGreatDoor

namespace Go.Proofs.YtlakkhhibdcjaaaGreatDoor
open Go.RowKit

/-- A slice of bytes that came in, as natural numbers. -/
theorem row_bytes {w : World} {a : Option Addr} {len cap : Nat} {zs : List Int} (h : IsRow .u8 w a len cap zs) :
    ∃ xs : List Nat, Rd .u8 w a len (ints xs) ∧ xs.length = len ∧ (∀ x ∈ xs, x < 256) ∧ len ≤ cap ∧ cap ≤ maxLen := by
  rcases h with ⟨rfl, rfl, rfl, rfl⟩ | ⟨x, rfl, hl, hm, hz, hc, hw⟩
  · exact ⟨[], Rd.nil, rfl, by simp, Nat.le_refl _, Nat.zero_le _⟩
  · have hnn : ∀ z ∈ zs, 0 ≤ z ∧ z ≤ 255 := by
      intro z hz
      have h := hw z hz
      simp only [Lit.wf, Bool.and_eq_true, decide_eq_true_eq] at h
      have e1 : IntKind.u8.min = 0 := rfl
      have e2 : IntKind.u8.max = 255 := rfl
      omega
    have hi : ints ((zs.take len).map Int.toNat) = zs.take len := by
      unfold ints
      rw [List.map_map]
      conv => rhs; rw [← List.map_id (zs.take len)]
      apply List.map_congr_left
      intro z hz
      have := hnn z (List.mem_of_mem_take hz)
      simp
      omega
    have hll : (zs.take len).length = len := by rw [List.length_take]; omega
    refine ⟨(zs.take len).map Int.toNat, ?_, by rw [List.length_map, hll], ?_, hl, hm⟩
    · rw [hi]
      refine ⟨hll, fun _ => ⟨x, rfl, fun j hj => ?_⟩⟩
      rw [hc j (by omega)]
      simp [List.getD, hj]
    · intro y hy
      obtain ⟨z, hz, rfl⟩ := List.mem_map.1 hy
      have := hnn z (List.mem_of_mem_take hz)
      omega

theorem row_ints {w : World} {a : Option Addr} {len cap : Nat} {zs : List Int} (h : IsRow .i64 w a len cap zs) :
    ∃ ns : List Int, Rd .i64 w a len ns ∧ ns.length = len ∧ (∀ x ∈ ns, -9223372036854775808 ≤ x ∧ x ≤ 9223372036854775807) ∧ len ≤ cap ∧ cap ≤ maxLen := by
  rcases h with ⟨rfl, rfl, rfl, rfl⟩ | ⟨x, rfl, hl, hm, hz, hc, hw⟩
  · exact ⟨[], Rd.nil, rfl, by simp, Nat.le_refl _, Nat.zero_le _⟩
  · have hll : (zs.take len).length = len := by rw [List.length_take]; omega
    refine ⟨zs.take len, ⟨hll, fun _ => ⟨x, rfl, fun j hj => ?_⟩⟩, hll, ?_, hl, hm⟩
    · rw [hc j (by omega)]
      simp [List.getD, hj]
    · intro z hz
      have h := hw z (List.mem_of_mem_take hz)
      simp only [Lit.wf, Bool.and_eq_true, decide_eq_true_eq] at h
      have e1 : IntKind.i64.min = -9223372036854775808 := rfl
      have e2 : IntKind.i64.max = 9223372036854775807 := rfl
      omega
end Go.Proofs.YtlakkhhibdcjaaaGreatDoor

namespace Go.Proofs.YtlakkhhibdcjaaaGreatDoor
open Go.RowKit

theorem byte_slice : Tryz.prog.underlying 34 = some (.slice (Tryz.prog.elem 34)) := by kernel_rfl
theorem byte_size (W : World) : (sizeOf (Tryz.prog.elem 34)).run Tryz.prog W = .ok 1 W := by kernel_rfl

theorem run_front (W : World) (A : Option Addr) (n c k : Nat) (hk : k ≤ c) : (Instr.sliceAt 34 (.slice A n c) none (some (.int .i64 (k : Int))) none).run Tryz.prog W = .ok (.slice A k c) W := by
  rw [run_sliceAt_slice _ _ _ _ _ _ byte_slice, run_slice_h W _ _ _ _ byte_slice _ _ (by omega) (by omega), byte_size]
  have e : (A.map fun x => x.add 0) = A := by cases A <;> simp [Addr.add]
  simp [Result.andThen, sliced, e]
theorem run_back (W : World) (A : Option Addr) (n c k : Nat) (hk : k ≤ n) : (Instr.sliceAt 34 (.slice A n c) (some (.int .i64 (k : Int))) none none).run Tryz.prog W = .ok (.slice (if c = k then A else A.map (·.add k)) (n - k) (c - k)) W := by
  rw [run_sliceAt_slice _ _ _ _ _ _ byte_slice, run_slice_l W _ _ _ _ byte_slice _ _ (by omega) (by omega), byte_size]
  simp [Result.andThen, sliced]
end Go.Proofs.YtlakkhhibdcjaaaGreatDoor

namespace Go.Proofs.YtlakkhhibdcjaaaGreatDoor
open Go.RowKit

theorem eqT {a b : Int} (h : a = b) : (a == b) = true := by simp [h]
theorem eqF {a b : Int} (h : a ≠ b) : (a == b) = false := by simp [h]

/-- Bytes as a string. -/
def strN (xs : List Nat) : ByteArray := strOfNums (ints xs)
theorem strN_append (a b : List Nat) : strN a ++ strN b = strN (a ++ b) := by
  apply ByteArray.ext
  simp [strN, strOfNums, ints_append, ByteArray.data_append]
theorem strN_size (a : List Nat) : (strN a).size = a.length := by rw [strN, strOfNums_size, ints_length]
theorem strN_nil : strN [] = ByteArray.empty := rfl
theorem ints_take (a : List Nat) (j : Nat) : (ints a).take j = ints (a.take j) := by simp [ints, List.map_take]

theorem strN_inj {a b : List Nat} (ha : ∀ x ∈ a, x < 256) (hb : ∀ x ∈ b, x < 256) (h : strN a = strN b) : a = b := by
  have h1 := congrArg (fun s => s.data.toList.map UInt8.toNat) h
  have key : ∀ l : List Nat, (∀ x ∈ l, x < 256) → ((strN l).data.toList.map UInt8.toNat) = l := by
    intro l hl
    simp only [strN, strOfNums, ints]
    rw [List.map_map, List.map_map]
    conv => rhs; rw [← List.map_id l]
    apply List.map_congr_left
    intro x hx
    have := hl x hx
    simp
    omega
  rw [key a ha, key b hb] at h1
  exact h1
theorem strN_beq {a b : List Nat} (ha : ∀ x ∈ a, x < 256) (hb : ∀ x ∈ b, x < 256) : ((strN a).toList == (strN b).toList) = decide (a = b) := by
  by_cases h : a = b
  · subst h; simp
  · simp only [h, decide_false]
    exact beq_eq_false_iff_ne.2 fun he => h (strN_inj ha hb (by rw [Go.ByteArray.toList_eq, Go.ByteArray.toList_eq] at he; exact ByteArray.ext (Array.ext' he)))

theorem str_of (w : World) (A : Option Addr) (n c : Nat) (xs : List Nat) (hr : Rd .u8 w A n (ints xs)) : (convert 34 9 (.slice A n c)).run Tryz.prog w = .ok (.string (strN xs)) w :=
  run_str (P := Tryz.prog) w 34 9 5 Tryz.underlying34 Tryz.underlying5 Tryz.underlying9 A n c _ hr

/-- The bytes of a slice, in new memory (nil stays nil). -/
theorem clone_any (A : Option Addr) (n c : Nat) (xs : List Nat) (w : World) (hr : Rd .u8 w A n (ints xs)) (hl : n ≤ 200000000000000) :
    Calls Tryz.prog 38 #[.slice A n c] w (OwnRes w w.heap.size xs) := by
  have hx : xs.length = n := by have := hr.1; rwa [ints_length] at this
  have HR := Lib.hid hr
  have HX := Lib.hid hx
  clear hr hx
  cases A with
  | none =>
    have hn : n = 0 := by
      rcases Nat.eq_zero_or_pos n with h | h
      · exact h
      · obtain ⟨_, h', _⟩ := HR.out.2 h; cases h'
    have hxn : xs = [] := List.eq_nil_of_length_eq_zero (by rw [HX.out]; exact hn)
    subst hxn
    subst hn
    have heq := Lib.run_eql_slice_nil (P := Tryz.prog) w 34 5 none 0 c 0 0 Tryz.underlying34
    go_enter Tryz.func38, Tryz.ntmps38
    go_wp2
    go_ret
    exact ⟨_, rfl, Own.nil, Below.refl _ _⟩
  | some ad =>
    have heq := Lib.run_eql_slice_nil (P := Tryz.prog) w 34 5 (some ad) n c 0 0 Tryz.underlying34
    go_enter Tryz.func38, Tryz.ntmps38
    go_wp2_with (at_builtin; refine wpList_append_ints _ rfl (.tmp 5) (.tmp 6) 34 rfl .u8 1 w.heap.size 5 Tryz.underlying34 info_byte _ 0 [] rfl (World.ownsRow_made w _ 0 (Nat.le_refl _) (by simp [maxLen]) rfl) (some ad) n c _ rfl (HR.out.alloc _) (by omega) (by omega) (by simp) ?_; intro v' w1 ho' hg)
    have hb1 : Below w.heap.size w w1 := ((Below.refl _ _).alloc (Nat.le_refl _) _).grown hg (by simp) (fun g he => by have he' : some w.heap.size = some g := he; injection he' with he'; omega)
    rw [Nat.zero_add, List.nil_append] at ho'
    clear hg heq
    go_ret
    exact ⟨v', rfl, by rw [HX.out]; exact ho', hb1⟩
end Go.Proofs.YtlakkhhibdcjaaaGreatDoor

namespace Go.Proofs.YtlakkhhibdcjaaaGreatDoor
open Go.RowKit

/-- What make lays is the call's own. -/
theorem own_made (w : World) (n base : Nat) (hn : n ≤ maxLen) (hb : base ≤ w.heap.size) :
    Own 5 .u8 (w.alloc (.cells (madeCells #[.int .u8 0] n) 5)) base (.slice (some ⟨w.heap.size, 0, none⟩) n n) n (ints (List.replicate n 0)) := by
  refine ⟨by simp [ints], .inr ⟨w.heap.size, n, _, rfl, hb, heap_alloc_new w _, Nat.le_refl _, hn, ?_, ?_⟩⟩
  · simp [madeCells]
  · apply List.ext_getElem?
    intro j
    by_cases hj : j < n
    · simp [madeCells, ints, hj, Nat.mod_one]
    · simp [madeCells, ints, hj]
end Go.Proofs.YtlakkhhibdcjaaaGreatDoor

namespace Go.Proofs.YtlakkhhibdcjaaaGreatDoor
open Go Go.RowKit

section
variable {P : Program} (w : World)

theorem run_append_at (k : IntKind) (bytes base : Nat) (t ty e : TypeId) (ht : P.underlying t = some (.slice e))
    (hinfo : (P.info? e).map (fun i => (i.zero, i.size, i.bytes)) = some (some (.int k 0), 1, bytes))
    (v : Value) (n : Nat) (xs : List Int) (hown : Own e k w base v n xs) (A : Option Addr) (m c : Nat) (zs : List Int) (hr : Rd k w A m zs)
    (h63 : n + m ≤ 9223372036854775807) (hfit : (5 * (n + m) + 768) * bytes ≤ 1125899906842624) (hbase : base ≤ w.heap.size) :
    ∃ v' w', (Builtin.append_ #[t, t] ty #[v, .slice A m c]).run P w = .ok v' w' ∧ Own e k w' base v' (n + m) (xs ++ zs) ∧ w.grownBy w' v.ownBlock ∧ (v'.ownBlock = v.ownBlock ∨ ∃ g, v'.ownBlock = some g ∧ w.heap.size ≤ g) := by
  obtain ⟨i, hi, hz, hsize, hby⟩ := info_parts hinfo
  have hxl := hown.len
  have hzl := hr.1
  rcases Nat.eq_zero_or_pos m with rfl | hm
  · have hzn : zs = [] := List.eq_nil_of_length_eq_zero hzl
    subst hzn
    refine ⟨v, w, ?_, by simpa using hown, World.grownBy.refl w _, .inl rfl⟩
    rcases hown.2 with ⟨rfl, rfl⟩ | ⟨g, cap, cur, rfl, _, _, hnc, _⟩
    · cases A <;> simp [Builtin.append_, run_underlying ht, sizeOf, typeInfo, hi, Builtin.lenOf, Builtin.firstCells, loadCells, loadCellsFrom]
    · cases A <;> simp [Builtin.append_, run_underlying ht, sizeOf, typeInfo, hi, Builtin.lenOf, Builtin.firstCells, loadCells, loadCellsFrom, hnc, storeCells]
  · obtain ⟨ad, rfl, hcell⟩ := hr.2 hm
    have hnews : ∀ j u, (zs.map (Value.int k))[j]? = some u → w.cell? (ad.add j) = some u := by
      intro j u hu
      have hj : j < zs.length := by have := (List.getElem?_eq_some_iff.1 hu).1; simpa using this
      rw [hcell j (by omega)]
      rw [List.getElem?_map, List.getElem?_eq_getElem hj] at hu
      simp [List.getD, List.getElem?_eq_getElem hj] at hu ⊢
      exact hu
    have hl : (zs.map (Value.int k)).length = m * i.size := by rw [hsize, List.length_map]; omega
    have h1 : ∀ u ∈ zs.map (Value.int k), u.oneCell' = true := ints_oneCell k zs
    have hcap : ∀ old, old < n + m → Builtin.nextslicecap (n + m) old * i.bytes ≤ 281474976710656 := by
      intro old ho
      rw [hby]
      have h2 := Nat.mul_le_mul_right bytes (next_le ho)
      rw [Nat.mul_assoc] at h2
      omega
    have hnew : ∀ (olds : List Int), olds.length = n → ∀ c', n + m ≤ c' → c' ≤ maxLen → ∀ wd : World, base ≤ wd.heap.size →
        Own e k (wd.alloc (.cells ((olds.map (Value.int k)).toArray ++ (zs.map (Value.int k)).toArray ++ Builtin.zeroCells (Value.int k 0).cells (c' - (n + m))) e)) base
          (.slice (some ⟨wd.heap.size, 0, none⟩) (n + m) c') (n + m) (olds ++ zs) := by
      intro olds ho c' hc1 hc2 wd hwd
      refine ⟨by simp [ho, hzl], .inr ⟨wd.heap.size, c', _, rfl, hwd, heap_alloc_new wd _, hc1, hc2, ?_, ?_⟩⟩
      · simp only [Array.size_append, List.size_toArray, List.length_map, size_zeroCells, Value.cells, ho, hzl]
        simp
        omega
      · simp only [Array.toList_append, List.map_append]
        rw [List.take_left']
        simp [ho, hzl]
    have hgr : ∀ (o : Obj) (row : Option Nat), w.grownBy (w.drew.alloc o) row := fun o row => ⟨rfl, rfl, rfl, by simp, fun j hj _ => by first | exact heap_alloc_old w.drew _ j hj | exact heap_alloc_old w.drew _ hj⟩
    rcases hown.2 with ⟨rfl, rfl⟩ | ⟨g, cap, cur, rfl, hbg, hg, hnc, hcm, hcs, htake⟩
    · have hxn : xs = [] := List.eq_nil_of_length_eq_zero hxl
      subst hxn
      have hcap0 := hcap 0 (by omega)
      rw [nextslicecap_zero (by omega)] at hcap0
      have hrun := run_append_nil (P := P) w t ty e i _ ht hi hz ad m c _ hl hnews hm (by omega) (by simpa using hcap0)
      have hge := grownCap_ge w m 0 e
      have hle := grownCap_le_maxLen w m 0 e (by simp only [maxLen]; omega)
      have hN := hnew [] rfl (grownCap w m 0 e) (by omega) hle w.drew hbase
      simp only [Nat.zero_add, List.map_nil, List.nil_append, Array.empty_append] at hN ⊢
      exact ⟨_, _, hrun, hN, hgr _ _, .inr ⟨_, rfl, Nat.le_refl _⟩⟩
    · by_cases hroom : n + m ≤ cap
      · have hfit' : n * i.size + (zs.map (Value.int k)).length ≤ cur.size := by rw [hsize, hcs, List.length_map]; omega
        have hrun := run_append_room (P := P) w t ty e i ht hi g n cap cur hg ad m c _ hl hnews h1 hroom hfit'
        refine ⟨_, _, hrun, ⟨by simp [hxl, hzl], .inr ⟨g, cap, _, rfl, hbg, setRow_heap w g cur _ e _ hg, hroom, hcm, ?_, ?_⟩⟩, ⟨rfl, rfl, rfl, by simp, fun j _ hj => setRow_other w g j _ (fun he => hj (by simp [Value.ownBlock, he]))⟩, .inl rfl⟩
        · simp only [List.size_toArray, List.length_append, List.length_take, List.length_drop, Array.length_toList]
          omega
        · rw [hsize, htake, List.map_append]
          show List.take ((n + m) * 1) ((xs.map (Value.int k) ++ zs.map (Value.int k)) ++ _) = _
          rw [List.take_left']
          simp [hxl, hzl]
      · have holds : ∀ j u, (xs.map (Value.int k))[j]? = some u → w.cell? ((⟨g, 0, none⟩ : Addr).add j) = some u := World.ownsRow.cells hown (g := g) rfl
        have hrun := run_append_grow (P := P) w t ty e i _ ht hi hz ⟨g, 0, none⟩ n cap (xs.map (Value.int k)) (by rw [hsize, List.length_map]; omega) holds ad m c _ hl hnews (by omega) (by omega) (hcap cap (by omega))
        have hge := grownCap_ge w (n + m) cap e
        have hle := grownCap_le_maxLen w (n + m) cap e (by simp only [maxLen]; omega)
        exact ⟨_, _, hrun, hnew xs hxl _ hge hle w.drew hbase, hgr _ _, .inr ⟨_, rfl, Nat.le_refl _⟩⟩

theorem wp_append_at {o : Oper} {a : Act} {K : Act → World → Prop} {Q : Exit → Act → World → Prop} (s x : Operand) (t : TypeId)
    (ho : o.op = .call { callee := .builtin .append, args := #[s, x], argTypes := #[t, t] })
    (k : IntKind) (bytes base : Nat) (e : TypeId) (ht : P.underlying t = some (.slice e))
    (hinfo : (P.info? e).map (fun i => (i.zero, i.size, i.bytes)) = some (some (.int k 0), 1, bytes))
    (v : Value) (n : Nat) (xs : List Int) (hs : a.eval s = v) (hown : Own e k w base v n xs) (A : Option Addr) (m c : Nat) (zs : List Int) (hx : a.eval x = .slice A m c) (hr : Rd k w A m zs)
    (h63 : n + m ≤ 9223372036854775807) (hfit : (5 * (n + m) + 768) * bytes ≤ 1125899906842624) (hbase : base ≤ w.heap.size)
    (h : ∀ v' w', Own e k w' base v' (n + m) (xs ++ zs) → w.grownBy w' v.ownBlock → (v'.ownBlock = v.ownBlock ∨ ∃ g, v'.ownBlock = some g ∧ w.heap.size ≤ g) → K (a.put o.dst v') w') : o.wp P a w K Q := by
  obtain ⟨v', w', hrun, h2, h3, h4⟩ := run_append_at (P := P) w k bytes base t o.type e ht hinfo v n xs hown A m c zs hr h63 hfit hbase
  unfold Oper.wp execOp
  simp only [ho, resolve, invoke, builtin, Sem.run_bind, Sem.run_pure, Result.andThen_ok, List.map_toArray, List.map_cons, List.map_nil, hs, hx, hrun]
  exact h v' w' h2 h3 h4

theorem wpList_append_at {ops : Array Oper} {rest : List Oper} {o : Oper} {a : Act} {Q : Exit → Act → World → Prop} (hgd : o.guard = none) (s x : Operand) (t : TypeId)
    (ho : o.op = .call { callee := .builtin .append, args := #[s, x], argTypes := #[t, t] })
    (k : IntKind) (bytes base : Nat) (e : TypeId) (ht : P.underlying t = some (.slice e))
    (hinfo : (P.info? e).map (fun i => (i.zero, i.size, i.bytes)) = some (some (.int k 0), 1, bytes))
    (v : Value) (n : Nat) (xs : List Int) (hs : a.eval s = v) (hown : Own e k w base v n xs) (A : Option Addr) (m c : Nat) (zs : List Int) (hx : a.eval x = .slice A m c) (hr : Rd k w A m zs)
    (h63 : n + m ≤ 9223372036854775807) (hfit : (5 * (n + m) + 768) * bytes ≤ 1125899906842624) (hbase : base ≤ w.heap.size)
    (h : ∀ v' w', Own e k w' base v' (n + m) (xs ++ zs) → w.grownBy w' v.ownBlock → (v'.ownBlock = v.ownBlock ∨ ∃ g, v'.ownBlock = some g ∧ w.heap.size ≤ g) → wpList P ops Q rest (a.put o.dst v') w') : wpList P ops Q (o :: rest) a w :=
  wpList_plain hgd fun _ hK => wp_append_at w s x t ho k bytes base e ht hinfo v n xs hs hown A m c zs hx hr h63 hfit hbase fun v' w' h2 h3 h4 => hK _ _ (h v' w' h2 h3 h4)

end
end Go.Proofs.YtlakkhhibdcjaaaGreatDoor

namespace Go.Proofs.YtlakkhhibdcjaaaGreatDoor
open Go Go.RowKit

/-- The worlds that lie behind w0: nothing that w0 has is turned in them. -/
def After (w0 : World) : Type := { W : World // Below w0.heap.size w0 W }
instance (w0 : World) : Nonempty (After w0) := ⟨⟨w0, Below.refl _ _⟩⟩
def After.world {w0 : World} (p : After w0) : World := p.1
theorem After.below {w0 : World} (p : After w0) : Below w0.heap.size w0 p.world := p.2

theorem wp_region_after {P : Program} {id : Nat} {Q : Exit → Act → World → Prop} {a : Act} {w : World} {l : List Oper} (hm : P.follows .mixedOrders = true) (hB : Region.lexB .any l.toArray = true)
    (h : wpQuiet P l.toArray (fun w' => ∃ p : After w, w' = p.world) (fun a' => ∀ w', (∃ p : After w, w' = p.world) → Q .normal a' w') l a) : (Code.region id l.toArray true).wp P Q a w :=
  wp_region_quiet (C := fun w' => ∃ p : After w, w' = p.world) hm hB ⟨⟨w.drew, (Below.refl _ _).drew⟩, rfl⟩ (by simpa using h)

/-- A callee's contract, met behind w0. -/
theorem after_call {P : Program} {f : FuncId} {args : Array Value} {w0 : World} (p : After w0) {v : Value}
    (h : Calls P f args p.world fun e w' => e = .returned v ∧ Below p.world.heap.size p.world w') : Calls P f args p.world fun e w'' => e = .returned v ∧ ∃ q : After w0, w'' = q.world :=
  h.mono fun _ w' ⟨he, hb⟩ => ⟨he, ⟨w', p.below.trans (hb.mono p.below.size)⟩, rfl⟩
end Go.Proofs.YtlakkhhibdcjaaaGreatDoor

namespace Go.Proofs.YtlakkhhibdcjaaaGreatDoor
open Go.RowKit

theorem u8_nat {b : Int} (h : (Lit.int .u8 b).wf = true) : ∃ n : Nat, b = (n : Int) ∧ n < 256 := by
  simp only [Lit.wf, Bool.and_eq_true, decide_eq_true_eq] at h
  have e1 : IntKind.u8.min = 0 := rfl
  have e2 : IntKind.u8.max = 255 := rfl
  exact ⟨b.toNat, by omega, by omega⟩
theorem u16_nat {b : Int} (h : (Lit.int .u16 b).wf = true) : ∃ n : Nat, b = (n : Int) ∧ n < 65536 := by
  simp only [Lit.wf, Bool.and_eq_true, decide_eq_true_eq] at h
  have e1 : IntKind.u16.min = 0 := rfl
  have e2 : IntKind.u16.max = 65535 := rfl
  exact ⟨b.toNat, by omega, by omega⟩

theorem ints_set (xs : List Nat) (k y : Nat) : (ints xs).set k (y : Int) = ints (xs.set k y) := by simp [ints, List.map_set]

theorem min2_int {P : Program} (x y : Int) (W : World) (ts : Array TypeId) (t : TypeId) :
    (Builtin.min_ ts t #[.int .i64 x, .int .i64 y]).run P W = .ok (.int .i64 (if y < x then y else x)) W := by
  simp [Builtin.min_, Builtin.min2]
theorem min2_ok {P : Program} (la lb n : Nat) (x y : Int) (hx : x = la) (hy : y = lb) (h : n = min la lb) (W : World) (ts : Array TypeId) (t : TypeId) :
    (Builtin.min_ ts t #[.int .i64 x, .int .i64 y]).run P W = .ok (.int .i64 (n : Int)) W := by
  rw [min2_int]
  subst h hx hy
  congr 2
  split <;> omega
theorem getD_lt {xs : List Nat} (h : ∀ x ∈ xs, x < 256) (j : Nat) : xs.getD j 0 < 256 := by
  by_cases hj : j < xs.length
  · have h1 : xs.getD j 0 = xs[j] := by simp [List.getD, hj]
    rw [h1]; exact h _ (List.getElem_mem hj)
  · simp [List.getD, hj]
end Go.Proofs.YtlakkhhibdcjaaaGreatDoor

namespace Go.Proofs.YtlakkhhibdcjaaaGreatDoor
open Go Go.RowKit

section
variable {k : IntKind} {w : World} {n cap base g : Nat} {zs : List Int} {e : TypeId} {v : Value}

theorem Own.open_ (h : Own e k w base v n zs) (hn : 0 < n) : ∃ g cap, v = .slice (some ⟨g, 0, none⟩) n cap ∧ base ≤ g ∧ g < w.heap.size ∧ n ≤ cap ∧ cap ≤ maxLen := by
  rcases h.2 with ⟨_, h0⟩ | ⟨g, cap, cur, hv, hb, hg, hnc, hcm, _⟩
  · omega
  · exact ⟨g, cap, hv, hb, (Array.getElem?_eq_some_iff.1 hg).1, hnc, hcm⟩
theorem Own.cell (h : Own e k w base (.slice (some ⟨g, 0, none⟩) n cap) n zs) {j : Nat} (hj : j < n) : w.cell? ⟨g, j, none⟩ = some (.int k (zs.getD j 0)) := by
  have h1 := World.ownsRow.cellAt h j (by omega)
  have hl := h.len
  rw [h1, List.getElem?_map, List.getElem?_eq_getElem (by omega)]
  simp [List.getD, List.getElem?_eq_getElem (show j < zs.length by omega)]
theorem Own.unfrozen (h : Own e k w base (.slice (some ⟨g, 0, none⟩) n cap) n zs) (j : Nat) : w.frozen? ⟨g, j, none⟩ = false := World.ownsRow.frozenAt h j
theorem Own.set (h : Own e k w base (.slice (some ⟨g, 0, none⟩) n cap) n zs) (j : Nat) (x : Int) : Own e k (w.setCell ⟨g, j, none⟩ (.int k x)) base (.slice (some ⟨g, 0, none⟩) n cap) n (zs.set j x) := by
  have h1 := World.ownsRow.stored h j (.int k x)
  unfold Own
  rw [List.map_set]
  exact h1.1
end
end Go.Proofs.YtlakkhhibdcjaaaGreatDoor

namespace Go.Proofs.YtlakkhhibdcjaaaGreatDoor
open Go Go.RowKit

section
variable {P : Program} (w : World)

/-- Behind the append the slice lies where it lay, and no other block was turned; or it lies in a new block, and none was turned. -/
def Grew (w w' : World) (v v' : Value) : Prop :=
  (v'.ownBlock = v.ownBlock ∧ w.grownBy w' v.ownBlock) ∨ (w.grownBy w' none ∧ ∃ g, v'.ownBlock = some g ∧ w.heap.size ≤ g)

theorem run_append_one (bytes base : Nat) (t ty e : TypeId) (z : Value) (ht : P.underlying t = some (.slice e))
    (hinfo : (P.info? e).map (fun i => (i.zero, i.size, i.bytes)) = some (some z, 1, bytes)) (hz1 : z.cells.size = 1)
    (v : Value) (n : Nat) (vs : List Value) (hown : w.ownsRow base e 1 v n vs) (ad : Addr) (c : Nat) (u : Value) (hu : w.cell? ad = some u) (h1 : u.oneCell' = true)
    (h63 : n + 1 ≤ 9223372036854775807) (hfit : (5 * (n + 1) + 768) * bytes ≤ 1125899906842624) (hbase : base ≤ w.heap.size) (hm : n + 1 ≤ maxLen) :
    ∃ v' w', (Builtin.append_ #[t, t] ty #[v, .slice (some ad) 1 c]).run P w = .ok v' w' ∧ w'.ownsRow base e 1 v' (n + 1) (vs ++ [u]) ∧ Grew w w' v v' := by
  obtain ⟨i, hi, hz, hsize, hby⟩ := info_parts hinfo
  have hxl : vs.length = n := by have := hown.1; omega
  have hnews : ∀ j u', [u][j]? = some u' → w.cell? (ad.add j) = some u' := by
    intro j u' hj
    cases j with
    | zero => simp at hj; subst hj; exact hu
    | succ j => simp at hj
  have hl : [u].length = 1 * i.size := by rw [hsize]; rfl
  have h1' : ∀ u' ∈ [u], u'.oneCell' = true := by intro u' hm; simp at hm; subst hm; exact h1
  have hcap : ∀ old, old < n + 1 → Builtin.nextslicecap (n + 1) old * i.bytes ≤ 281474976710656 := by
    intro old ho
    rw [hby]
    have h2 := Nat.mul_le_mul_right bytes (next_le ho)
    rw [Nat.mul_assoc] at h2
    omega
  have hnew : ∀ (olds : List Value), olds.length = n → ∀ c', n + 1 ≤ c' → c' ≤ maxLen → ∀ wd : World, base ≤ wd.heap.size →
      (wd.alloc (.cells (olds.toArray ++ [u].toArray ++ Builtin.zeroCells z.cells (c' - (n + 1))) e)).ownsRow base e 1 (.slice (some ⟨wd.heap.size, 0, none⟩) (n + 1) c') (n + 1) (olds ++ [u]) := by
    intro olds ho c' hc1 hc2 wd hwd
    refine ⟨by simp [ho], .inr ⟨wd.heap.size, c', _, rfl, hwd, heap_alloc_new wd _, hc1, hc2, ?_, ?_⟩⟩
    · simp only [Array.size_append, List.size_toArray, size_zeroCells, ho, hz1]
      simp
      omega
    · simp only [Array.toList_append]
      rw [List.take_left']
      simp [ho]
  have hgr : ∀ (o : Obj), w.grownBy (w.drew.alloc o) none := fun o => ⟨rfl, rfl, rfl, by simp, fun j hj _ => by first | exact heap_alloc_old w.drew _ j hj | exact heap_alloc_old w.drew _ hj⟩
  rcases hown.2 with ⟨rfl, rfl⟩ | ⟨g, cap, cur, rfl, hbg, hg, hnc, hcm, hcs, htake⟩
  · have hxn : vs = [] := List.eq_nil_of_length_eq_zero hxl
    subst hxn
    have hcap0 := hcap 0 (by omega)
    rw [nextslicecap_zero (by omega)] at hcap0
    have hrun := run_append_nil (P := P) w t ty e i _ ht hi hz ad 1 c _ hl hnews (by omega) (by omega) (by simpa using hcap0)
    have hge := grownCap_ge w 1 0 e
    have hle := grownCap_le_maxLen w 1 0 e (by simp only [maxLen]; omega)
    have hN := hnew [] rfl (grownCap w 1 0 e) (by omega) hle w.drew hbase
    simp only [Nat.zero_add, List.nil_append, Array.empty_append] at hN ⊢
    exact ⟨_, _, hrun, hN, .inr ⟨hgr _, _, rfl, Nat.le_refl _⟩⟩
  · by_cases hroom : n + 1 ≤ cap
    · have hfit' : n * i.size + [u].length ≤ cur.size := by rw [hsize, hcs, List.length_singleton]; omega
      have hrun := run_append_room (P := P) w t ty e i ht hi g n cap cur hg ad 1 c _ hl hnews h1' hroom hfit'
      refine ⟨_, _, hrun, ⟨by simp [hxl], .inr ⟨g, cap, _, rfl, hbg, setRow_heap w g cur _ e _ hg, hroom, hcm, ?_, ?_⟩⟩, .inl ⟨rfl, ⟨rfl, rfl, rfl, by simp, fun j _ hj => setRow_other w g j _ (fun he => hj (by simp [Value.ownBlock, he]))⟩⟩⟩
      · simp only [List.size_toArray, List.length_append, List.length_take, List.length_drop, Array.length_toList, List.length_singleton]
        omega
      · rw [hsize, htake]
        show List.take ((n + 1) * 1) ((vs ++ [u]) ++ _) = _
        rw [List.take_left']
        simp [hxl]
    · have holds : ∀ j u, vs[j]? = some u → w.cell? ((⟨g, 0, none⟩ : Addr).add j) = some u := World.ownsRow.cells hown (g := g) rfl
      have hrun := run_append_grow (P := P) w t ty e i _ ht hi hz ⟨g, 0, none⟩ n cap vs (by rw [hsize]; omega) holds ad 1 c _ hl hnews (by omega) (by omega) (hcap cap (by omega))
      have hge := grownCap_ge w (n + 1) cap e
      have hle := grownCap_le_maxLen w (n + 1) cap e (by simpa only [maxLen] using hm)
      exact ⟨_, _, hrun, hnew vs hxl _ hge hle w.drew hbase, .inr ⟨hgr _, _, rfl, Nat.le_refl _⟩⟩

theorem wpList_append_one {ops : Array Oper} {rest : List Oper} {o : Oper} {a : Act} {Q : Exit → Act → World → Prop} (hgd : o.guard = none) (s x : Operand) (t : TypeId)
    (ho : o.op = .call { callee := .builtin .append, args := #[s, x], argTypes := #[t, t] })
    (bytes base : Nat) (e : TypeId) (z : Value) (ht : P.underlying t = some (.slice e))
    (hinfo : (P.info? e).map (fun i => (i.zero, i.size, i.bytes)) = some (some z, 1, bytes)) (hz1 : z.cells.size = 1)
    (v : Value) (n : Nat) (vs : List Value) (hs : a.eval s = v) (hown : w.ownsRow base e 1 v n vs) (ad : Addr) (c : Nat) (u : Value) (hx : a.eval x = .slice (some ad) 1 c) (hu : w.cell? ad = some u) (h1 : u.oneCell' = true)
    (h63 : n + 1 ≤ 9223372036854775807) (hfit : (5 * (n + 1) + 768) * bytes ≤ 1125899906842624) (hbase : base ≤ w.heap.size) (hm : n + 1 ≤ maxLen)
    (h : ∀ v' w', w'.ownsRow base e 1 v' (n + 1) (vs ++ [u]) → Grew w w' v v' → wpList P ops Q rest (a.put o.dst v') w') : wpList P ops Q (o :: rest) a w :=
  wpList_plain hgd fun _ hK => by
    obtain ⟨v', w', hrun, h2, h3⟩ := run_append_one (P := P) w bytes base t o.type e z ht hinfo hz1 v n vs hown ad c u hu h1 h63 hfit hbase hm
    unfold Oper.wp execOp
    simp only [ho, resolve, invoke, builtin, Sem.run_bind, Sem.run_pure, Result.andThen_ok, List.map_toArray, List.map_cons, List.map_nil, hs, hx, hrun]
    exact hK _ _ (h v' w' h2 h3)

theorem Grew.below {w w' a : World} {v v' : Value} {B : Nat} (h : Grew w w' v v') (hb : Below B a w) (hB : B ≤ w.heap.size) (hr : ∀ g, v.ownBlock = some g → B ≤ g) : Below B a w' := by
  rcases h with ⟨_, h⟩ | ⟨h, _⟩
  · exact hb.grown h hB hr
  · exact hb.grown h hB (fun _ he => by cases he)
/-- A cell that lies in another block than the slice reads as it read. -/
theorem Grew.cell {w w' : World} {v v' : Value} (h : Grew w w' v v') {p : Addr} {u : Value} (hc : w.cell? p = some u) (hp : v.ownBlock ≠ some p.block) : w'.cell? p = some u := by
  have hlt := World.block_lt_of_cell? w _ hc
  have hh : w'.heap[p.block]? = w.heap[p.block]? := by
    rcases h with ⟨_, h⟩ | ⟨h, _⟩
    · exact h.block _ hlt hp.symm
    · exact h.block _ hlt (by simp)
  rw [World.cell?_of_block (w := w) hh]
  exact hc
/-- .. and the slice does not come to lie in its block. -/
theorem Grew.apart {w w' : World} {v v' : Value} (h : Grew w w' v v') {p : Addr} {u : Value} (hc : w.cell? p = some u) (hp : v.ownBlock ≠ some p.block) : v'.ownBlock ≠ some p.block := by
  have hlt := World.block_lt_of_cell? w _ hc
  rcases h with ⟨he, _⟩ | ⟨_, g, he, hg⟩
  · rw [he]; exact hp
  · rw [he]; intro h'; injection h' with h'; omega
end
end Go.Proofs.YtlakkhhibdcjaaaGreatDoor

namespace Go.Proofs.YtlakkhhibdcjaaaGreatDoor
open Go.RowKit

theorem info_row : (Tryz.prog.info? 34).map (fun i => (i.zero, i.size, i.bytes)) = some (some (.slice none 0 0), 1, 24) := by kernel_rfl

/-- A slice of bytes as a value. -/
def RowAt (w : World) (u : Value) (r : List Nat) : Prop := ∃ A c, u = .slice A r.length c ∧ r.length ≤ c ∧ c ≤ maxLen ∧ Rd .u8 w A r.length (ints r)
/-- .. that does not lie in the block of v. -/
def RowIn (w : World) (v u : Value) (r : List Nat) : Prop := ∃ A c, u = .slice A r.length c ∧ r.length ≤ c ∧ c ≤ maxLen ∧ Rd .u8 w A r.length (ints r) ∧ (0 < r.length → ∀ ad, A = some ad → v.ownBlock ≠ some ad.block)
/-- A slice of rows that reads. -/
def RdRows (w : World) (A : Option Addr) (rs : List (List Nat)) : Prop := 0 < rs.length → ∃ ad, A = some ad ∧ ∀ (j : Nat) r, rs[j]? = some r → ∃ u, w.cell? (ad.add j) = some u ∧ RowAt w u r
/-- A slice of rows that is the call's own (the rows lie elsewhere). -/
def OwnRows (w : World) (base : Nat) (v : Value) (rs : List (List Nat)) : Prop :=
  ∃ vs, w.ownsRow base 34 1 v rs.length vs ∧ ∀ (j : Nat) u r, vs[j]? = some u → rs[j]? = some r → RowIn w v u r

section
variable {w w' : World} {base : Nat} {v v' u : Value} {r : List Nat} {rs : List (List Nat)}

theorem RowIn.at_ (h : RowIn w v u r) : RowAt w u r := by obtain ⟨A, c, h1, h2, h3, h4, _⟩ := h; exact ⟨A, c, h1, h2, h3, h4⟩
theorem RowAt.below (h : RowAt w u r) (hb : Below w.heap.size w w') : RowAt w' u r := by obtain ⟨A, c, h1, h2, h3, h4⟩ := h; exact ⟨A, c, h1, h2, h3, h4.below hb⟩
theorem RowIn.below (h : RowIn w v u r) (hb : Below w.heap.size w w') : RowIn w' v u r := by obtain ⟨A, c, h1, h2, h3, h4, h5⟩ := h; exact ⟨A, c, h1, h2, h3, h4.below hb, h5⟩
theorem RowIn.grew (h : RowIn w v u r) (hg : Grew w w' v v') : RowIn w' v' u r := by
  obtain ⟨A, c, h1, h2, h3, h4, h5⟩ := h
  refine ⟨A, c, h1, h2, h3, ⟨h4.1, fun hn => ?_⟩, fun hn ad he => ?_⟩
  · obtain ⟨ad, he, hc⟩ := h4.2 hn
    exact ⟨ad, he, fun j hj => hg.cell (hc j hj) (by rw [add_block]; exact h5 hn ad he)⟩
  · obtain ⟨ad', he', hc⟩ := h4.2 hn
    obtain rfl : ad = ad' := by rw [he] at he'; injection he'
    have h6 := hg.apart (hc 0 hn) (by rw [add_block]; exact h5 hn ad he)
    rw [add_block] at h6
    exact h6

theorem RdRows.nil {A : Option Addr} : RdRows w A [] := fun h => absurd h (by simp)
theorem RdRows.at_ {A : Option Addr} (h : RdRows w A rs) {j : Nat} (hj : j < rs.length) : ∃ ad B c, A = some ad ∧ w.cell? (ad.add j) = some (.slice B rs[j].length c) ∧ rs[j].length ≤ c ∧ c ≤ maxLen ∧ Rd .u8 w B rs[j].length (ints rs[j]) := by
  obtain ⟨ad, he, hc⟩ := h (by omega)
  obtain ⟨u, hu, B, c, rfl, h1, h2, h3⟩ := hc j rs[j] (List.getElem?_eq_getElem hj)
  exact ⟨ad, B, c, he, hu, h1, h2, h3⟩
theorem RdRows.below {A : Option Addr} (h : RdRows w A rs) (hb : Below w.heap.size w w') : RdRows w' A rs := fun hn => by
  obtain ⟨ad, he, hc⟩ := h hn
  refine ⟨ad, he, fun j r hj => ?_⟩
  obtain ⟨u, hu, hr⟩ := hc j r hj
  exact ⟨u, by rw [hb.cell (World.block_lt_of_cell? w _ hu)]; exact hu, hr.below hb⟩
theorem RdRows.drew {A : Option Addr} (h : RdRows w A rs) : RdRows w.drew A rs := h

theorem OwnRows.nil : OwnRows w base (.slice none 0 0) [] := ⟨[], World.ownsRow_nil w base _ 1, by simp⟩
theorem OwnRows.below (h : OwnRows w base v rs) (hb : Below w.heap.size w w') : OwnRows w' base v rs := by
  obtain ⟨vs, ho, hr⟩ := h
  refine ⟨vs, ⟨ho.1, ?_⟩, fun j u r h1 h2 => (hr j u r h1 h2).below hb⟩
  rcases ho.2 with h | ⟨g, cap, cur, hv, hg, hh, r⟩
  · exact .inl h
  · exact .inr ⟨g, cap, cur, hv, hg, by rw [hb.block g (Array.getElem?_eq_some_iff.1 hh).1]; exact hh, r⟩
theorem OwnRows.drew (h : OwnRows w base v rs) : OwnRows w.drew base v rs := h
theorem OwnRows.rowLt (h : OwnRows w base v rs) : ∀ g, v.ownBlock = some g → base ≤ g ∧ g < w.heap.size := fun g hg => by
  obtain ⟨vs, ho, _⟩ := h
  exact World.ownsRow.lt ho g hg
theorem OwnRows.push {vs : List Value} (ho' : w'.ownsRow base 34 1 v' (rs.length + 1) (vs ++ [u])) (hg : Grew w w' v v')
    (hl : vs.length = rs.length) (hr : ∀ (j : Nat) u r, vs[j]? = some u → rs[j]? = some r → RowIn w v u r) (hn : RowIn w v u r) : OwnRows w' base v' (rs ++ [r]) := by
  refine ⟨vs ++ [u], by rw [List.length_append]; exact ho', fun j u' r' h1 h2 => ?_⟩
  by_cases hj : j < rs.length
  · rw [List.getElem?_append_left (by omega)] at h1 h2
    exact (hr j u' r' h1 h2).grew hg
  · rw [List.getElem?_append_right (by omega)] at h1 h2
    rw [hl] at h1
    cases hk : j - rs.length with
    | zero =>
      rw [hk] at h1 h2
      simp at h1 h2
      subst h1 h2
      exact hn.grew hg
    | succ k =>
      rw [hk] at h1
      simp at h1
theorem OwnRows.form (h : OwnRows w base v rs) : ∃ A cap, v = .slice A rs.length cap ∧ rs.length ≤ cap ∧ cap ≤ maxLen ∧ RdRows w A rs := by
  obtain ⟨vs, ho, hr⟩ := h
  have hl : vs.length = rs.length := by have := ho.1; omega
  have ho0 := ho
  rcases ho.2 with ⟨rfl, h0⟩ | ⟨g, cap, cur, rfl, _, hg, hnc, hcm, _, htake⟩
  · exact ⟨none, 0, by rw [h0], by omega, Nat.zero_le _, fun hn => by omega⟩
  · refine ⟨some ⟨g, 0, none⟩, cap, rfl, hnc, hcm, fun hn => ⟨_, rfl, fun j r hj => ?_⟩⟩
    have hjl : j < rs.length := (List.getElem?_eq_some_iff.1 hj).1
    obtain ⟨u, hu⟩ : ∃ u, vs[j]? = some u := ⟨vs[j]'(by omega), List.getElem?_eq_getElem (by omega)⟩
    exact ⟨u, World.ownsRow.cells ho0 (g := g) rfl j u hu, (hr j u r hu hj).at_⟩
end
end Go.Proofs.YtlakkhhibdcjaaaGreatDoor

namespace Go.Proofs.YtlakkhhibdcjaaaGreatDoor
open Go Go.RowKit
set_option linter.unusedVariables false

section
variable {P : Program} (w : World)

theorem run_append_vals (bytes base : Nat) (t ty e : TypeId) (z : Value) (ht : P.underlying t = some (.slice e))
    (hinfo : (P.info? e).map (fun i => (i.zero, i.size, i.bytes)) = some (some z, 1, bytes)) (hz1 : z.cells.size = 1)
    (v : Value) (n : Nat) (vs : List Value) (hown : w.ownsRow base e 1 v n vs) (A : Option Addr) (m c : Nat) (us : List Value) (hul : us.length = m)
    (hcell : 0 < m → ∃ ad, A = some ad ∧ ∀ j u, us[j]? = some u → w.cell? (ad.add j) = some u) (h1 : ∀ u ∈ us, u.oneCell' = true)
    (h63 : n + m ≤ 9223372036854775807) (hfit : (5 * (n + m) + 768) * bytes ≤ 1125899906842624) (hbase : base ≤ w.heap.size) (hm : n + m ≤ maxLen) :
    ∃ v' w', (Builtin.append_ #[t, t] ty #[v, .slice A m c]).run P w = .ok v' w' ∧ w'.ownsRow base e 1 v' (n + m) (vs ++ us) ∧ Grew w w' v v' := by
  obtain ⟨i, hi, hz, hsize, hby⟩ := info_parts hinfo
  have hxl : vs.length = n := by have := hown.1; omega
  rcases Nat.eq_zero_or_pos m with rfl | hmp
  · have hzn : us = [] := List.eq_nil_of_length_eq_zero hul
    subst hzn
    refine ⟨v, w, ?_, by simpa using hown, .inl ⟨rfl, World.grownBy.refl w _⟩⟩
    rcases hown.2 with ⟨rfl, rfl⟩ | ⟨g, cap, cur, rfl, _, _, hnc, _⟩
    · cases A <;> simp [Builtin.append_, run_underlying ht, sizeOf, typeInfo, hi, Builtin.lenOf, Builtin.firstCells, loadCells, loadCellsFrom]
    · cases A <;> simp [Builtin.append_, run_underlying ht, sizeOf, typeInfo, hi, Builtin.lenOf, Builtin.firstCells, loadCells, loadCellsFrom, hnc, storeCells]
  · obtain ⟨ad, rfl, hnews⟩ := hcell hmp
    have hl : us.length = m * i.size := by rw [hsize, hul]; omega
    have hcap : ∀ old, old < n + m → Builtin.nextslicecap (n + m) old * i.bytes ≤ 281474976710656 := by
      intro old ho
      rw [hby]
      have h2 := Nat.mul_le_mul_right bytes (next_le ho)
      rw [Nat.mul_assoc] at h2
      omega
    have hnew : ∀ (olds : List Value), olds.length = n → ∀ c', n + m ≤ c' → c' ≤ maxLen → ∀ wd : World, base ≤ wd.heap.size →
        (wd.alloc (.cells (olds.toArray ++ us.toArray ++ Builtin.zeroCells z.cells (c' - (n + m))) e)).ownsRow base e 1 (.slice (some ⟨wd.heap.size, 0, none⟩) (n + m) c') (n + m) (olds ++ us) := by
      intro olds ho c' hc1 hc2 wd hwd
      refine ⟨by simp [ho, hul], .inr ⟨wd.heap.size, c', _, rfl, hwd, heap_alloc_new wd _, hc1, hc2, ?_, ?_⟩⟩
      · simp only [Array.size_append, List.size_toArray, size_zeroCells, ho, hz1, hul]
        simp
        omega
      · simp only [Array.toList_append]
        rw [List.take_left']
        simp [ho, hul]
    have hgr : ∀ (o : Obj), w.grownBy (w.drew.alloc o) none := fun o => ⟨rfl, rfl, rfl, by simp, fun j hj _ => by first | exact heap_alloc_old w.drew _ j hj | exact heap_alloc_old w.drew _ hj⟩
    rcases hown.2 with ⟨rfl, rfl⟩ | ⟨g, cap, cur, rfl, hbg, hg, hnc, hcm, hcs, htake⟩
    · have hxn : vs = [] := List.eq_nil_of_length_eq_zero hxl
      subst hxn
      have hcap0 := hcap 0 (by omega)
      rw [nextslicecap_zero (by omega)] at hcap0
      have hrun := run_append_nil (P := P) w t ty e i _ ht hi hz ad m c _ hl hnews hmp (by omega) (by simpa using hcap0)
      have hge := grownCap_ge w m 0 e
      have hle := grownCap_le_maxLen w m 0 e (by simp only [maxLen] at *; omega)
      have hN := hnew [] rfl (grownCap w m 0 e) (by omega) hle w.drew hbase
      simp only [Nat.zero_add, List.nil_append, Array.empty_append] at hN ⊢
      exact ⟨_, _, hrun, hN, .inr ⟨hgr _, _, rfl, Nat.le_refl _⟩⟩
    · by_cases hroom : n + m ≤ cap
      · have hfit' : n * i.size + us.length ≤ cur.size := by rw [hsize, hcs, hul]; omega
        have hrun := run_append_room (P := P) w t ty e i ht hi g n cap cur hg ad m c _ hl hnews h1 hroom hfit'
        refine ⟨_, _, hrun, ⟨by simp [hxl, hul], .inr ⟨g, cap, _, rfl, hbg, setRow_heap w g cur _ e _ hg, hroom, hcm, ?_, ?_⟩⟩, .inl ⟨rfl, ⟨rfl, rfl, rfl, by simp, fun j _ hj => setRow_other w g j _ (fun he => hj (by simp [Value.ownBlock, he]))⟩⟩⟩
        · simp only [List.size_toArray, List.length_append, List.length_take, List.length_drop, Array.length_toList]
          omega
        · rw [hsize, htake]
          show List.take ((n + m) * 1) ((vs ++ us) ++ _) = _
          rw [List.take_left']
          simp [hxl, hul]
      · have holds : ∀ j u, vs[j]? = some u → w.cell? ((⟨g, 0, none⟩ : Addr).add j) = some u := World.ownsRow.cells hown (g := g) rfl
        have hrun := run_append_grow (P := P) w t ty e i _ ht hi hz ⟨g, 0, none⟩ n cap vs (by rw [hsize]; omega) holds ad m c _ hl hnews (by omega) (by omega) (hcap cap (by omega))
        have hge := grownCap_ge w (n + m) cap e
        have hle := grownCap_le_maxLen w (n + m) cap e (by simpa only [maxLen] using hm)
        exact ⟨_, _, hrun, hnew vs hxl _ hge hle w.drew hbase, .inr ⟨hgr _, _, rfl, Nat.le_refl _⟩⟩

/-- .. as one step of a region that draws its order. -/
theorem step_append_vals {ops : Array Oper} {o : Oper} {a : Act} {K : Act → World → Prop} {Q : Exit → Act → World → Prop} {E : Prop} (hg : o.guard = none) (s x : Operand) (t : TypeId)
    (ho : o.op = .call { callee := .builtin .append, args := #[s, x], argTypes := #[t, t] })
    (bytes base : Nat) (e : TypeId) (z : Value) (ht : P.underlying t = some (.slice e))
    (hinfo : (P.info? e).map (fun i => (i.zero, i.size, i.bytes)) = some (some z, 1, bytes)) (hz1 : z.cells.size = 1)
    (v : Value) (n : Nat) (vs : List Value) (hs : a.eval s = v) (hown : w.ownsRow base e 1 v n vs) (A : Option Addr) (m c : Nat) (us : List Value) (hx : a.eval x = .slice A m c) (hul : us.length = m)
    (hcell : 0 < m → ∃ ad, A = some ad ∧ ∀ j u, us[j]? = some u → w.cell? (ad.add j) = some u) (h1 : ∀ u ∈ us, u.oneCell' = true)
    (h63 : n + m ≤ 9223372036854775807) (hfit : (5 * (n + m) + 768) * bytes ≤ 1125899906842624) (hbase : base ≤ w.heap.size) (hm : n + m ≤ maxLen)
    (h : ∀ v' w', w'.ownsRow base e 1 v' (n + m) (vs ++ us) → Grew w w' v v' → K (a.put o.dst v') w') :
    if Region.wanted o (yielded ops a.tmps) = true then Oper.wp P o a w K Q else E := by
  have hw : Region.wanted o (yielded ops a.tmps) = true := by simp [Region.wanted, hg]
  rw [if_pos hw]
  obtain ⟨v', w', hrun, h2, h3⟩ := run_append_vals (P := P) w bytes base t o.type e z ht hinfo hz1 v n vs hown A m c us hul hcell h1 h63 hfit hbase hm
  unfold Oper.wp execOp
  simp only [ho, resolve, invoke, builtin, Sem.run_bind, Sem.run_pure, Result.andThen_ok, List.map_toArray, List.map_cons, List.map_nil, hs, hx, hrun]
  exact h v' w' h2 h3
end

/-- Where a slice's bytes lie, if it has any. -/
def RowTo (T : Nat → Prop) (u : Value) : Prop := ∀ A n c ad, u = .slice A n c → 0 < n → A = some ad → T ad.block

/-- A slice of rows that is the call's own; it and its rows lie in the blocks T. -/
def RowsT (w : World) (base : Nat) (T : Nat → Prop) (v : Value) (rs : List (List Nat)) : Prop :=
  ∃ vs, w.ownsRow base 34 1 v rs.length vs ∧ (∀ g, v.ownBlock = some g → T g) ∧ ∀ (j : Nat) u r, vs[j]? = some u → rs[j]? = some r → RowIn w v u r ∧ RowTo T u

section
variable {w w' : World} {base : Nat} {T T' : Nat → Prop} {v v' u : Value} {r : List Nat} {rs rs' : List (List Nat)}

theorem RowTo.wide (h : RowTo T u) (ht : ∀ i, T i → T' i) : RowTo T' u := fun A n c ad e hn ha => ht _ (h A n c ad e hn ha)
theorem RowsT.nil : RowsT w base T (.slice none 0 0) [] := ⟨[], World.ownsRow_nil w base _ 1, fun g h => (by cases h), by simp⟩
theorem RowsT.own (h : RowsT w base T v rs) : OwnRows w base v rs := by
  obtain ⟨vs, ho, _, hr⟩ := h
  exact ⟨vs, ho, fun j u r h1 h2 => (hr j u r h1 h2).1⟩
theorem RowsT.wide (h : RowsT w base T v rs) (ht : ∀ i, T i → T' i) : RowsT w base T' v rs := by
  obtain ⟨vs, ho, hv, hr⟩ := h
  exact ⟨vs, ho, fun g hg => ht g (hv g hg), fun j u r h1 h2 => ⟨(hr j u r h1 h2).1, (hr j u r h1 h2).2.wide ht⟩⟩
theorem Rd.same {k : IntKind} {A : Option Addr} {n : Nat} {zs : List Int} (h : Rd k w A n zs) (hs : ∀ ad, A = some ad → 0 < n → w'.heap[ad.block]? = w.heap[ad.block]?) : Rd k w' A n zs :=
  ⟨h.1, fun hn => by
    obtain ⟨ad, he, hc⟩ := h.2 hn
    exact ⟨ad, he, fun j hj => by rw [World.cell?_of_block (w := w) (by rw [add_block]; exact hs ad he hn)]; exact hc j hj⟩⟩
theorem ownsRow_same {e : TypeId} {n : Nat} {vs : List Value} (h : w.ownsRow base e 1 v n vs) (hs : ∀ g, v.ownBlock = some g → w'.heap[g]? = w.heap[g]?) : w'.ownsRow base e 1 v n vs := by
  refine ⟨h.1, ?_⟩
  rcases h.2 with h | ⟨g, cap, cur, hv, hg, hh, r⟩
  · exact .inl h
  · exact .inr ⟨g, cap, cur, hv, hg, by rw [hs g (by rw [hv]; rfl)]; exact hh, r⟩
theorem RowIn.same (h : RowIn w v u r) (ht : RowTo T u) (hs : ∀ i, T i → w'.heap[i]? = w.heap[i]?) : RowIn w' v u r := by
  obtain ⟨A, c, h1, h2, h3, h4, h5⟩ := h
  exact ⟨A, c, h1, h2, h3, h4.same fun ad he hn => hs _ (ht A _ c ad h1 hn he), h5⟩
theorem RowAt.same (h : RowAt w u r) (ht : RowTo T u) (hs : ∀ i, T i → w'.heap[i]? = w.heap[i]?) : RowAt w' u r := by
  obtain ⟨A, c, h1, h2, h3, h4⟩ := h
  exact ⟨A, c, h1, h2, h3, h4.same fun ad he hn => hs _ (ht A _ c ad h1 hn he)⟩
theorem RowsT.same (h : RowsT w base T v rs) (hs : ∀ i, T i → w'.heap[i]? = w.heap[i]?) : RowsT w' base T v rs := by
  obtain ⟨vs, ho, hv, hr⟩ := h
  exact ⟨vs, ownsRow_same ho fun g hg => hs g (hv g hg), hv, fun j u r h1 h2 => ⟨(hr j u r h1 h2).1.same (hr j u r h1 h2).2 hs, (hr j u r h1 h2).2⟩⟩
theorem RowsT.below (h : RowsT w base T v rs) (hb : Below w.heap.size w w') : RowsT w' base T v rs := by
  obtain ⟨vs, ho, hv, hr⟩ := h
  refine ⟨vs, ownsRow_same ho fun g hg => hb.block g (World.ownsRow.lt ho g hg).2, hv, fun j u r h1 h2 => ⟨(hr j u r h1 h2).1.below hb, (hr j u r h1 h2).2⟩⟩
theorem RowsT.from_ (h : RowsT w base T v rs) {b : Nat} (hb : ∀ i, T i → b ≤ i) : RowsT w b T v rs := by
  obtain ⟨vs, ho, hv, hr⟩ := h
  refine ⟨vs, ⟨ho.1, ?_⟩, hv, hr⟩
  rcases ho.2 with h | ⟨g, cap, cur, hv', hg, r⟩
  · exact .inl h
  · exact .inr ⟨g, cap, cur, hv', hb g (hv g (by rw [hv']; rfl)), r⟩
/-- Rows behind rows. -/
theorem RowsT.cat {vs us : List Value} (ho' : w'.ownsRow base 34 1 v' (rs.length + rs'.length) (vs ++ us)) (hg : Grew w w' v v') (hl : vs.length = rs.length)
    (hv : ∀ g, v.ownBlock = some g → T g) (hr : ∀ (j : Nat) u r, vs[j]? = some u → rs[j]? = some r → RowIn w v u r ∧ RowTo T u)
    (hr' : ∀ (j : Nat) u r, us[j]? = some u → rs'[j]? = some r → RowIn w v u r ∧ RowTo T u) (hnew : ∀ g, w.heap.size ≤ g → g < w'.heap.size → T g) : RowsT w' base T v' (rs ++ rs') := by
  refine ⟨vs ++ us, by rw [List.length_append]; exact ho', fun g he => ?_, fun j u r h1 h2 => ?_⟩
  · rcases hg with ⟨e, _⟩ | ⟨_, g', e, hge⟩
    · exact hv g (by rw [← e]; exact he)
    · rw [e] at he; injection he with he; subst he; exact hnew _ hge (World.ownsRow.lt ho' _ e).2
  · by_cases hj : j < rs.length
    · rw [List.getElem?_append_left (by omega)] at h1 h2
      exact ⟨(hr j u r h1 h2).1.grew hg, (hr j u r h1 h2).2⟩
    · rw [List.getElem?_append_right (by omega)] at h1 h2
      rw [hl] at h1
      exact ⟨(hr' _ u r h1 h2).1.grew hg, (hr' _ u r h1 h2).2⟩
theorem RowsT.push {vs : List Value} (ho' : w'.ownsRow base 34 1 v' (rs.length + 1) (vs ++ [u])) (hg : Grew w w' v v') (hl : vs.length = rs.length)
    (hv : ∀ g, v.ownBlock = some g → T g) (hr : ∀ (j : Nat) u r, vs[j]? = some u → rs[j]? = some r → RowIn w v u r ∧ RowTo T u)
    (hn : RowIn w v u r) (ht : RowTo T u) (hnew : ∀ g, w.heap.size ≤ g → g < w'.heap.size → T g) : RowsT w' base T v' (rs ++ [r]) := by
  refine RowsT.cat (rs' := [r]) ho' hg hl hv hr (fun j u' r' h1 h2 => ?_) hnew
  cases j with
  | zero => simp at h1 h2; subst h1 h2; exact ⟨hn, ht⟩
  | succ j => simp at h1
end
end Go.Proofs.YtlakkhhibdcjaaaGreatDoor

namespace Go.Proofs.YtlakkhhibdcjaaaGreatDoor
open Go.RowKit Go.ChangeShapes

/-- A slice of slices of integers: it is nil; or it leads to a row of slices. -/
def IsRows (k : IntKind) (w : World) (a : Option Addr) (len cap : Nat) : Prop :=
  (a = none ∧ len = 0 ∧ cap = 0) ∨
  ∃ x, a = some x ∧ len ≤ cap ∧ cap ≤ maxLen ∧ ∀ r, r < cap → ∃ A L C Z, w.cell? (x.add r) = some (.slice A L C) ∧ IsRow k w A L C Z

theorem isRows_of {H : Type} {k : IntKind} {w : World} {a : Option Addr} {len cap : Nat} {x : DataW H × List MemPlace}
    (h : ((Value.slice a len cap).cells.toList = [.slice none 0 0] ∧ x = (.nil, [])) ∨
    ∃ (ad : Addr) (l c : Nat) (A : Nat → Option Addr) (L C : Nat → Nat) (Z : Nat → List Int), (Value.slice a len cap).cells.toList = [.slice (some ad) l c] ∧ 0 ≤ ad.block ∧ l ≤ c ∧ c ≤ maxLen ∧
      x = (.slice ((List.range l).map fun r => Go.Deep.intRow k (A r) (L r) (Z r)) ((List.range (c - l)).map fun j => Go.Deep.intRow k (A (l + j)) (L (l + j)) (Z (l + j))), MemPlace.row ad c ++ (List.range c).flatMap fun r => Go.Deep.intRowPlaces (A r) (Z r)) ∧
      ∀ r, r < c → w.cell? (ad.add r) = some (.slice (A r) (L r) (C r)) ∧ L r ≤ C r ∧ C r ≤ maxLen ∧ (Z r).length = C r ∧ (∀ n ∈ Z r, (Lit.int k n).wf = true) ∧ (A r = none → C r = 0) ∧
        ∀ a', A r = some a' → 0 ≤ a'.block ∧ ∀ i, i < C r → w.cell? (a'.add i) = some (.int k ((Z r).getD i 0))) : IsRows k w a len cap := by
  rcases h with ⟨hcs, _⟩ | ⟨ad, l, c, A, L, C, Z, hcs, _, hl, hm, _, hrow⟩
  · simp [Value.cells] at hcs
    exact .inl hcs
  · simp [Value.cells] at hcs
    obtain ⟨rfl, rfl, rfl⟩ := hcs
    refine .inr ⟨ad, rfl, hl, hm, fun r hr => ?_⟩
    obtain ⟨h1, h2, h3, h4, h5, h6, h7⟩ := hrow r hr
    refine ⟨A r, L r, C r, Z r, h1, ?_⟩
    cases hA : A r with
    | none =>
      have h0 := h6 hA
      exact .inl ⟨rfl, by omega, h0, List.eq_nil_of_length_eq_zero (by omega)⟩
    | some a' => exact .inr ⟨a', rfl, h2, h3, h4, fun i hi => (h7 a' hA).2 i (by omega), h5⟩

theorem rows_bytes {w : World} {a : Option Addr} {len cap : Nat} (h : IsRows .u8 w a len cap) :
    ∃ rs : List (List Nat), rs.length = len ∧ RdRows w a rs ∧ (∀ r ∈ rs, ∀ x ∈ r, x < 256) ∧ len ≤ cap ∧ cap ≤ maxLen := by
  rcases h with ⟨rfl, rfl, rfl⟩ | ⟨ad, rfl, hl, hm, hrow⟩
  · exact ⟨[], rfl, RdRows.nil, by simp, Nat.le_refl _, Nat.zero_le _⟩
  · have each : ∀ r, ∃ xs : List Nat, r < len → (∃ u, w.cell? (ad.add r) = some u ∧ RowAt w u xs) ∧ ∀ x ∈ xs, x < 256 := by
      intro r
      by_cases hr : r < len
      · obtain ⟨A, L, C, Z, hc, hi⟩ := hrow r (by omega)
        obtain ⟨xs, hrd, hxl, hx, h1, h2⟩ := row_bytes hi
        exact ⟨xs, fun _ => ⟨⟨_, hc, A, C, by rw [hxl], by rw [hxl]; exact h1, h2, by rw [hxl]; exact hrd⟩, hx⟩⟩
      · exact ⟨[], fun h => absurd h hr⟩
    let f := fun r => (each r).choose
    have hf : ∀ r, r < len → (∃ u, w.cell? (ad.add r) = some u ∧ RowAt w u (f r)) ∧ ∀ x ∈ f r, x < 256 := fun r hr => (each r).choose_spec hr
    refine ⟨(List.range len).map f, by simp, fun _ => ⟨ad, rfl, fun j r hj => ?_⟩, fun r hr => ?_, hl, hm⟩
    · rw [List.getElem?_map] at hj
      by_cases hjl : j < len
      · rw [List.getElem?_range hjl] at hj
        simp at hj
        subst hj
        exact (hf j hjl).1
      · simp [hjl] at hj
    · obtain ⟨j, hj, rfl⟩ := List.mem_map.1 hr
      exact (hf j (List.mem_range.1 hj)).2
end Go.Proofs.YtlakkhhibdcjaaaGreatDoor
