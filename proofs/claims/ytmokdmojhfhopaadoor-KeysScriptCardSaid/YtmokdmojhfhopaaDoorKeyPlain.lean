/-
  What is known: elements as plain data; which key lies where; what Ask, Put and Tell come to.
-/
import Derived.Test.YtmokdmojhfhopaaDoorShape
import Derived.Test.YtmokdmojhfhopaaDoorRq
import Derived.Test.YtmokdmojhfhopaaDoorProg
namespace Go.Proofs.YtmokdmojhfhopaaDoor
open Go Go.RowKit
set_option linter.unusedVariables false

/-- An element: a request, a reply (its error and its ID), and whether it was told. -/
structure Kn where
  rq : Rq
  err : Int
  id : Int
  told : Bool
deriving DecidableEq

def Kn.cells (k : Kn) : List Value := [.int .i64 k.rq.key, .int .i64 k.rq.op, .int .i64 k.rq.a, .int .i64 k.rq.b, .int .i64 k.rq.amt, .int .i64 k.rq.legs, .int .i64 k.rq.til, .int .i64 k.err, .int .i64 k.id, .bool k.told]
def Kn.zero : Kn := ⟨Rq.zero, 0, 0, false⟩
theorem info_known : (Tryd.prog.info? 39).map (fun i => (i.zero, i.size, i.bytes)) = some (some (.agg #[.int .i64 0, .int .i64 0, .int .i64 0, .int .i64 0, .int .i64 0, .int .i64 0, .int .i64 0, .int .i64 0, .int .i64 0, .bool false]), 10, 80) := by kernel_rfl
theorem size_known : (Tryd.prog.info? 39).map (·.size) = some 10 := by kernel_rfl
def known : Shape Kn := ⟨10, 39, Kn.cells, by omega, fun _ => rfl, fun a u hu => by
  simp only [Kn.cells, List.mem_cons, List.not_mem_nil, or_false] at hu
  rcases hu with rfl | rfl | rfl | rfl | rfl | rfl | rfl | rfl | rfl | rfl <;> rfl⟩

/-- The cells of the element at j. -/
theorem kn_cells {w : World} {ad : Addr} {j : Nat} {k : Kn} (h : AtS known w ad j k) :
    w.cell? (ad.add (j * 10)) = some (.int .i64 k.rq.key) ∧ w.cell? ⟨(ad.add (j * 10)).block, (ad.add (j * 10)).off + 1, none⟩ = some (.int .i64 k.rq.op) ∧ w.cell? ⟨(ad.add (j * 10)).block, (ad.add (j * 10)).off + 2, none⟩ = some (.int .i64 k.rq.a) ∧
    w.cell? ⟨(ad.add (j * 10)).block, (ad.add (j * 10)).off + 3, none⟩ = some (.int .i64 k.rq.b) ∧ w.cell? ⟨(ad.add (j * 10)).block, (ad.add (j * 10)).off + 4, none⟩ = some (.int .i64 k.rq.amt) ∧ w.cell? ⟨(ad.add (j * 10)).block, (ad.add (j * 10)).off + 5, none⟩ = some (.int .i64 k.rq.legs) ∧
    w.cell? ⟨(ad.add (j * 10)).block, (ad.add (j * 10)).off + 6, none⟩ = some (.int .i64 k.rq.til) ∧ w.cell? ⟨(ad.add (j * 10)).block, (ad.add (j * 10)).off + 7, none⟩ = some (.int .i64 k.err) ∧ w.cell? ⟨(ad.add (j * 10)).block, (ad.add (j * 10)).off + 8, none⟩ = some (.int .i64 k.id) ∧
    w.cell? ⟨(ad.add (j * 10)).block, (ad.add (j * 10)).off + 9, none⟩ = some (.bool k.told) := by
  refine ⟨h 0 _ rfl, ?_, ?_, ?_, ?_, ?_, ?_, ?_, ?_, ?_⟩ <;> rw [← add_next _ _ _ (by omega)]
  · exact h 1 _ rfl
  · exact h 2 _ rfl
  · exact h 3 _ rfl
  · exact h 4 _ rfl
  · exact h 5 _ rfl
  · exact h 6 _ rfl
  · exact h 7 _ rfl
  · exact h 8 _ rfl
  · exact h 9 _ rfl

/-- Where a key lies first. -/
def findN (ks : List Kn) (key : Int) : Option Nat := ks.findIdx? fun a => decide (a.rq.key = key)
/-- The same as an int. -/
def fi : Option Nat → Int
  | none => -1
  | some k => (k : Int)

section
variable {ks : List Kn} {key : Int} {i : Nat} {a : Kn}
theorem find_none : findN ks key = none ↔ ∀ (j : Nat) a, ks[j]? = some a → a.rq.key ≠ key := by
  unfold findN
  rw [List.findIdx?_eq_none_iff]
  constructor
  · intro h j a ha
    have := h a (List.mem_of_getElem? ha)
    simpa using this
  · intro h a ha
    obtain ⟨j, hj, rfl⟩ := List.getElem_of_mem ha
    have := h j _ (List.getElem?_eq_getElem hj)
    simpa using this
theorem find_some : findN ks key = some i ↔ (∃ a, ks[i]? = some a ∧ a.rq.key = key) ∧ ∀ (j : Nat) a, j < i → ks[j]? = some a → a.rq.key ≠ key := by
  unfold findN
  rw [List.findIdx?_eq_some_iff_getElem]
  constructor
  · rintro ⟨h, h1, h2⟩
    refine ⟨⟨_, List.getElem?_eq_getElem h, by simpa using h1⟩, fun j a hj ha => ?_⟩
    obtain ⟨hl, rfl⟩ := List.getElem?_eq_some_iff.1 ha
    simpa using h2 j hj
  · rintro ⟨⟨a, ha, hk⟩, h2⟩
    obtain ⟨hl, rfl⟩ := List.getElem?_eq_some_iff.1 ha
    exact ⟨hl, by simpa using hk, fun j hj => by simpa using h2 j _ hj (List.getElem?_eq_getElem (by omega))⟩
theorem find_lt (h : findN ks key = some i) : i < ks.length := by
  obtain ⟨⟨a, ha, _⟩, _⟩ := find_some.1 h
  exact (List.getElem?_eq_some_iff.1 ha).1
theorem find_get (h : findN ks key = some i) : ∃ a, ks[i]? = some a ∧ a.rq.key = key := (find_some.1 h).1
/-- One element more. -/
theorem find_snoc (b : Kn) : findN (ks ++ [b]) key = match findN ks key with | some i => some i | none => if b.rq.key = key then some ks.length else none := by
  cases h : findN ks key with
  | some i =>
    dsimp only
    obtain ⟨⟨a, ha, hk⟩, h2⟩ := find_some.1 h
    have hl := find_lt h
    refine find_some.2 ⟨⟨a, by rw [List.getElem?_append_left hl]; exact ha, hk⟩, fun j a' hj ha' => h2 j a' hj ?_⟩
    rw [List.getElem?_append_left (by omega)] at ha'
    exact ha'
  | none =>
    dsimp only
    have h0 := find_none.1 h
    by_cases hb : b.rq.key = key
    · rw [if_pos hb]
      refine find_some.2 ⟨⟨b, by simp, hb⟩, fun j a hj ha => h0 j a ?_⟩
      rw [List.getElem?_append_left hj] at ha
      exact ha
    · rw [if_neg hb]
      refine find_none.2 fun j a ha => ?_
      by_cases hj : j < ks.length
      · rw [List.getElem?_append_left hj] at ha
        exact h0 j a ha
      · have hj' : j = ks.length := by
          have := (List.getElem?_eq_some_iff.1 ha).1
          simp at this
          omega
        subst hj'
        simp at ha
        subst ha
        exact hb
/-- One element changed, but for its key. -/
theorem find_set {b : Kn} (ha : ks[i]? = some a) (hb : b.rq.key = a.rq.key) : findN (ks.set i b) key = findN ks key := by
  have hl := (List.getElem?_eq_some_iff.1 ha).1
  have hget : ∀ (j : Nat) c, (ks.set i b)[j]? = some c → ∃ d, ks[j]? = some d ∧ d.rq.key = c.rq.key := by
    intro j c hc
    by_cases hj : i = j
    · subst hj
      rw [List.getElem?_set_self hl] at hc
      injection hc with hc
      subst hc
      exact ⟨a, ha, hb.symm⟩
    · rw [List.getElem?_set_ne hj] at hc
      exact ⟨c, hc, rfl⟩
  have hget' : ∀ (j : Nat) d, ks[j]? = some d → ∃ c, (ks.set i b)[j]? = some c ∧ d.rq.key = c.rq.key := by
    intro j d hd
    by_cases hj : i = j
    · subst hj
      rw [ha] at hd
      injection hd with hd
      subst hd
      exact ⟨b, List.getElem?_set_self hl, hb.symm⟩
    · exact ⟨d, by rw [List.getElem?_set_ne hj]; exact hd, rfl⟩
  cases h : findN ks key with
  | none =>
    refine find_none.2 fun j c hc => ?_
    obtain ⟨d, h1, h2⟩ := hget j c hc
    rw [← h2]
    exact find_none.1 h j d h1
  | some m =>
    obtain ⟨⟨d, h1, h2⟩, h3⟩ := find_some.1 h
    obtain ⟨c, h4, h5⟩ := hget' m d h1
    refine find_some.2 ⟨⟨c, h4, by rw [← h5]; exact h2⟩, fun j c' hj hc' => ?_⟩
    obtain ⟨d', h6, h7⟩ := hget j c' hc'
    rw [← h7]
    exact h3 j d' hj h6
end

/-- The element at a place. -/
def knAt (ks : List Kn) (i : Nat) : Kn := ks.getD i Kn.zero
theorem knAt_of {ks : List Kn} {i : Nat} {a : Kn} (h : ks[i]? = some a) : knAt ks i = a := by simp [knAt, List.getD, h]

/-- What Ask tells: an error, an ID, and whether the key is known. -/
def askR (ks : List Kn) (r : Rq) : Int × Int × Bool :=
  match findN ks r.key with
  | none => (0, 0, false)
  | some i => if (knAt ks i).rq = r then (if (knAt ks i).told = true then ((knAt ks i).err, (knAt ks i).id, true) else (10, 0, true)) else (5, 0, true)
/-- Put's error, and its elements. -/
def putE (ks : List Kn) (r : Rq) : Int := if findN ks r.key = none then (if 256 ≤ ks.length then 7 else 0) else 5
def putL (ks : List Kn) (r : Rq) : List Kn := if putE ks r = 0 then ks ++ [⟨r, 0, 0, false⟩] else []
/-- Tell's error, and its elements. -/
def tellE (ks : List Kn) (key : Int) : Int :=
  match findN ks key with
  | none => 2
  | some i => if (knAt ks i).told = true then 6 else 0
def tellL (ks : List Kn) (key e x : Int) : List Kn :=
  match findN ks key with
  | none => []
  | some i => if (knAt ks i).told = true then [] else ks.set i ⟨(knAt ks i).rq, e, x, true⟩
/-- The keys that are open. -/
def openL (ks : List Kn) : List Int := (ks.filter fun a => !a.told).map fun a => a.rq.key
theorem openL_snoc (ks : List Kn) (b : Kn) : openL (ks ++ [b]) = openL ks ++ (if b.told = true then [] else [b.rq.key]) := by
  unfold openL
  rw [List.filter_append, List.map_append]
  cases hb : b.told <;> simp [hb]
theorem openL_len (ks : List Kn) : (openL ks).length ≤ ks.length := by
  unfold openL
  rw [List.length_map]
  exact List.length_filter_le _ _
theorem take_next {ks : List Kn} {k : Nat} {a : Kn} (h : ks[k]? = some a) : ks.take (k + 1) = ks.take k ++ [a] := by
  obtain ⟨hl, rfl⟩ := List.getElem?_eq_some_iff.1 h
  rw [List.take_succ_eq_append_getElem hl]
end Go.Proofs.YtmokdmojhfhopaaDoor
