/-
  Accounts and books that came in: a slice of accounts as a list, an account, a book's three rows.
-/
import Derived.Test.YtbneohglblkmeaaDoorAcc
import Derived.Test.YtbneohglblkmeaaDoorRowArg
import Derived.Deep.Slices
import Derived.Lib.SmallJoins
namespace Go.Proofs.YtbneohglblkmeaaDoor
open Go Go.RowKit Go.ChangeShapes Go.WideShapes
set_option linter.unusedVariables false

theorem int_in {b : Int} (h : (Lit.int .i64 b).wf = true) : isInt b := by
  simp only [Lit.wf, Bool.and_eq_true, decide_eq_true_eq] at h
  have e1 : IntKind.i64.min = -9223372036854775808 := rfl
  have e2 : IntKind.i64.max = 9223372036854775807 := rfl
  unfold isInt
  omega
/-- A slice of accounts: it is nil; or it leads to a row of them, three cells each. -/
def IsAccs (w : World) (a : Option Addr) (len cap : Nat) : Prop :=
  (a = none ∧ len = 0 ∧ cap = 0) ∨
  ∃ x, a = some x ∧ len ≤ cap ∧ cap ≤ maxLen ∧ ∀ i, i < cap → ∃ z : Ac, z.fits ∧ AcAt w x i z

theorem accs_list {w : World} {a : Option Addr} {len cap : Nat} (h : IsAccs w a len cap) :
    ∃ zs : List Ac, zs.length = len ∧ RdA w a zs ∧ (∀ (j : Nat) z, zs[j]? = some z → z.fits) ∧ len ≤ cap ∧ cap ≤ maxLen ∧ (a = none → len = 0 ∧ cap = 0) := by
  rcases h with ⟨rfl, rfl, rfl⟩ | ⟨ad, rfl, hl, hm, hx⟩
  · exact ⟨[], rfl, fun h => by simp at h, by simp, Nat.le_refl _, Nat.zero_le _, fun _ => ⟨rfl, rfl⟩⟩
  · have each : ∀ j, ∃ z : Ac, j < len → z.fits ∧ AcAt w ad j z := by
      intro j
      by_cases hj : j < len
      · obtain ⟨z, h1, h2⟩ := hx j (by omega)
        exact ⟨z, fun _ => ⟨h1, h2⟩⟩
      · exact ⟨⟨0, 0, 0⟩, fun h => absurd h hj⟩
    have hget : ∀ (j : Nat) z, ((List.range len).map fun j => (each j).choose)[j]? = some z → z.fits ∧ AcAt w ad j z := by
      intro j z hj
      rw [List.getElem?_map] at hj
      by_cases hjl : j < len
      · rw [List.getElem?_range hjl] at hj
        simp at hj
        subst hj
        exact (each j).choose_spec hjl
      · simp [hjl] at hj
    exact ⟨(List.range len).map fun j => (each j).choose, by simp, fun _ => ⟨ad, rfl, fun j z hj => (hget j z hj).2⟩, fun j z hj => (hget j z hj).1, hl, hm, fun h => by cases h⟩

theorem size_acc3 : Tryd.prog.cellsOf 48 = 3 := by kernel_rfl
theorem size_int1 : Tryd.prog.cellsOf 3 = 1 := by kernel_rfl

set_option maxRecDepth 100000 in
theorem acc_of {H : Type} {enc : TypeId × Value → H} {w : World} {fuel : Nat} {ad : Addr} {i : Nat} {cs' : List Value} {x : DataW H × List MemPlace}
    (h1 : w.cells? 0 (ad.add (i * 3)) 3 = some cs') (h2 : DataW.trod enc Tryd.prog w 0 (fun _ => true) true fuel 48 cs' = some x) : ∃ z : Ac, z.fits ∧ AcAt w ad i z := by
  obtain ⟨_, hlen, hcell⟩ := World.cells?_some h1
  obtain ⟨xs, k, hk, _, _, hxl, hf⟩ := DataW.trod_struct Tryd.underlying48 h2
  match xs, hxl, cs', hlen with
  | [y0, y1, y2], _, [v0, v1, v2], _ =>
    have g0 := hf 0 _ rfl
    have g1 := hf 1 _ rfl
    have g2 := hf 2 _ rfl
    simp [size_int1] at g0 g1 g2
    have e0 := hcell 0 (by omega)
    have e1 := hcell 1 (by omega)
    have e2 := hcell 2 (by omega)
    rw [add_add] at e0 e1 e2
    simp at e0 e1 e2
    obtain ⟨c, hc, _, wc⟩ := DataW.trod_int Tryd.underlying3 g0
    obtain ⟨b, hb, _, wb⟩ := DataW.trod_int Tryd.underlying3 g1
    obtain ⟨l, hl, _, wl⟩ := DataW.trod_int Tryd.underlying3 g2
    simp at hc hb hl
    subst hc hb hl
    exact ⟨⟨c, b, l⟩, ⟨int_in wc, int_in wb, int_in wl⟩, ⟨e0, e1, e2⟩⟩

set_option maxRecDepth 100000 in
theorem isAccs_of {H : Type} {enc : TypeId × Value → H} {w : World} {fuel : Nat} {a : Option Addr} {len cap : Nat} {x : DataW H × List MemPlace}
    (h : DataW.trod enc Tryd.prog w 0 (fun _ => true) true fuel 29 (Value.slice a len cap).cells.toList = some x) : IsAccs w a len cap ∧ (cap = 0 ∨ ∃ es sp, x.1 = .slice es sp ∧ es.length + sp.length = cap) := by
  rcases Go.Deep.open_slice Tryd.underlying29 h with ⟨hcs, hx0⟩ | ⟨ad, l, c, m, n, D, Pl, hcs, _, hl, hm, hmm, hd, hx⟩
  · simp [Value.cells] at hcs
    exact ⟨.inl hcs, .inl hcs.2.2⟩
  · simp [Value.cells] at hcs
    obtain ⟨rfl, rfl, rfl⟩ := hcs
    simp only [if_true] at hmm
    subst hmm
    refine ⟨.inr ⟨ad, rfl, hl, hm, fun i hi => ?_⟩, .inr ⟨_, _, by rw [hd], by simp; omega⟩⟩
    obtain ⟨cs', h1, h2⟩ := hx i hi
    rw [size_acc3] at h1
    exact acc_of h1 h2

set_option maxRecDepth 100000 in
/-- An account that came in. -/
theorem acc_arg {H : Type} {enc : TypeId × Value → H} {w : World} {base : Nat} {r : Reach} {v : Value} {d : DataW H} {p : List MemPlace} (hv : Value.okWide Tryd.prog w r base 48 v)
    (h : DataW.Trod enc Tryd.prog w 0 (fun _ => true) true 48 v d p) : ∃ z : Ac, v = .agg #[.int .i64 z.cur, .int .i64 z.bal, .int .i64 z.held] ∧ z.fits := by
  obtain ⟨v0, v1, v2, y0, y1, y2, n, rfl, _, _, h0, h1, h2⟩ := Go.Joins.open_agg3 Tryd.underlying48 (by kernel_rfl) size_acc3 hv h
  obtain ⟨c, hc, _, wc⟩ := DataW.trod_int Tryd.underlying3 h0
  obtain ⟨b, hb, _, wb⟩ := DataW.trod_int Tryd.underlying3 h1
  obtain ⟨l, hl, _, wl⟩ := DataW.trod_int Tryd.underlying3 h2
  simp at hc hb hl
  subst hc hb hl
  exact ⟨⟨c, b, l⟩, rfl, int_in wc, int_in wb, int_in wl⟩

theorem row_u32 {w : World} {a : Option Addr} {len cap : Nat} {zs : List Int} (h : IsRow .u32 w a len cap zs) :
    ∃ xs : List Nat, Rd .u32 w a len (ints xs) ∧ xs.length = len ∧ (∀ x ∈ xs, x < 4294967296) ∧ len ≤ cap ∧ cap ≤ maxLen := by
  rcases h with ⟨rfl, rfl, rfl, rfl⟩ | ⟨x, rfl, hl, hm, hz, hc, hw⟩
  · exact ⟨[], Rd.nil, rfl, by simp, Nat.le_refl _, Nat.zero_le _⟩
  · have hnn : ∀ z ∈ zs, 0 ≤ z ∧ z ≤ 4294967295 := by
      intro z hz
      have h := hw z hz
      simp only [Lit.wf, Bool.and_eq_true, decide_eq_true_eq] at h
      have e1 : IntKind.u32.min = 0 := rfl
      have e2 : IntKind.u32.max = 4294967295 := rfl
      omega
    have hi : ints ((zs.take len).map Int.toNat) = zs.take len := by
      unfold ints
      rw [List.map_map]
      conv => rhs; rw [← List.map_id (zs.take len)]
      apply List.map_congr_left
      intro z hz
      have := hnn z (List.mem_of_mem_take hz)
      simp
      omega
    have hll : (zs.take len).length = len := by rw [List.length_take]; omega
    refine ⟨(zs.take len).map Int.toNat, ?_, by rw [List.length_map, hll], ?_, hl, hm⟩
    · rw [hi]
      refine ⟨hll, fun _ => ⟨x, rfl, fun j hj => ?_⟩⟩
      rw [hc j (by omega)]
      simp [List.getD, hj]
    · intro y hy
      obtain ⟨z, hz, rfl⟩ := List.mem_map.1 hy
      have := hnn z (List.mem_of_mem_take hz)
      omega

/-- A book: three rows of numbers. -/
structure BookAt (w : World) (v : Value) : Prop where
  form : ∃ (CA HA LA : Option Addr) (cl cc hl hc ll lc : Nat) (cs hs ls : List Nat), v = .agg #[.slice CA cl cc, .slice HA hl hc, .slice LA ll lc] ∧
    Rd .u8 w CA cl (ints cs) ∧ Rd .u32 w HA hl (ints hs) ∧ Rd .u8 w LA ll (ints ls) ∧ (∀ x ∈ cs, x < 256) ∧ (∀ x ∈ hs, x < 4294967296) ∧ (∀ x ∈ ls, x < 256) ∧
    cl ≤ 9223372036854775807 ∧ hl ≤ 9223372036854775807 ∧ ll ≤ 9223372036854775807

theorem row_of {H : Type} {enc : TypeId × Value → H} {w : World} {fuel : Nat} {k : IntKind} {t e : TypeId} {v : Value} {x : DataW H × List MemPlace} (ht : Tryd.prog.underlying t = some (.slice e)) (he : Tryd.prog.underlying e = some (.int k)) (h1 : Tryd.prog.cellsOf e = 1)
    (h : DataW.trod enc Tryd.prog w 0 (fun _ => true) true fuel t [v] = some x) : ∃ a len cap zs, v = .slice a len cap ∧ IsRow k w a len cap zs := by
  rcases open_ints ht he h1 h with ⟨h5, _⟩ | ⟨a', l', c', zs, h5, _, hl', hm', hz, _, hcell', hwz⟩
  · simp at h5
    exact ⟨none, 0, 0, [], h5, .inl ⟨rfl, rfl, rfl, rfl⟩⟩
  · simp at h5
    exact ⟨some a', l', c', zs, h5, .inr ⟨_, rfl, hl', hm', by simpa using hz, hcell', hwz⟩⟩

set_option maxRecDepth 100000 in
theorem book_arg {H : Type} {enc : TypeId × Value → H} {w : World} {base : Nat} {r : Reach} {v : Value} {d : DataW H} {p : List MemPlace} (hv : Value.okWide Tryd.prog w r base 25 v)
    (h : DataW.Trod enc Tryd.prog w 0 (fun _ => true) true 25 v d p) : BookAt w v := by
  obtain ⟨v0, v1, v2, y0, y1, y2, n, rfl, _, _, h0, h1, h2⟩ := Go.Joins.open_agg3 Tryd.underlying25 (by kernel_rfl) (by kernel_rfl) hv h
  obtain ⟨CA, cl, cc, zc, rfl, rc⟩ := row_of Tryd.underlying22 Tryd.underlying5 (by kernel_rfl) h0
  obtain ⟨HA, hl, hc, zh, rfl, rh⟩ := row_of Tryd.underlying23 Tryd.underlying62 (by kernel_rfl) h1
  obtain ⟨LA, ll, lc, zl, rfl, rl⟩ := row_of Tryd.underlying22 Tryd.underlying5 (by kernel_rfl) h2
  obtain ⟨cs, c1, c2, c3, c4, c5⟩ := row_bytes rc
  obtain ⟨hs, g1, g2, g3, g4, g5⟩ := row_u32 rh
  obtain ⟨ls, l1, l2, l3, l4, l5⟩ := row_bytes rl
  unfold maxLen at c5 g5 l5
  exact ⟨⟨CA, HA, LA, cl, cc, hl, hc, ll, lc, cs, hs, ls, rfl, c1, g1, l1, c3, g3, l3, by omega, by omega, by omega⟩⟩
end Go.Proofs.YtbneohglblkmeaaDoor
