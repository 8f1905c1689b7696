/-
  A slice of Acts that came in, as a list; what an Act's bytes, and its records, are.
-/
import Derived.Test.YtlakkhhibdcjaaaGreatDoorLow
import Derived.Test.YtlakkhhibdcjaaaGreatDoorFrame
import Derived.Deep.Slices
namespace Go.Proofs.YtlakkhhibdcjaaaGreatDoor
open Go Go.RowKit Go.ChangeShapes Go.WideShapes
set_option linter.unusedVariables false

/-- A slice of Acts: it is nil; or it leads to a row of them, three cells each. -/
def IsActs (w : World) (a : Option Addr) (len cap : Nat) : Prop :=
  (a = none ∧ len = 0 ∧ cap = 0) ∨
  ∃ x, a = some x ∧ len ≤ cap ∧ cap ≤ maxLen ∧ ∀ i, i < cap → ∃ op RA RL RC BA BL BC Z, w.cell? (x.add (i * 3)) = some (.int .u8 op) ∧ (Lit.int .u8 op).wf = true ∧
    w.cell? (x.add (i * 3 + 1)) = some (.slice RA RL RC) ∧ IsRows .u8 w RA RL RC ∧ w.cell? (x.add (i * 3 + 2)) = some (.slice BA BL BC) ∧ IsRow .u8 w BA BL BC Z

set_option maxRecDepth 100000 in
theorem isActs_of {H : Type} {enc : TypeId × Value → H} {w : World} {fuel : Nat} {a : Option Addr} {len cap : Nat} {x : DataW H × List MemPlace}
    (h : DataW.trod enc Tryz.prog w 0 (fun _ => true) true fuel 22 (Value.slice a len cap).cells.toList = some x) : IsActs w a len cap := by
  rcases Go.Deep.open_slice Tryz.underlying22 h with ⟨hcs, _⟩ | ⟨ad, l, c, m, n, D, Pl, hcs, _, hl, hm, hmm, _, hx⟩
  · simp [Value.cells] at hcs
    exact .inl hcs
  · simp [Value.cells] at hcs
    obtain ⟨rfl, rfl, rfl⟩ := hcs
    simp only [if_true] at hmm
    subst hmm
    refine .inr ⟨ad, rfl, hl, hm, fun i hi => ?_⟩
    obtain ⟨cs', h1, h2⟩ := hx i hi
    have hc3 : Tryz.prog.cellsOf 36 = 3 := by kernel_rfl
    have k0 : Tryz.prog.cellsOf 5 = 1 := by kernel_rfl
    have k1 : Tryz.prog.cellsOf 33 = 1 := by kernel_rfl
    have k2 : Tryz.prog.cellsOf 34 = 1 := by kernel_rfl
    rw [hc3] at h1
    obtain ⟨_, hlen, hcell⟩ := World.cells?_some h1
    obtain ⟨xs, k, hk, _, _, hxl, hf⟩ := DataW.trod_struct Tryz.underlying36 h2
    match xs, hxl, cs', hlen with
    | [y0, y1, y2], _, [v0, v1, v2], _ =>
      have g0 := hf 0 _ rfl
      have g1 := hf 1 _ rfl
      have g2 := hf 2 _ rfl
      simp [k0, k1, k2] at g0 g1 g2
      have e0 := hcell 0 (by omega)
      have e1 := hcell 1 (by omega)
      have e2 := hcell 2 (by omega)
      rw [add_add] at e0 e1 e2
      simp at e0 e1 e2
      obtain ⟨op, hop, _, hwf⟩ := DataW.trod_int Tryz.underlying5 g0
      simp at hop
      have hr : ∃ RA RL RC, v1 = .slice RA RL RC ∧ IsRows .u8 w RA RL RC := by
        have h3 := Go.Deep.open_int_rows Tryz.underlying33 Tryz.underlying34 Tryz.underlying5 k2 k0 g1
        have h4 : ∃ RA RL RC, v1 = .slice RA RL RC := by
          rcases h3 with ⟨h5, _⟩ | ⟨a', l', c', _, _, _, _, h5, _⟩
          · simp at h5; exact ⟨_, _, _, h5⟩
          · simp at h5; exact ⟨_, _, _, h5⟩
        obtain ⟨RA, RL, RC, rfl⟩ := h4
        exact ⟨RA, RL, RC, rfl, isRows_of h3⟩
      have hb : ∃ BA BL BC Z, v2 = .slice BA BL BC ∧ IsRow .u8 w BA BL BC Z := by
        rcases open_ints Tryz.underlying34 Tryz.underlying5 k0 g2 with ⟨h5, _⟩ | ⟨a', l', c', zs, h5, _, hl', hm', hz, _, hcell', hwz⟩
        · simp at h5
          exact ⟨none, 0, 0, [], h5, .inl ⟨rfl, rfl, rfl, rfl⟩⟩
        · simp at h5
          exact ⟨some a', l', c', zs, h5, .inr ⟨_, rfl, hl', hm', by simpa using hz, hcell', hwz⟩⟩
      obtain ⟨RA, RL, RC, rfl, hr⟩ := hr
      obtain ⟨BA, BL, BC, Z, rfl, hb⟩ := hb
      subst hop
      exact ⟨op, RA, RL, RC, BA, BL, BC, Z, e0, hwf, e1, hr, e2, hb⟩

/-- An Act as it is told. -/
structure AV where
  op : Nat
  rows : List (List Nat)
  bytes : List Nat
/-- What an Act's cells are. -/
structure ActAt (w : World) (ad : Addr) (j : Nat) (v : AV) (RA : Option Addr) (RC : Nat) (BA : Option Addr) (BC : Nat) : Prop where
  c0 : w.cell? (ad.add (j * 3)) = some (.int .u8 (v.op : Int))
  c1 : w.cell? (ad.add (j * 3 + 1)) = some (.slice RA v.rows.length RC)
  c2 : w.cell? (ad.add (j * 3 + 2)) = some (.slice BA v.bytes.length BC)
  rows : RdRows w RA v.rows
  bytes : Rd .u8 w BA v.bytes.length (ints v.bytes)
  rlt : ∀ r ∈ v.rows, ∀ x ∈ r, x < 256
  blt : ∀ x ∈ v.bytes, x < 256
  op_ : v.op < 256
  rc : v.rows.length ≤ RC ∧ RC ≤ maxLen
  bc : v.bytes.length ≤ BC ∧ BC ≤ maxLen
def RdActs (w : World) (A : Option Addr) (vs : List AV) : Prop := 0 < vs.length → ∃ ad, A = some ad ∧ ∀ (j : Nat) v, vs[j]? = some v → ∃ RA RC BA BC, ActAt w ad j v RA RC BA BC

theorem acts_list {w : World} {a : Option Addr} {len cap : Nat} (h : IsActs w a len cap) : ∃ vs : List AV, vs.length = len ∧ RdActs w a vs ∧ len ≤ cap ∧ cap ≤ maxLen := by
  rcases h with ⟨rfl, rfl, rfl⟩ | ⟨ad, rfl, hl, hm, hx⟩
  · exact ⟨[], rfl, fun h => by simp at h, Nat.le_refl _, Nat.zero_le _⟩
  · have each : ∀ j, ∃ v : AV, j < len → ∃ RA RC BA BC, ActAt w ad j v RA RC BA BC := by
      intro j
      by_cases hj : j < len
      · obtain ⟨op, RA, RL, RC, BA, BL, BC, Z, c0, hw0, c1, hr, c2, hb⟩ := hx j (by omega)
        obtain ⟨o, rfl, ho⟩ := u8_nat hw0
        obtain ⟨rs, hrl, hrd, hrw, h1, h2⟩ := rows_bytes hr
        obtain ⟨bs, hbd, hbl, hbw, h3, h4⟩ := row_bytes hb
        exact ⟨⟨o, rs, bs⟩, fun _ => ⟨RA, RC, BA, BC, ⟨c0, by simp only [hrl]; exact c1, by simp only [hbl]; exact c2, hrd, by simp only [hbl]; exact hbd, hrw, hbw, ho, by simp only [hrl]; exact ⟨h1, h2⟩, by simp only [hbl]; exact ⟨h3, h4⟩⟩⟩⟩
      · exact ⟨⟨0, [], []⟩, fun h => absurd h hj⟩
    refine ⟨(List.range len).map fun j => (each j).choose, by simp, fun _ => ⟨ad, rfl, fun j v hj => ?_⟩, hl, hm⟩
    rw [List.getElem?_map] at hj
    by_cases hjl : j < len
    · rw [List.getElem?_range hjl] at hj
      simp at hj
      subst hj
      exact (each j).choose_spec hjl
    · simp [hjl] at hj

theorem ActAt.below {w w' : World} {ad : Addr} {j : Nat} {v : AV} {RA BA : Option Addr} {RC BC : Nat} (h : ActAt w ad j v RA RC BA BC) (hb : Below w.heap.size w w') : ActAt w' ad j v RA RC BA BC :=
  ⟨by rw [hb.cell (World.block_lt_of_cell? w _ h.c0)]; exact h.c0, by rw [hb.cell (World.block_lt_of_cell? w _ h.c1)]; exact h.c1, by rw [hb.cell (World.block_lt_of_cell? w _ h.c2)]; exact h.c2, h.rows.below hb, h.bytes.below hb, h.rlt, h.blt, h.op_, h.rc, h.bc⟩

theorem row_slice : Tryz.prog.underlying 33 = some (.slice (Tryz.prog.elem 33)) := by kernel_rfl
theorem row_size (W : World) : (sizeOf (Tryz.prog.elem 33)).run Tryz.prog W = .ok 1 W := by kernel_rfl
theorem run_frontR (W : World) (A : Option Addr) (n c k : Nat) (hk : k ≤ c) : (Instr.sliceAt 33 (.slice A n c) none (some (.int .i64 (k : Int))) none).run Tryz.prog W = .ok (.slice A k c) W := by
  rw [run_sliceAt_slice _ _ _ _ _ _ row_slice, run_slice_h W _ _ _ _ row_slice _ _ (by omega) (by omega), row_size]
  have e : (A.map fun x => x.add 0) = A := by cases A <;> simp [Addr.add]
  simp [Result.andThen, sliced, e]
theorem act_slice : Tryz.prog.underlying 22 = some (.slice (Tryz.prog.elem 22)) := by kernel_rfl
theorem act_size (W : World) : (sizeOf (Tryz.prog.elem 22)).run Tryz.prog W = .ok 3 W := by kernel_rfl
theorem run_frontA (W : World) (A : Option Addr) (n c k : Nat) (hk : k ≤ c) : (Instr.sliceAt 22 (.slice A n c) none (some (.int .i64 (k : Int))) none).run Tryz.prog W = .ok (.slice A k c) W := by
  rw [run_sliceAt_slice _ _ _ _ _ _ act_slice, run_slice_h W _ _ _ _ act_slice _ _ (by omega) (by omega), act_size]
  have e : (A.map fun x => x.add 0) = A := by cases A <;> simp [Addr.add]
  simp [Result.andThen, sliced, e]

theorem RdRows.front {w : World} {A : Option Addr} {rs : List (List Nat)} (h : RdRows w A rs) (k : Nat) : RdRows w A (rs.take k) := fun hn => by
  obtain ⟨ad, e, hc⟩ := h (by rw [List.length_take] at hn; omega)
  refine ⟨ad, e, fun j r hj => hc j r ?_⟩
  rw [List.getElem?_take] at hj
  split at hj
  · exact hj
  · cases hj

/-- An Act's records: up to four, each of up to 500 bytes. -/
def AV.few (v : AV) : List (List Nat) := Go.Proofs.YtlakkhhibdcjaaaGreatDoor.few (v.rows.take 4)
theorem AV.few_len (v : AV) : v.few.length ≤ 4 := by simp [AV.few, Go.Proofs.YtlakkhhibdcjaaaGreatDoor.few]; omega
theorem AV.few_row (v : AV) : ∀ r ∈ v.few, r.length ≤ 500 := Go.Proofs.YtlakkhhibdcjaaaGreatDoor.few_row _
/-- An Act's bytes: up to 500. -/
def AV.bs (v : AV) : List Nat := v.bytes.take 500
theorem AV.bs_len (v : AV) : v.bs.length ≤ 500 := by simp [AV.bs]; omega

set_option maxRecDepth 100000 in
theorem bytes_any (w : World) (op : Value) (RV : Value) (BA : Option Addr) (bl BC m : Nat) (hm : m = min bl 500) (hc : bl ≤ BC) :
    Calls Tryz.prog 12 #[.agg #[op, RV, .slice BA bl BC]] w fun e w' => e = .returned (.slice BA m BC) ∧ Below w.heap.size w w' := by
  have hmin := min2_ok (P := Tryz.prog) bl 500 m (bl : Int) 500 rfl rfl hm
  have hf1 := fun W => run_front W BA bl BC m (by omega)
  clear hm
  go_enter Tryz.func12, Tryz.ntmps12
  go_wp2
  go_ret
  exact ⟨rfl, (Below.refl _ _).alloc (Nat.le_refl _) _⟩

end Go.Proofs.YtlakkhhibdcjaaaGreatDoor
