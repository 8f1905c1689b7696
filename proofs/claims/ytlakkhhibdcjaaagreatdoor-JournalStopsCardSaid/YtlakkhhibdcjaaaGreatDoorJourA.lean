/-
  errors.Is of an error that is nil or an api.Errno, at an api.Errno, by its contracts: it tells whether they are the same number; nothing changes. After the kit's worked example Sentry.
  journal.cloneAll by its contract: the same rows, in new memory.
  What a journal is in memory: its struct's block, its base, its records; what keeps it so; what it hands out.
  Files as a rising list: what is looked up, put, taken out; what a snapshot is of its bytes.
  readSnapshot, removeOthers, readRecords and Open by their contracts, of a disk that is neither armed nor stopped.
  removeOthers, readRecords and Open by their contracts, of a disk that is neither armed nor stopped.
  Open by its contract, of a disk that is neither armed nor stopped.
  write and drop of a journal by their contracts, of a disk in whatever state.
-/
import Derived.Test.YtlakkhhibdcjaaaGreatDoorProg
import Derived.WalkKit
import Derived.LaidEql
import Derived.Stop.Asserts
import Derived.Lib.IfaceEq
import Derived.RowKitTokens
import Derived.Below
import Derived.Test.YtlakkhhibdcjaaaGreatDoorLow
import Derived.LoopTactic
import Derived.Test.YtlakkhhibdcjaaaGreatDoorDiskB
import Derived.Test.YtlakkhhibdcjaaaGreatDoorFrame
import Derived.Test.YtlakkhhibdcjaaaGreatDoorVar
namespace Go.Proofs.YtlakkhhibdcjaaaGreatDoor
open Go.RowKit Go.Extern.Stop Go.Stop Go.Extern

theorem Tryz.isTypeOf (v : Value) (w : World) : (Extern.ReflectliteType.typeOf #[.iface 39 v]).run Tryz.prog w = .ok (.iface 122 (.agg #[.pointer (some ⟨1, 39, none⟩)])) w := by kernel_rfl
theorem Tryz.isComparable (w : World) : ((Extern.ReflectliteType.method fun t => do Extern.Rtype.noPackHeld "Comparable" t; pure (Value.bool (← typeInfo t).comparable)) #[.agg #[.pointer (some ⟨1, 39, none⟩)]]).run Tryz.prog w = .ok (.bool true) w := by kernel_rfl
theorem Tryz.isMethodComparable (v : Value) (w : World) : (Go.method 292 122 v "Comparable").run Tryz.prog w = .ok (124, v) w := by kernel_rfl
theorem Tryz.isComp : (Tryz.prog.info? 39).map (·.comparable) = some true := by kernel_rfl
theorem Tryz.noIs (v : Value) (xT : TypeId) (w : World) : (Instr.typeAssert (.iface 39 v) xT 139 true).run Tryz.prog w = .ok (.tuple #[.nilIface, .bool false]) w := run_typeAssert_lacksB Tryz.underlying139 (by kernel_rfl) (by kernel_rfl) v xT w
theorem Tryz.noUnwrap (v : Value) (xT : TypeId) (w : World) : (Instr.typeAssert (.iface 39 v) xT 129 true).run Tryz.prog w = .ok (.tuple #[.nilIface, .bool false]) w := run_typeAssert_lacksB Tryz.underlying129 (by kernel_rfl) (by kernel_rfl) v xT w
theorem Tryz.noUnwraps (v : Value) (xT : TypeId) (w : World) : (Instr.typeAssert (.iface 39 v) xT 130 true).run Tryz.prog w = .ok (.tuple #[.nilIface, .bool false]) w := run_typeAssert_lacksB Tryz.underlying130 (by kernel_rfl) (by kernel_rfl) v xT w

/-- errors.Is(nil, x). -/
theorem is_nil (n : Int) (w : World) :
    Calls Tryz.prog 56 #[.nilIface, .iface 39 (.int .i64 n)] w fun e w' => e = .returned (.bool false) ∧ w = w' := by
  have hn := run_eql_iface_nil_left (P := Tryz.prog) w 39 (.int .i64 n) Tryz.underlying28
  go_enter Tryz.func56, Tryz.ntmps56
  go_wp2
  go_ret
  exact ⟨rfl, rfl⟩

set_option maxHeartbeats 1000000 in
/-- errors.Is(x, y) of two numbers. -/
theorem is_errno (m n : Int) (t : Bool) (ht : (m == n) = t) (w : World) :
    Calls Tryz.prog 56 #[.iface 39 (.int .i64 m), .iface 39 (.int .i64 n)] w fun e w' => e = .returned (.bool t) ∧ w = w' := by
  have h8 := @run_callFunc_extern Tryz.prog 69 _ Extern.ReflectliteType.typeOf Tryz.func69 (by kernel_rfl) (by kernel_rfl) (by kernel_rfl) (by kernel_rfl)
  have h32 := @run_callFunc_extern Tryz.prog 124 _ (Extern.ReflectliteType.method fun t => do Extern.Rtype.noPackHeld "Comparable" t; pure (.bool (← typeInfo t).comparable)) Tryz.func124 (by kernel_rfl) (by kernel_rfl) (by kernel_rfl) (by kernel_rfl)
  have hT : ∀ W : World, (callFunc 69 #[.iface 39 (.int .i64 n)]).run Tryz.prog W = .ok (.value (.iface 122 (.agg #[.pointer (some ⟨1, 39, none⟩)]))) W := fun W => by rw [h8, Tryz.isTypeOf]; rfl
  clear h8
  have hC : ∀ W : World, (callFunc 124 #[.agg #[.pointer (some ⟨1, 39, none⟩)]]).run Tryz.prog W = .ok (.value (.bool true)) W := fun W => by rw [h32, Tryz.isComparable]; rfl
  clear h32
  have mR := Tryz.isMethodComparable
  have nE := Tryz.noIs
  have uE := Tryz.noUnwrap
  have vE := Tryz.noUnwraps
  have heq := Lib.run_eql_iface_int (P := Tryz.prog) w (k := .i64) m n Tryz.underlying28 Tryz.isComp Tryz.underlying39
  rw [ht] at heq
  clear ht
  go_enter Tryz.func56, Tryz.ntmps56
  go_wp2
  refine wp_loop_rounds 1 ?_
  rw [rounds_succ]
  cases t
  all_goals
    go_wp2
    go_ret
    exact ⟨rfl, rfl⟩
end Go.Proofs.YtlakkhhibdcjaaaGreatDoor

namespace Go.Proofs.YtlakkhhibdcjaaaGreatDoor
open Go Go.RowKit
set_option linter.unusedVariables false

def CloneRes (w : World) (rs : List (List Nat)) (e : Ending) (w' : World) : Prop := ∃ v, e = .returned v ∧ RowsT w' w.heap.size (fun i => w.heap.size ≤ i) v rs ∧ Below w.heap.size w w'

theorem run_make_rows (n : Nat) (hn : n ≤ 1000000) (W : World) : (Instr.makeSlice 33 (.int .i64 0) (.int .i64 (n : Int))).run Tryz.prog W = .ok (.slice (some ⟨W.heap.size, 0, none⟩) 0 n) (W.alloc (.cells (madeCells #[.slice none 0 0] n) 34)) := by
  obtain ⟨i0, hi, hz0, hz1, hz2⟩ := info_parts info_row
  have h := run_make (P := Tryz.prog) W 33 34 i0 (.slice none 0 0) Tryz.underlying33 hi hz0 .i64 .i64 0 (n : Int) (by omega) (by omega) (by rw [hz2]; omega) (by omega)
  rw [hz1] at h
  have e2 : ((n : Int)).toNat = n := by omega
  rw [e2, Nat.mul_one] at h
  exact h

set_option maxRecDepth 100000 in
set_option maxHeartbeats 2000000 in
theorem cloneAll_any (A : Option Addr) (len cap : Nat) (rs : List (List Nat)) (w : World) (hrl : rs.length = len) (hr : RdRows w A rs) (hlen : len ≤ 1000000) (hbig : ∀ r ∈ rs, r.length ≤ 200000000000000) :
    Calls Tryz.prog 44 #[.slice A len cap] w (CloneRes w rs) := by
  have HR := Lib.hid hr
  have HRL := Lib.hid hrl
  have HBIG := Lib.hid hbig
  have hmk := run_make_rows len hlen
  have hz : RowsT (w.alloc (.cells (madeCells #[.slice none 0 0] len) 34)) w.heap.size (fun i => w.heap.size ≤ i) (.slice (some ⟨w.heap.size, 0, none⟩) 0 len) [] :=
    ⟨[], World.ownsRow_made w _ len (Nat.le_refl _) (by unfold maxLen; omega) (by simp [madeCells]), fun g h => (by have h' : some w.heap.size = some g := h; injection h' with h'; show w.heap.size ≤ g; omega), by simp⟩
  have HZ := Lib.hid hz
  have HB0 := Lib.hid ((Below.refl w.heap.size w).alloc (Nat.le_refl _) (.cells (madeCells #[.slice none 0 0] len) 34))
  clear hr hrl hbig hz
  go_enter Tryz.func44, Tryz.ntmps44
  go_wp2
  clear hmk
  generalize (w.alloc (.cells (madeCells #[.slice none 0 0] len) 34)) = w0 at *
  go_loopw [3, 11] (fun v i wr => ∃ k : Nat, k ≤ len ∧ i = .int .i64 k ∧ RowsT wr w.heap.size (fun i => w.heap.size ≤ i) v (rs.take k) ∧ Below w.heap.size w wr) (fun _ i _ => len - (intOf i).toNat)
  case atStart => exact ⟨0, Nat.zero_le _, rfl, HZ.out, HB0.out⟩
  case round =>
    obtain ⟨k, hk, rfl, hown, hbel⟩ := hrel
    by_cases hlt : k < len
    · have hlt' : k < rs.length := by rw [HRL.out]; exact hlt
      obtain ⟨ad, B, c, rfl, hcell0, h1, h2, hrd⟩ := HR.out.at_ hlt'
      have hcell : wr.cell? (ad.add k) = some (.slice B rs[k].length c) := by rw [hbel.cell (World.block_lt_of_cell? w _ hcell0)]; exact hcell0
      have hrow := hown.own.rowLt
      have hsz := hbel.size
      obtain ⟨r, hre⟩ : ∃ r, r = rs[k] := ⟨_, rfl⟩
      have hrm : r.length ≤ 200000000000000 := HBIG.out r (by rw [hre]; exact List.getElem_mem _)
      have hnext : rs.take (k + 1) = rs.take k ++ [r] := by rw [hre, List.take_succ_eq_append_getElem hlt']
      have hlk : (rs.take k).length = k := by rw [List.length_take]; omega
      rw [← hre] at hcell h1 hrd
      have HRD := Lib.hid (hrd.below hbel)
      obtain ⟨z, hz⟩ : ∃ z, z = r.length := ⟨_, rfl⟩
      rw [← hz] at hcell hrm h1 HRD
      have HZ2 := Lib.hid hz
      have HNEXT := Lib.hid hnext
      have HLK := Lib.hid hlk
      have HROW := Lib.hid hrow
      have HOWN := Lib.hid hown
      have HBEL := Lib.hid hbel
      clear hnext hlk hrow hown hbel hcell0 hrd hre hz hlt' h1 h2
      go_wp2_with fail
      refine (clone_any B z c r wr HRD.out hrm).mono ?_
      rintro e w1 ⟨v1, rfl, ho1, hb1⟩
      rw [← HZ2.out] at ho1
      obtain ⟨B1, c1, rfl, hz1, hc1, hrd1, _⟩ := ho1.form
      have hsz1 := hb1.size
      have hown1 := HOWN.out.below hb1
      obtain ⟨vs, hov, hvb, hin⟩ := hown1
      rw [HLK.out] at hov
      have hvl : vs.length = k := by have := hov.1; omega
      have HO1 := Lib.hid ho1
      have HRD1 := Lib.hid hrd1
      have HB1 := Lib.hid hb1
      have HOV := Lib.hid hov
      have HVB := Lib.hid hvb
      have HIN := Lib.hid hin
      have HVL := Lib.hid hvl
      have HC1 := Lib.hid hc1
      clear ho1 hrd1 hb1 hov hvb hin hvl hc1
      go_wp2_with (first
        | (at_builtin
           refine wpList_append_one _ rfl (.tmp 15) (.tmp 18) 33 rfl 24 w.heap.size 34 (.slice none 0 0) Tryz.underlying33 info_row rfl u3 k vs rfl (World.ownsRow.alloc HOV.out _) ⟨w1.heap.size, 0, none⟩ 1 (.slice B1 z c1) rfl (by simp) rfl (by omega) (by omega) (by simp; omega) (by simp only [maxLen]; omega) ?_
           intro v2 w2 ho2 hg2))
      have hb2 : Below w.heap.size w w2 := hg2.below ((HBEL.out.trans (HB1.out.mono hsz)).alloc (by omega) _) (by simp; omega) (fun g hg => (HROW.out g hg).1)
      have hrows : ∀ (j : Nat) u r, vs[j]? = some u → (rs.take k)[j]? = some r → RowIn (w1.alloc (.cells #[.slice B1 z c1] 34)) u3 u r ∧ RowTo (fun i => w.heap.size ≤ i) u :=
        fun j u r h1 h2 => ⟨(HIN.out j u r h1 h2).1.below ((Below.refl _ _).alloc (Nat.le_refl _) _), (HIN.out j u r h1 h2).2⟩
      have hto : RowTo (fun i => wr.heap.size ≤ i) (.slice B1 z c1) := fun A' n' c' ad he hn ha => by
        have h3 := HO1.out.rowLt
        injection he with e1 e2 e3
        subst e1 e2
        rcases HO1.out.2 with ⟨he', _⟩ | ⟨g, cap', cur, he', hg', _⟩
        · injection he' with e4; rw [e4] at ha; cases ha
        · injection he' with e4
          rw [e4] at ha
          injection ha with ha
          subst ha
          exact hg'
      have hthis : RowIn (w1.alloc (.cells #[.slice B1 z c1] 34)) u3 (.slice B1 z c1) r := by
        refine ⟨B1, c1, by rw [HZ2.out], by rw [← HZ2.out]; exact hz1, HC1.out, by rw [← HZ2.out]; exact HRD1.out.alloc _, fun hp ad he hc => ?_⟩
        have h3 := hto _ _ _ ad rfl (by rw [HZ2.out]; exact hp) he
        have h4 := (HROW.out _ hc).2
        omega
      have hpush := RowsT.push (rs := rs.take k) (by rw [HLK.out]; exact ho2) hg2 (by rw [HLK.out]; exact HVL.out) HVB.out hrows hthis (hto.wide fun i hi => by omega) (fun g hge _ => by simp at hge; omega)
      rw [← HNEXT.out] at hpush
      refine ⟨⟨k + 1, by omega, by go_num, hpush, hb2⟩, ?_⟩
      simp [intOf]
      omega
    · obtain rfl : k = len := by omega
      rw [List.take_of_length_le (by rw [HRL.out]; omega)] at hown
      have HOWN := Lib.hid hown
      have HBEL := Lib.hid hbel
      clear hown hbel
      go_wp2
      go_ret
      exact ⟨u3, rfl, HOWN.out, HBEL.out⟩
end Go.Proofs.YtlakkhhibdcjaaaGreatDoor

namespace Go.Proofs.YtlakkhhibdcjaaaGreatDoor
open Go Go.RowKit Go.Maps
set_option linter.unusedVariables false

/-- The blocks T without the struct's. -/
def bar (T : Nat → Prop) (jb i : Nat) : Prop := T i ∧ i ≠ jb

/-- The struct at block jb is a journal on the disk at sb: its turn, its base, its records, whether it is broken; it lies in the blocks T. -/
structure JAt (w : World) (T : Nat → Prop) (base jb sb : Nat) (turn : Int) (bs : List Nat) (rs : List (List Nat)) (broken : Bool) : Prop where
  blk : ∃ bv rv, w.heap[jb]? = some (.cells #[.pointer (some ⟨sb, 0, none⟩), .int .i64 turn, bv, rv, .bool broken] 68 (0, 0)) ∧ RowIn w rv bv bs ∧ RowTo (bar T jb) bv ∧ RowsT w base (bar T jb) rv rs
  inT : T jb
  low : ∀ i, T i → base ≤ i ∧ i < w.heap.size
  lt : (∀ x ∈ bs, x < 256) ∧ ∀ r ∈ rs, ∀ x ∈ r, x < 256
  few : rs.length ≤ 100000 ∧ bs.length ≤ 1000000 ∧ ∀ r ∈ rs, r.length ≤ 1000000

def joined (S T : Nat → Prop) (i : Nat) : Prop := S i ∨ T i
def Apt (S T : Nat → Prop) : Prop := ∀ i, S i → ¬ T i

section
variable {S S' T T' U U' : Nat → Prop} {w w' w'' : World} {base jb sb : Nat} {turn : Int} {bs : List Nat} {rs : List (List Nat)} {broken : Bool}

theorem JAt.same (h : JAt w T base jb sb turn bs rs broken) (hs : ∀ i, T i → w'.heap[i]? = w.heap[i]?) (hz : w.heap.size ≤ w'.heap.size) : JAt w' T base jb sb turn bs rs broken := by
  obtain ⟨bv, rv, hb, h1, h2, h3⟩ := h.blk
  exact ⟨⟨bv, rv, by rw [hs jb h.inT]; exact hb, h1.same h2 (fun i hi => hs i hi.1), h2, h3.same fun i hi => hs i hi.1⟩, h.inT, fun i hi => ⟨(h.low i hi).1, Nat.lt_of_lt_of_le (h.low i hi).2 hz⟩, h.lt, h.few⟩
theorem JAt.fr (h : JAt w T base jb sb turn bs rs broken) (hf : Fr S w w') (ha : Apt S T) : JAt w' T base jb sb turn bs rs broken :=
  h.same (fun i hi => hf.block i (h.low i hi).2 (fun hs => ha i hs hi)) hf.size
theorem JAt.below (h : JAt w T base jb sb turn bs rs broken) (hb : Below w.heap.size w w') : JAt w' T base jb sb turn bs rs broken :=
  h.same (fun i hi => hb.block i (h.low i hi).2) hb.size
theorem JAt.alloc (h : JAt w T base jb sb turn bs rs broken) (o : Obj) : JAt (w.alloc o) T base jb sb turn bs rs broken := h.below ((Below.refl _ _).alloc (Nat.le_refl _) _)
theorem JAt.c0 (h : JAt w T base jb sb turn bs rs broken) : w.cell? ⟨jb, 0, none⟩ = some (.pointer (some ⟨sb, 0, none⟩)) := by
  obtain ⟨bv, rv, hb, _⟩ := h.blk
  simp [World.cell?, hb]
theorem JAt.c1 (h : JAt w T base jb sb turn bs rs broken) : w.cell? ⟨jb, 1, none⟩ = some (.int .i64 turn) := by
  obtain ⟨bv, rv, hb, _⟩ := h.blk
  simp [World.cell?, hb]
theorem JAt.c4 (h : JAt w T base jb sb turn bs rs broken) : w.cell? ⟨jb, 4, none⟩ = some (.bool broken) := by
  obtain ⟨bv, rv, hb, _⟩ := h.blk
  simp [World.cell?, hb]
theorem JAt.fz (h : JAt w T base jb sb turn bs rs broken) (j : Nat) : w.frozen? ⟨jb, j, none⟩ = false := by
  obtain ⟨bv, rv, hb, _⟩ := h.blk
  simp [World.frozen?, hb]
theorem Apt.wide (ha : Apt S T) (hw : Wider S S' w) (hl : ∀ i, T i → i < w.heap.size) : Apt S' T := fun i hs ht => (hw i hs).elim (fun h => ha i h ht) (fun h => by have := hl i ht; omega)
theorem Apt.mono (ha : Apt S T) (hw : ∀ i, S' i → S i) : Apt S' T := fun i hs ht => ha i (hw i hs) ht
theorem Fr.join (h : Fr S w w') : Fr (joined S T) w w' := ⟨h.os, h.tape, h.output, h.size, fun k hk hn => h.block k hk (fun hs => hn (.inl hs))⟩
theorem Wider.join (h : Wider S S' w) : Wider (joined S T) (joined S' T) w := fun i hi => hi.elim (fun hs => (h i hs).imp .inl id) (fun ht => .inl (.inr ht))

/-- Nothing but the struct's block has turned, and no block is new. -/
theorem JAt.turned (h : JAt w T base jb sb turn bs rs broken) (hc : Chg jb w w') {turn' : Int} {broken' : Bool}
    (hn : ∀ bv rv, w.heap[jb]? = some (.cells #[.pointer (some ⟨sb, 0, none⟩), .int .i64 turn, bv, rv, .bool broken] 68 (0, 0)) → w'.heap[jb]? = some (.cells #[.pointer (some ⟨sb, 0, none⟩), .int .i64 turn', bv, rv, .bool broken'] 68 (0, 0))) :
    JAt w' T base jb sb turn' bs rs broken' := by
  obtain ⟨bv, rv, hb, h1, h2, h3⟩ := h.blk
  have hs : ∀ i, bar T jb i → w'.heap[i]? = w.heap[i]? := fun i hi => hc.block i hi.2
  exact ⟨⟨bv, rv, hn bv rv hb, h1.same h2 hs, h2, h3.same hs⟩, h.inT, fun i hi => by rw [hc.size]; exact h.low i hi, h.lt, h.few⟩
theorem JAt.break_ (h : JAt w T base jb sb turn bs rs broken) : JAt (w.setCell ⟨jb, 4, none⟩ (.bool true)) T base jb sb turn bs rs true :=
  h.turned (chg_set jb 4 w _) fun bv rv hb => by simp [World.setCell, Array.getElem?_modify, hb]

theorem files_any (h : JAt w T base jb sb turn bs rs broken) :
    Calls Tryz.prog 36 #[.pointer (some ⟨jb, 0, none⟩)] w fun e w' => e = .returned (.pointer (some ⟨sb, 0, none⟩)) ∧ w = w' := by
  have c0 := h.c0
  clear h
  go_enter Tryz.func36, Tryz.ntmps36
  go_wp2
  go_ret
  exact ⟨rfl, rfl⟩
theorem turn_any (h : JAt w T base jb sb turn bs rs broken) :
    Calls Tryz.prog 29 #[.pointer (some ⟨jb, 0, none⟩)] w fun e w' => e = .returned (.int .i64 turn) ∧ w = w' := by
  have c1 := h.c1
  clear h
  go_enter Tryz.func29, Tryz.ntmps29
  go_wp2
  go_ret
  exact ⟨rfl, rfl⟩
theorem broken_any (h : JAt w T base jb sb turn bs rs broken) :
    Calls Tryz.prog 14 #[.pointer (some ⟨jb, 0, none⟩)] w fun e w' => e = .returned (.bool broken) ∧ w = w' := by
  have c4 := h.c4
  clear h
  go_enter Tryz.func14, Tryz.ntmps14
  go_wp2
  go_ret
  exact ⟨rfl, rfl⟩
theorem base_any (h : JAt w T base jb sb turn bs rs broken) :
    Calls Tryz.prog 27 #[.pointer (some ⟨jb, 0, none⟩)] w (OwnRes w w.heap.size bs) := by
  obtain ⟨bv, rv, hb, ⟨A, c, rfl, h1, h2, hr, _⟩, _, _⟩ := h.blk
  have hl := h.few.2.1
  have c2 : w.cell? ⟨jb, 2, none⟩ = some (.slice A bs.length c) := by simp [World.cell?, hb]
  obtain ⟨n, hn⟩ : ∃ n, n = bs.length := ⟨_, rfl⟩
  rw [← hn] at hr c2 hl
  have HR := Lib.hid hr
  clear h hb hr hn h1 h2
  go_enter Tryz.func27, Tryz.ntmps27
  go_wp2_with fail
  refine (clone_any A n c bs w HR.out (by omega)).mono ?_
  rintro e w1 ⟨v, rfl, ho, hb⟩
  have HO := Lib.hid ho
  have HB := Lib.hid hb
  clear ho hb c2
  go_wp2
  go_ret
  exact ⟨v, rfl, HO.out, HB.out⟩
theorem records_any (h : JAt w T base jb sb turn bs rs broken) :
    Calls Tryz.prog 28 #[.pointer (some ⟨jb, 0, none⟩)] w (CloneRes w rs) := by
  obtain ⟨bv, rv, hb, _, _, hrows⟩ := h.blk
  obtain ⟨A, c, rfl, h1, h2, hr⟩ := hrows.own.form
  have hl := h.few
  have c3 : w.cell? ⟨jb, 3, none⟩ = some (.slice A rs.length c) := by simp [World.cell?, hb]
  obtain ⟨n, hn⟩ : ∃ n, n = rs.length := ⟨_, rfl⟩
  rw [← hn] at c3 hl
  have HR := Lib.hid hr
  have HN := Lib.hid hn
  have HL := Lib.hid hl
  clear h hb hr hn h1 h2 hrows hl
  go_enter Tryz.func28, Tryz.ntmps28
  go_wp2_with fail
  refine (cloneAll_any A n c rs w HN.out.symm HR.out (by have := HL.out.1; omega) (fun r hr => by have := HL.out.2.2 r hr; omega)).mono ?_
  rintro e w1 ⟨v, rfl, ho, hb⟩
  have HO := Lib.hid ho
  have HB := Lib.hid hb
  clear ho hb c3
  go_wp2
  go_ret
  exact ⟨v, rfl, HO.out, HB.out⟩

/-- An error as a value: 0 is none. -/
def errv (n : Int) : Value := if n = 0 then .nilIface else .iface 39 (.int .i64 n)
theorem note_calm (h : JAt w T base jb sb turn bs rs broken) (n : Int) (h12 : n ≠ 12) :
    Calls Tryz.prog 35 #[.pointer (some ⟨jb, 0, none⟩), errv n] w fun e w' => e = .returned (errv n) ∧ w = w' := by
  by_cases h0 : n = 0
  · have e : errv n = .nilIface := if_pos h0
    rw [e]
    clear e h
    go_enter Tryz.func35, Tryz.ntmps35
    go_wp2_with fail
    refine (is_nil 12 w).mono ?_
    rintro e w1 ⟨rfl, rfl⟩
    go_wp2
    go_ret
    exact ⟨rfl, rfl⟩
  · have e : errv n = .iface 39 (.int .i64 n) := if_neg h0
    rw [e]
    clear e h
    go_enter Tryz.func35, Tryz.ntmps35
    go_wp2_with fail
    refine (is_errno n 12 false (by simpa using h12) w).mono ?_
    rintro e w1 ⟨rfl, rfl⟩
    go_wp2
    go_ret
    exact ⟨rfl, rfl⟩
theorem note_crash (h : JAt w T base jb sb turn bs rs broken) :
    Calls Tryz.prog 35 #[.pointer (some ⟨jb, 0, none⟩), .iface 39 (.int .i64 12)] w fun e w' => e = .returned (.iface 39 (.int .i64 12)) ∧ JAt w' T base jb sb turn bs rs true ∧ Chg jb w w' := by
  have c4 := h.c4
  have cf := h.fz 4
  have HJ := Lib.hid h.break_
  clear h
  go_enter Tryz.func35, Tryz.ntmps35
  go_wp2_with fail
  refine (is_errno 12 12 true rfl w).mono ?_
  rintro e w1 ⟨rfl, rfl⟩
  go_wp2
  go_ret
  exact ⟨rfl, HJ.out, chg_set _ _ _ _⟩

/-- A disk and a journal on it, apart from one another. -/
structure JD (w : World) (S T : Nat → Prop) (base jb sb : Nat) (room : Int) (ps : List PF) (s : DS) (turn : Int) (bs : List Nat) (rs : List (List Nat)) (broken : Bool) : Prop where
  disk : DiskQ w S base sb room ps s
  jat : JAt w T base jb sb turn bs rs broken
  apt : Apt S T
/-- What a journal's call leaves. -/
def JStep (S T : Nat → Prop) (w : World) (base jb sb : Nat) (room : Int) (ps : List PF) (s : DS) (turn : Int) (bs : List Nat) (rs : List (List Nat)) (broken : Bool) (w' : World) : Prop :=
  ∃ S' T', JD w' S' T' base jb sb room ps s turn bs rs broken ∧ Fr (joined S T) w w' ∧ Wider (joined S T) (joined S' T') w
theorem JD.below {room : Int} {ps : List PF} {s : DS} (h : JD w S T base jb sb room ps s turn bs rs broken) (hb : Below w.heap.size w w') : JD w' S T base jb sb room ps s turn bs rs broken := ⟨h.disk.below hb, h.jat.below hb, h.apt⟩
theorem JD.alloc {room : Int} {ps : List PF} {s : DS} (h : JD w S T base jb sb room ps s turn bs rs broken) (o : Obj) : JD (w.alloc o) S T base jb sb room ps s turn bs rs broken := h.below ((Below.refl _ _).alloc (Nat.le_refl _) _)
theorem JD.low {room : Int} {ps : List PF} {s : DS} (h : JD w S T base jb sb room ps s turn bs rs broken) : ∀ i, joined S T i → base ≤ i ∧ i < w.heap.size := fun i hi => hi.elim (h.disk.low i) (h.jat.low i)
/-- A step of the disk alone. -/
theorem JD.step {room : Int} {ps ps' : List PF} {s s' : DS} (h : JD w S T base jb sb room ps s turn bs rs broken) (hs : StepQ S w base sb room ps' s' w') : JStep S T w base jb sb room ps' s' turn bs rs broken w' := by
  obtain ⟨S', hd, hf, hw⟩ := hs
  exact ⟨S', T, ⟨hd, h.jat.fr hf h.apt, h.apt.wide hw fun i hi => (h.jat.low i hi).2⟩, hf.join, hw.join⟩
theorem JStep.trans {room : Int} {ps ps' : List PF} {s s' : DS} {turn' : Int} {bs' : List Nat} {rs' : List (List Nat)} {broken' : Bool} {S' T' : Nat → Prop}
    (hf : Fr (joined S T) w w') (hw : Wider (joined S T) (joined S' T') w) (k : JStep S' T' w' base jb sb room ps' s' turn' bs' rs' broken' w'') : JStep S T w base jb sb room ps' s' turn' bs' rs' broken' w'' := by
  obtain ⟨S2, T2, h2, f2, w2⟩ := k
  exact ⟨S2, T2, h2, hf.trans f2 hw, hw.trans w2 hf.size⟩
theorem JStep.of_below {room : Int} {ps : List PF} {s : DS} (h : JD w S T base jb sb room ps s turn bs rs broken) (hb : Below w.heap.size w w') : JStep S T w base jb sb room ps s turn bs rs broken w' :=
  ⟨S, T, h.below hb, Fr.of_below hb, Wider.refl _ _⟩
theorem fileOf_any (t k : Int) (hk : IntKind.i64.wrap (2 + t) = k) (w : World) : Calls Tryz.prog 32 #[.int .i64 t] w fun e w' => e = .returned (.int .i64 k) ∧ w = w' := by
  go_enter Tryz.func32, Tryz.ntmps32
  go_wp2
  go_ret
  exact ⟨by first | rfl | (rw [← hk]) | (rw [hk]), rfl⟩
end
end Go.Proofs.YtlakkhhibdcjaaaGreatDoor

namespace Go.Proofs.YtlakkhhibdcjaaaGreatDoor
open Go Go.RowKit Go.Maps
set_option linter.unusedVariables false

def calm : DS := ⟨false, 0, false⟩
theorem calm_hit : calm.hit = false := rfl
theorem calm_go : calm.go = calm := rfl
theorem calm_next : calm.next = calm := rfl
theorem calm_err : calm.err = .nilIface := rfl

def Up (ps : List PF) : Prop := ps.Pairwise (fun x y => x.1 < y.1)

theorem pget_pins (x : PF) (k : Int) : ∀ ps : List PF, (∀ p ∈ ps, p.1 ≠ x.1) → pget (pins x ps) k = if x.1 = k then some x.2 else pget ps k
  | [], _ => by
    by_cases h : x.1 = k <;> simp [pins, pget, h]
  | y :: r, hne => by
    have hy := hne y (by simp)
    unfold pins
    split
    · by_cases h : x.1 = k <;> simp [pget, h]
    · have ih := pget_pins x k r fun p hp => hne p (by simp [hp])
      simp only [pget, List.find?_cons] at ih ⊢
      by_cases h : y.1 = k
      · have hx : x.1 ≠ k := fun e => hy (h.trans e.symm)
        simp [h, hx]
      · have hyk : (y.1 == k) = false := by simpa using h
        simp only [hyk]
        exact ih
theorem pget_pdel (ps : List PF) (k j : Int) : pget (pdel ps k) j = if j = k then none else pget ps j := by
  induction ps with
  | nil => simp [pdel, pget]
  | cons y r ih =>
    simp only [pget, pdel] at ih ⊢
    by_cases h : y.1 = k
    · have hk : (!(y.1 == k)) = false := by simp [h]
      rw [List.filter_cons, if_neg (by rw [hk]; simp), ih, List.find?_cons]
      by_cases hj : j = k
      · simp [hj]
      · have : (y.1 == j) = false := by simp; intro e; exact hj (e.symm.trans h)
        simp [hj, this]
    · have hk : (!(y.1 == k)) = true := by simp [h]
      rw [List.filter_cons, if_pos hk, List.find?_cons, List.find?_cons]
      by_cases hj : y.1 = j
      · have hjk : j ≠ k := fun e => h (hj.trans e)
        simp [hj, hjk]
      · have : (y.1 == j) = false := by simpa using hj
        simp only [this]
        exact ih
theorem pdel_no (ps : List PF) (k : Int) : ∀ p ∈ pdel ps k, p.1 ≠ k := by intro p hp; simpa using (List.mem_filter.1 hp).2
theorem pget_pput (ps : List PF) (k j : Int) (zs : List Nat) (n : Nat) : pget (pput ps k zs n) j = if k = j then some (zs, n) else pget ps j := by
  rw [pput, pget_pins _ _ _ (pdel_no ps k), pget_pdel]
  by_cases h : k = j
  · simp [h]
  · have : ¬ j = k := fun e => h e.symm
    simp [h, this]
theorem mem_pins {x y : PF} : ∀ {ps : List PF}, y ∈ pins x ps ↔ y = x ∨ y ∈ ps
  | [] => by simp [pins]
  | z :: r => by
    unfold pins
    split
    · simp
    · rw [List.mem_cons, mem_pins, List.mem_cons]
      constructor
      · rintro (h | h | h) <;> simp [h]
      · rintro (h | h | h) <;> simp [h]
theorem pdel_pins (x : PF) : ∀ ps : List PF, pdel (pins x ps) x.1 = pdel ps x.1
  | [] => by simp [pins, pdel]
  | y :: r => by
    unfold pins
    split
    · simp [pdel]
    · have ih := pdel_pins x r
      simp only [pdel, List.filter_cons] at ih ⊢
      rw [ih]
theorem pdel_pdel (ps : List PF) (k : Int) : pdel (pdel ps k) k = pdel ps k := by
  simp only [pdel, List.filter_filter, Bool.and_self]
theorem pput_pput (ps : List PF) (k : Int) (a b : List Nat) (m n : Nat) : pput (pput ps k a m) k b n = pput ps k b n := by
  have := pdel_pins (k, a, m) (pdel ps k)
  simp only at this
  rw [pput, pput, this, pdel_pdel]; rfl
theorem pput_len (ps : List PF) (k : Int) (a : List Nat) (m : Nat) : (pput ps k a m).length ≤ ps.length + 1 := by
  have h1 : ∀ (x : PF) (l : List PF), (pins x l).length = l.length + 1 := by
    intro x l
    induction l with
    | nil => rfl
    | cons y r ih => unfold pins; split <;> simp [ih]
  rw [pput, h1]
  have := List.length_filter_le (fun p : PF => !(p.1 == k)) ps
  simp only [pdel]; omega
theorem pget_mem {ps : List PF} {k : Int} {zs : List Nat} {n : Nat} (h : pget ps k = some (zs, n)) : (k, zs, n) ∈ ps := by
  unfold pget at h
  cases hf : ps.find? (fun p => p.1 == k) with
  | none => simp [hf] at h
  | some p =>
    have h1 := List.find?_some hf
    have h2 := List.mem_of_find?_eq_some hf
    obtain ⟨a, b⟩ := p
    simp [hf] at h h1
    subst h h1
    exact h2
theorem pget_of_mem {ps : List PF} (hu : Up ps) {p : PF} (h : p ∈ ps) : pget ps p.1 = some p.2 := by
  induction ps with
  | nil => cases h
  | cons y r ih =>
    have hu' := List.pairwise_cons.1 hu
    rcases List.mem_cons.1 h with rfl | h
    · simp [pget]
    · have hne := hu'.1 p h
      have hy : (y.1 == p.1) = false := by simp; omega
      have h3 := ih hu'.2 h
      simp only [pget, List.find?_cons, hy] at h3 ⊢
      exact h3
theorem DiskQ.up {w : World} {S : Nat → Prop} {base sb : Nat} {room : Int} {ps : List PF} {s : DS} (h : DiskQ w S base sb room ps s) : Up ps := by
  obtain ⟨mv, fs, hd, rfl⟩ := h
  have := hd.up
  unfold Up plain
  rw [List.pairwise_map]
  exact this

/-- The files that are not taken away. -/
def kept (k : Int) (p : PF) : Bool := p.1 == 0 || p.1 == k
def keptAt (k : Int) (ps : List PF) (i : Nat) : List PF := (ps.take i).filter (kept k) ++ ps.drop i
theorem keptAt_yes (k : Int) (ps : List PF) (i : Nat) (hi : i < ps.length) (h : kept k ps[i] = true) : keptAt k ps (i + 1) = keptAt k ps i := by
  unfold keptAt
  rw [List.take_succ_eq_append_getElem hi, List.filter_append, List.append_assoc, List.drop_eq_getElem_cons hi]
  simp [h]
theorem keptAt_no (k : Int) (ps : List PF) (hu : Up ps) (i : Nat) (hi : i < ps.length) (h : kept k ps[i] = false) : pdel (keptAt k ps i) ps[i].1 = keptAt k ps (i + 1) ∧ pget (keptAt k ps i) ps[i].1 = some ps[i].2 := by
  have hlt : ∀ p ∈ ps.take i, p.1 < ps[i].1 := by
    intro p hp
    obtain ⟨j, hj, rfl⟩ := List.mem_iff_getElem.1 hp
    rw [List.length_take] at hj
    rw [List.getElem_take]
    exact List.pairwise_iff_getElem.1 hu j i (by omega) hi (by omega)
  have hgt : ∀ p ∈ ps.drop (i + 1), ps[i].1 < p.1 := by
    intro p hp
    obtain ⟨j, hj, rfl⟩ := List.mem_iff_getElem.1 hp
    rw [List.length_drop] at hj
    rw [List.getElem_drop]
    exact List.pairwise_iff_getElem.1 hu i (i + 1 + j) hi (by omega) (by omega)
  have f1 : ((ps.take i).filter (kept k)).filter (fun p => !(p.1 == ps[i].1)) = (ps.take i).filter (kept k) :=
    List.filter_eq_self.2 fun p hp => by have := hlt p ((List.mem_filter.1 hp).1); simp; omega
  have f2 : (ps.drop (i + 1)).filter (fun p => !(p.1 == ps[i].1)) = ps.drop (i + 1) :=
    List.filter_eq_self.2 fun p hp => by have := hgt p hp; simp; omega
  constructor
  · unfold keptAt pdel
    rw [List.filter_append, f1, List.drop_eq_getElem_cons hi, List.filter_cons]
    rw [if_neg (by simp), f2, List.take_succ_eq_append_getElem hi, List.filter_append, List.append_assoc]
    simp [h]
  · unfold keptAt pget
    rw [List.drop_eq_getElem_cons hi, List.find?_append]
    have : ((ps.take i).filter (kept k)).find? (fun p => p.1 == ps[i].1) = none := List.find?_eq_none.2 fun p hp => by have := hlt p ((List.mem_filter.1 hp).1); simp; omega
    rw [this, Option.none_or, List.find?_cons]
    have h5 : (ps[i].1 == ps[i].1) = true := by simp
    rw [h5]
    rfl
theorem keptAt_zero (k : Int) (ps : List PF) : keptAt k ps 0 = ps := by simp [keptAt]
theorem keptAt_end (k : Int) (ps : List PF) : keptAt k ps ps.length = ps.filter (kept k) := by simp [keptAt]

/-- What a snapshot's bytes are: its turn, its base. -/
def snapB (b : List Nat) : Option (Int × List Nat) :=
  match fone b with
  | none => none
  | some r => if 6 + r.length = b.length then (match rd r with
    | none => none
    | some (u, s) => if unp u < 1 then none else some (unp u, r.drop s)) else none
def snapOf : Option (List Nat × Nat) → Option (Int × List Nat)
  | none => some (0, [])
  | some (b, _) => snapB b

theorem scanned_unique {bs : List Nat} {a b : List (List Nat)} (ha : Scanned bs a) (hb : Scanned bs b) : a = b := by
  induction a generalizing bs b with
  | nil =>
    obtain ⟨_, t, rfl, hn⟩ := ha
    exact (hb.none_ (by simpa [flat_nil] using hn)).symm
  | cons r rs ih =>
    obtain ⟨hl, t, rfl, hn⟩ := ha
    rw [flat_cons, List.append_assoc] at hb
    obtain ⟨b', rfl, hb'⟩ := Scanned.some_ (hl r (by simp)) hb
    rw [ih ⟨fun x hx => hl x (by simp [hx]), t, rfl, hn⟩ hb']
theorem scanned_flat {rs : List (List Nat)} (h : ∀ r ∈ rs, r.length ≤ 16384) : Scanned (flat rs) rs := ⟨h, [], by simp, fone_short (by simp)⟩
theorem scanned_tail {rs : List (List Nat)} (h : ∀ r ∈ rs, r.length ≤ 16384) {t : List Nat} (ht : fone t = none) : Scanned (flat rs ++ t) rs := ⟨h, t, rfl, ht⟩
end Go.Proofs.YtlakkhhibdcjaaaGreatDoor

namespace Go.Proofs.YtlakkhhibdcjaaaGreatDoor
open Go Go.RowKit Go.Maps
set_option linter.unusedVariables false
section
variable {S : Nat → Prop} {w : World} {base sb : Nat} {room : Int} {ps : List PF} {s : DS}

theorem cut_q (h : DiskQ w S base sb room ps calm) {k : Int} (hk : (Lit.int .i64 k).wf = true) {zs : List Nat} {n : Nat} (hg : pget ps k = some (zs, n)) (t : Nat) (ht : t ≤ zs.length) (hn : zs.length ≤ 100000000000000) (hlen : ps.length < 1000) (hbase : base ≤ w.heap.size) :
    Calls Tryz.prog 54 #[.pointer (some ⟨sb, 0, none⟩), .int .i64 k, .int .i64 (t : Int)] w fun e w' => e = .returned .nilIface ∧ StepQ S w base sb room (pput ps k (zs.take t) t) calm w' := by
  obtain ⟨mv, fs, hd, rfl⟩ := h
  obtain ⟨f, hf, rfl, rfl⟩ := pget_some hg
  rw [plain_len] at hlen
  refine (cut_yes hd hk hf t ht hn (by omega) hbase).mono ?_
  rintro e w' ⟨he, S', mv', f', hd', e1, e2, hfr, hwd⟩
  exact ⟨he, S', ⟨mv', _, hd', by rw [plain_fput, e1, e2]⟩, hfr, hwd⟩

/-- What readSnapshot hands back. -/
def SnapRes (w : World) (o : Option (Int × List Nat)) (e : Ending) (w' : World) : Prop :=
  Below w.heap.size w w' ∧ match o with
  | none => e = .returned (.tuple #[.int .i64 0, .slice none 0 0, .bool false])
  | some (t, b) => ∃ v, e = .returned (.tuple #[.int .i64 t, v, .bool true]) ∧ Own 5 .u8 w' w.heap.size v b.length (ints b)

theorem wf0 : (Lit.int .i64 0).wf = true := wf3 0 (by omega)

set_option maxRecDepth 100000 in
set_option maxHeartbeats 1000000 in
theorem snap_any (h : DiskQ w S base sb room ps s) (hn : ∀ p ∈ ps, p.2.1.length ≤ 300000) (o : Option (Int × List Nat)) (ho : snapOf (pget ps 0) = o) :
    Calls Tryz.prog 30 #[.pointer (some ⟨sb, 0, none⟩)] w (SnapRes w o) := by
  cases hg : pget ps 0 with
  | none =>
    rw [hg] at ho
    obtain rfl : some ((0 : Int), ([] : List Nat)) = o := ho
    have hr := read_q h wf0 (zs := []) (n := 0) (t := false) (by rw [hg]; rfl) (by rw [hg]; rfl) (by simp)
    clear h hg
    go_enter Tryz.func30, Tryz.ntmps30
    go_wp2_with fail
    refine hr.mono ?_
    rintro e w1 ⟨v, rfl, hown, hb⟩
    have HB := Lib.hid hb
    clear hr hown hb
    go_wp2
    go_ret3
    exact ⟨HB.out, _, rfl, Own.nil⟩
  | some p =>
    obtain ⟨b, n⟩ := p
    rw [hg] at ho
    have hbl := hn _ (pget_mem hg)
    simp only at hbl
    have hlt := (h.lt (pget_mem hg)).1
    have hr := read_q h wf0 (zs := b) (n := n) (t := true) (by rw [hg]; rfl) (by rw [hg]; rfl) (by omega)
    have hsn : snapB b = o := ho
    have HSN := Lib.hid hsn
    have HLT := Lib.hid hlt
    clear h hg ho hsn hlt
    go_enter Tryz.func30, Tryz.ntmps30
    go_wp2_with fail
    refine hr.mono ?_
    rintro e w1 ⟨v, rfl, hown, hb⟩
    obtain ⟨A, c, rfl, hnc, hcm, hrd, _⟩ := hown.form
    obtain ⟨m, hm⟩ : ∃ m, m = b.length := ⟨_, rfl⟩
    rw [← hm] at hrd hnc hbl ⊢
    have hz1 := hb.size
    have HB := Lib.hid hb
    have HRD := Lib.hid hrd
    have HM := Lib.hid hm
    unfold maxLen at hcm
    clear hr hown hb hrd hm
    obtain ⟨f, hf⟩ : ∃ f, fone b = f := ⟨_, rfl⟩
    have HF := Lib.hid hf
    clear hf
    go_wp2_with fail
    refine (one_any A m c b w1 HRD.out HLT.out hnc (by omega) f HF.out).mono ?_
    rintro e w2 ⟨hb2, hres⟩
    have HB2 := Lib.hid (HB.out.trans (hb2.mono hz1))
    have hz2 := HB2.out.size
    clear hb2
    cases f with
    | none =>
      obtain rfl := hres
      have e : o = none := by rw [← HSN.out]; unfold snapB; rw [HF.out]
      subst e
      go_wp2
      go_ret3
      exact ⟨HB2.out, rfl⟩
    | some r =>
      obtain ⟨B, q, rfl, hq1, hq2, hrd2, _⟩ := hres
      have hrs := (fone_some HF.out).2.1
      rw [← HM.out] at hrs
      have hrl : ∀ x ∈ r, x < 256 := fun x hx => by
        have h4 := (fone_some HF.out).2.2.2.1
        rw [h4] at hx
        exact HLT.out x (List.mem_of_mem_drop (List.mem_of_mem_take hx))
      obtain ⟨z, hz⟩ : ∃ z, z = r.length := ⟨_, rfl⟩
      rw [← hz] at hrs hq1 hrd2 ⊢
      have HZ := Lib.hid hz
      have HRL := Lib.hid hrl
      have HRD2 := Lib.hid hrd2
      clear hz hrl hrd2
      by_cases hsz : 6 + z = m
      · have t1 := eqT (show 6 + (z : Int) = (m : Int) by omega)
        go_wp2_with fail
        cases hrr : rd r with
        | none =>
          have e : o = none := by rw [← HSN.out]; unfold snapB; rw [HF.out]; simp only; rw [hrr]; simp
          subst e
          have HRR := Lib.hid hrr
          clear hrr
          refine (get_none B z q r w2 HRD2.out HRL.out hq1 hq2 HRR.out).mono ?_
          rintro e w3 ⟨rfl, rfl⟩
          go_wp2
          go_ret3
          exact ⟨HB2.out, rfl⟩
        | some us =>
          obtain ⟨u, k⟩ := us
          have HRR := Lib.hid hrr
          clear hrr
          refine (get_some B z q r w2 u k HRD2.out HRL.out hq1 hq2 (by omega) HRR.out).mono ?_
          rintro e w3 ⟨v3, rfl, ho3, hb3⟩
          have HB3 := Lib.hid (HB2.out.trans (hb3.mono hz2))
          have HO3 := Lib.hid ho3
          clear hb3 ho3
          obtain ⟨x, hx⟩ : ∃ x, x = unp u := ⟨_, rfl⟩
          rw [← hx]
          by_cases hu : x < 1
          · have e : o = none := by rw [← HSN.out]; unfold snapB; rw [HF.out]; simp only; rw [HRR.out]; simp only [← hx, if_pos hu]; simp
            subst e
            clear hx
            go_wp2
            go_ret3
            exact ⟨HB3.out, rfl⟩
          · have e : o = some (x, r.drop k) := by rw [← HSN.out]; unfold snapB; rw [HF.out]; simp only; rw [HRR.out, if_pos (by rw [← HZ.out, ← HM.out]; exact hsz)]; simp only [← hx, if_neg hu]
            subst e
            clear hx
            go_wp2
            go_ret3
            exact ⟨HB3.out, _, rfl, HO3.out.less hz2⟩
      · have t1 := eqF (show 6 + (z : Int) ≠ (m : Int) by omega)
        have e : o = none := by rw [← HSN.out]; unfold snapB; rw [HF.out]; simp only; rw [if_neg (by rw [← HZ.out, ← HM.out]; exact hsz)]
        subst e
        go_wp2
        go_ret3
        exact ⟨HB2.out, rfl⟩
end
end Go.Proofs.YtlakkhhibdcjaaaGreatDoor

namespace Go.Proofs.YtlakkhhibdcjaaaGreatDoor
open Go Go.RowKit Go.Maps
set_option linter.unusedVariables false
section
variable {S : Nat → Prop} {w : World} {base sb : Nat} {room : Int} {ps : List PF} {s : DS}

theorem int_getD (ks : List Int) (i : Nat) (h : i < ks.length) : ks.getD i 0 = ks[i] := by simp [List.getD, h]

set_option maxRecDepth 100000 in
set_option maxHeartbeats 2000000 in
theorem removeOthers_any (h : DiskQ w S base sb room ps calm) (k : Int) (hlen : ps.length < 1000) (hn : ∀ p ∈ ps, (Lit.int .i64 p.1).wf = true) (hbase : base ≤ w.heap.size) :
    Calls Tryz.prog 31 #[.pointer (some ⟨sb, 0, none⟩), .int .i64 k] w fun e w' => e = .returned .nilIface ∧ StepQ S w base sb room (ps.filter (kept k)) calm w' := by
  have hup := h.up
  have HD := Lib.hid h
  have HN := Lib.hid hn
  have HUP := Lib.hid hup
  clear h hn hup
  go_enter Tryz.func31, Tryz.ntmps31
  go_wp2_with fail
  refine (names_q HD.out hlen).mono ?_
  rintro e w1 ⟨v, rfl, hown, hb⟩
  rw [List.length_map] at hown
  obtain ⟨A, c, rfl, hnc, hcm, hrd, _⟩ := hown.form
  obtain ⟨m, hm⟩ : ∃ m, m = ps.length := ⟨_, rfl⟩
  rw [← hm] at hown hnc hlen ⊢
  have hz1 := hb.size
  have hns : ∀ g, (Value.slice A m c).ownBlock = some g → ¬ S g := fun g hg hS => by
    have h1 := hown.rowLt g hg
    have h2 := (HD.out.low g hS).2
    omega
  have HO := Lib.hid hown
  have HNS := Lib.hid hns
  have HB := Lib.hid hb
  have HM := Lib.hid hm
  unfold maxLen at hcm
  clear hown hrd hb hm hns
  go_wp2
  go_loopw [11] (fun i wr => ∃ (j : Nat) (S' : Nat → Prop), j ≤ m ∧ i = .int .i64 (j : Int) ∧ DiskQ wr S' base sb room (keptAt k ps j) calm ∧ Fr S w wr ∧ Wider S S' w ∧ Own 3 .i64 wr w.heap.size (.slice A m c) m (ps.map (·.1)) ∧ ∀ g, (Value.slice A m c).ownBlock = some g → ¬ S' g) (fun i _ => m - (intOf i).toNat)
  case atStart => exact ⟨0, S, Nat.zero_le _, rfl, by rw [keptAt_zero]; exact HD.out.below HB.out, Fr.of_below HB.out, Wider.refl _ _, HO.out, HNS.out⟩
  case round =>
    obtain ⟨j, S', hj, rfl, hd, hfr, hwd, ho, hns⟩ := hrel
    by_cases hlt : j < m
    · have hlt' : j < ps.length := by rw [← HM.out]; exact hlt
      obtain ⟨A', c', e0, _, _, hrd, _⟩ := ho.form
      injection e0 with e1 e2 e3
      subst e1 e3
      obtain ⟨ad, rfl, hcell⟩ := hrd.at_ hlt
      rw [int_getD _ _ (by rw [List.length_map]; exact hlt'), List.getElem_map] at hcell
      obtain ⟨nm, hnm⟩ : ∃ nm, nm = ps[j].1 := ⟨_, rfl⟩
      rw [← hnm] at hcell
      have hwf : (Lit.int .i64 nm).wf = true := by rw [hnm]; exact HN.out _ (List.getElem_mem _)
      have hzr := hfr.size
      cases hkp : kept k ps[j] with
      | true =>
        have hs := keptAt_yes k ps j hlt' hkp
        rw [← hs] at hd
        have hcase : nm = 0 ∨ (nm ≠ 0 ∧ nm = k) := by
          unfold kept at hkp
          rw [← hnm] at hkp
          simp at hkp
          omega
        have HDj := Lib.hid hd
        have HFR := Lib.hid hfr
        have HWD := Lib.hid hwd
        have HOj := Lib.hid ho
        have HNSj := Lib.hid hns
        clear hd hfr hwd ho hns hrd hkp hnm hlt' hwf hs
        rcases hcase with hc0 | ⟨hc0, hc1⟩
        · subst hc0
          go_wp2
          go_roundw
          case rel => exact ⟨j + 1, S', by omega, by go_num, HDj.out, HFR.out, HWD.out, HOj.out, HNSj.out⟩
          case measure => simp [intOf]; omega
        · subst hc1
          have t0 := eqF hc0
          go_wp2
          go_roundw
          case rel => exact ⟨j + 1, S', by omega, by go_num, HDj.out, HFR.out, HWD.out, HOj.out, HNSj.out⟩
          case measure => simp [intOf]; omega
      | false =>
        obtain ⟨hdel, hget⟩ := keptAt_no k ps HUP.out j hlt' hkp
        rw [← hnm] at hdel hget
        have hc : nm ≠ 0 ∧ nm ≠ k := by
          unfold kept at hkp
          rw [← hnm] at hkp
          simpa using hkp
        have t0 := eqF hc.1
        have t1 := eqF hc.2
        obtain ⟨q, hq⟩ : ∃ q, q = ps[j].2 := ⟨_, rfl⟩
        rw [← hq] at hget
        obtain ⟨zs, n⟩ := q
        have HDj := Lib.hid hd
        have HFR := Lib.hid hfr
        have HWD := Lib.hid hwd
        have HOj := Lib.hid ho
        have HNSj := Lib.hid hns
        have HDEL := Lib.hid hdel
        have HGET := Lib.hid hget
        clear hd hfr hwd ho hns hrd hkp hnm hq hlt' hdel hget hc
        go_wp2_with fail
        refine (remove_q HDj.out rfl rfl (by show 0 ≤ _; omega) hwf (zs := zs) (n := n) HGET.out).mono ?_
        rintro e w2 ⟨rfl, S2, hd2, hf2, hw2⟩
        rw [HDEL.out] at hd2
        have hbl : base ≤ wr.heap.size := by omega
        have hfr2 : Fr S w w2 := HFR.out.trans hf2 HWD.out
        have hwd2 : Wider S S2 w := HWD.out.trans hw2 hzr
        have ho2 := HOj.out.fr hf2 HNSj.out
        have hns2 : ∀ g, (Value.slice (some ad) m c).ownBlock = some g → ¬ S2 g := fun g hg hS => (hw2 g hS).elim (HNSj.out g hg) (fun h => by
          have := (World.ownsRow.lt HOj.out g hg).2
          omega)
        have HD2 := Lib.hid hd2
        have HFR2 := Lib.hid hfr2
        have HWD2 := Lib.hid hwd2
        have HO2 := Lib.hid ho2
        have HNS2 := Lib.hid hns2
        clear hd2 hf2 hw2 hfr2 hwd2 ho2 hns2
        go_wp2
        go_roundw
        case rel => exact ⟨j + 1, S2, by omega, by go_num, HD2.out, HFR2.out, HWD2.out, HO2.out, HNS2.out⟩
        case measure => simp [intOf]; omega
    · obtain rfl : j = m := by omega
      rw [HM.out, keptAt_end] at hd
      have HDj := Lib.hid hd
      have HFR := Lib.hid hfr
      have HWD := Lib.hid hwd
      clear hd hfr hwd ho hns
      go_wp2
      go_ret
      exact ⟨rfl, S', HDj.out, HFR.out, HWD.out⟩

/-- What readRecords leaves. -/
def TakeRecs (S : Nat → Prop) (w : World) (base sb : Nat) (room : Int) (ps : List PF) (k : Int) (zs : List Nat) (e : Ending) (w' : World) : Prop :=
  ∃ rs v S', Scanned zs rs ∧ e = .returned (.tuple #[v, .nilIface]) ∧ RowsT w' w.heap.size (fun i => w.heap.size ≤ i ∧ i < w'.heap.size ∧ ¬ S' i) v rs ∧
    DiskQ w' S' base sb room (if (flat rs).length = zs.length then ps else pput ps k (flat rs) (flat rs).length) calm ∧ Fr S w w' ∧ Wider S S' w

set_option maxRecDepth 100000 in
set_option maxHeartbeats 2000000 in
theorem readRecords_any (h : DiskQ w S base sb room ps calm) {k : Int} (hk : (Lit.int .i64 k).wf = true) {zs : List Nat} {n : Nat} (hg : (pget ps k).getD ([], 0) = (zs, n)) (hzl : zs.length ≤ 300000) (hlen : ps.length < 1000) (hbase : base ≤ w.heap.size) :
    Calls Tryz.prog 33 #[.pointer (some ⟨sb, 0, none⟩), .int .i64 k] w (TakeRecs S w base sb room ps k zs) := by
  obtain ⟨t, ht⟩ : ∃ t, (pget ps k).isSome = t := ⟨_, rfl⟩
  have hlt : ∀ x ∈ zs, x < 256 := by
    cases hp : pget ps k with
    | none => rw [hp] at hg; simp at hg; rw [hg.1]; simp
    | some q =>
      rw [hp] at hg
      have : q = (zs, n) := hg
      subst this
      exact (h.lt (pget_mem hp)).1
  have hgs : zs ≠ [] → pget ps k = some (zs, n) := by
    intro hne
    cases hp : pget ps k with
    | none => rw [hp] at hg; simp at hg; exact absurd hg.1 hne
    | some q =>
      rw [hp] at hg
      have : q = (zs, n) := hg
      rw [this]
  have hr := read_q h hk hg ht (by omega)
  have HD := Lib.hid h
  have HLT := Lib.hid hlt
  have HGS := Lib.hid hgs
  clear h hg ht hlt hgs
  go_enter Tryz.func33, Tryz.ntmps33
  go_wp2_with fail
  refine hr.mono ?_
  rintro e w1 ⟨v, rfl, hown, hb⟩
  obtain ⟨A, c, rfl, hnc, hcm, hrd, _⟩ := hown.form
  obtain ⟨m, hm⟩ : ∃ m, m = zs.length := ⟨_, rfl⟩
  rw [← hm] at hrd hnc hzl ⊢
  have hz1 := hb.size
  have HB := Lib.hid hb
  have HRD := Lib.hid hrd
  have HM := Lib.hid hm
  unfold maxLen at hcm
  clear hr hown hb hrd hm
  go_wp2_with fail
  refine (scan_any A m c zs w1 HRD.out HLT.out hnc (by omega) (by omega)).mono ?_
  rintro e w2 ⟨rs, v2, hsc, rfl, hrows, hb2⟩
  obtain ⟨f, hf⟩ : ∃ f, f = (flat rs).length := ⟨_, rfl⟩
  rw [← hf]
  have hfm : f ≤ m := by
    obtain ⟨_, t, e, _⟩ := hsc
    rw [hf, HM.out, e, List.length_append]; omega
  have htk : zs.take f = flat rs := by
    obtain ⟨_, t, e, _⟩ := hsc
    rw [hf, e, List.take_left]
  have HB2 := Lib.hid (HB.out.trans (hb2.mono hz1))
  have hz2 := HB2.out.size
  have hz12 := hb2.size
  obtain ⟨A2, c2, rfl, _, _, _⟩ := hrows.own.form
  have hrow2 : RowsT w2 w.heap.size (fun i => w.heap.size ≤ i ∧ i < w2.heap.size) (.slice A2 rs.length c2) rs := by
    obtain ⟨vs, ho, hv, hr⟩ := hrows
    refine RowsT.from_ (base := w1.heap.size) ⟨vs, ho, fun g hg => ⟨by have := hv g hg; omega, (World.ownsRow.lt ho g hg).2⟩, fun j u r h1 h2 => ⟨(hr j u r h1 h2).1, fun A n c ad he hn ha => ⟨by have := (hr j u r h1 h2).2 A n c ad he hn ha; omega, ?_⟩⟩⟩ (fun i hi => hi.1)
    obtain ⟨A', c', h3, _, _, h4, _⟩ := (hr j u r h1 h2).1
    rw [h3] at he
    injection he with e1 e2 e3
    subst e1
    obtain ⟨ad', ha', hc⟩ := h4.2 (by omega)
    rw [ha] at ha'
    injection ha' with ha'
    subst ha'
    exact World.block_lt_of_cell? w2 _ (hc 0 (by omega))
  obtain ⟨q, hq⟩ : ∃ q, q = rs.length := ⟨_, rfl⟩
  rw [← hq] at hrow2 ⊢
  have HQ := Lib.hid hq
  have HSC := Lib.hid hsc
  have HF := Lib.hid hf
  have HTK := Lib.hid htk
  have HROW := Lib.hid hrow2
  clear hq hsc hf htk hrow2 hrows hb2
  by_cases hall : f = m
  · have t1 := eqT (show (f : Int) = (m : Int) by omega)
    go_wp2
    go_ret2
    refine ⟨rs, _, S, HSC.out, rfl, HROW.out.wide fun i hi => ⟨hi.1, hi.2, fun hS => ?_⟩, ?_, Fr.of_below HB2.out, Wider.refl _ _⟩
    · have := (HD.out.low i hS).2
      omega
    · rw [if_pos (by rw [← HF.out, ← HM.out]; exact hall)]
      exact HD.out.below HB2.out
  · have t1 := eqF (show (f : Int) ≠ (m : Int) by omega)
    have hpg := HGS.out (by intro e; have h3 := HM.out; rw [e] at h3; simp at h3; omega)
    have HPG := Lib.hid hpg
    have HML := Lib.hid (show f ≤ zs.length by rw [← HM.out]; exact hfm)
    have HML2 := Lib.hid (show zs.length ≤ 100000000000000 by rw [← HM.out]; omega)
    clear hpg
    go_wp2_with fail
    refine (cut_q (HD.out.below HB2.out) hk HPG.out f HML.out HML2.out hlen (by omega)).mono ?_
    rintro e w3 ⟨rfl, S3, hd3, hf3, hw3⟩
    rw [HTK.out] at hd3
    have HD3 := Lib.hid hd3
    have HF3 := Lib.hid hf3
    have HW3 := Lib.hid hw3
    have hz3 := hf3.size
    clear hd3 hf3 hw3
    go_wp2
    go_ret2
    refine ⟨rs, _, S3, HSC.out, rfl, ?_, ?_, (Fr.of_below HB2.out).trans HF3.out (Wider.refl _ _), fun i hi => (HW3.out i hi).imp id (fun h => by omega)⟩
    · have h1 : RowsT w3 w.heap.size (fun i => w.heap.size ≤ i ∧ i < w2.heap.size) (.slice A2 q c2) rs := HROW.out.same fun i hi => HF3.out.block i hi.2 (fun hS => by have := (HD.out.low i hS).2; have := hi.1; omega)
      refine h1.wide fun i hi => ⟨hi.1, by have := hi.2; omega, fun hS => ?_⟩
      rcases HW3.out i hS with h | h
      · have := (HD.out.low i h).2; have := hi.1; omega
      · have := hi.2; omega
    · rw [if_neg (by rw [← HF.out, ← HM.out]; exact hall), ← HF.out]
      exact HD3.out
end
end Go.Proofs.YtlakkhhibdcjaaaGreatDoor

namespace Go.Proofs.YtlakkhhibdcjaaaGreatDoor
open Go Go.RowKit Go.Maps
set_option linter.unusedVariables false

theorem snapB_in {bs : List Nat} {t : Int} {b : List Nat} (h : snapB bs = some (t, b)) : 1 ≤ t ∧ (∀ x ∈ b, x ∈ bs) ∧ b.length ≤ bs.length := by
  unfold snapB at h
  cases hf : fone bs with
  | none => rw [hf] at h; cases h
  | some r =>
    rw [hf] at h
    simp only at h
    split at h
    · cases hr : rd r with
      | none => rw [hr] at h; cases h
      | some us =>
        obtain ⟨u, s⟩ := us
        rw [hr] at h
        simp only at h
        split at h
        · cases h
        · rename_i h1 h2
          injection h with h
          injection h with e1 e2
          have h4 := (fone_some hf).2.2.2.1
          refine ⟨by omega, fun x hx => ?_, ?_⟩
          · rw [← e2] at hx
            have := List.mem_of_mem_drop hx
            rw [h4] at this
            exact List.mem_of_mem_drop (List.mem_of_mem_take this)
          · rw [← e2, List.length_drop]; omega
    · cases h
theorem scanned_in {zs : List Nat} {rs : List (List Nat)} (h : Scanned zs rs) : (∀ r ∈ rs, r.length ≤ 16384) ∧ (∀ r ∈ rs, ∀ x ∈ r, x ∈ zs) ∧ 6 * rs.length ≤ zs.length := by
  obtain ⟨hl, t, rfl, _⟩ := h
  refine ⟨hl, fun r hr x hx => List.mem_append_left _ ?_, ?_⟩
  · unfold flat
    exact List.mem_flatMap.2 ⟨r, hr, by unfold fmk; exact List.mem_append_right _ hx⟩
  · have := flat_len rs
    rw [List.length_append]; omega

section
variable {S : Nat → Prop} {w : World} {base sb : Nat} {room : Int} {ps : List PF} {s : DS}

theorem open_bad (h : DiskQ w S base sb room ps s) (hn : ∀ p ∈ ps, p.2.1.length ≤ 300000) (ho : snapOf (pget ps 0) = none) :
    Calls Tryz.prog 9 #[.pointer (some ⟨sb, 0, none⟩)] w fun e w' => e = .returned (.tuple #[.pointer none, .iface 39 (.int .i64 11)]) ∧ Below w.heap.size w w' := by
  have hs := snap_any h hn none ho
  clear h hn ho
  go_enter Tryz.func9, Tryz.ntmps9
  go_wp2_with fail
  refine hs.mono ?_
  rintro e w1 ⟨hb, rfl⟩
  have HB := Lib.hid hb
  clear hs hb
  go_wp2
  go_ret2
  exact ⟨rfl, HB.out⟩

/-- The files that Open leaves. -/
def opened (ps : List PF) (k : Int) (rs : List (List Nat)) (zs : List Nat) : List PF := if (flat rs).length = zs.length then ps.filter (kept k) else pput (ps.filter (kept k)) k (flat rs) (flat rs).length
def OpenRes (S : Nat → Prop) (w : World) (base sb : Nat) (room : Int) (ps : List PF) (t : Int) (b : List Nat) (k : Int) (zs : List Nat) (e : Ending) (w' : World) : Prop :=
  ∃ rs jb S' T', Scanned zs rs ∧ e = .returned (.tuple #[.pointer (some ⟨jb, 0, none⟩), .nilIface]) ∧ JD w' S' T' base jb sb room (opened ps k rs zs) calm t b rs false ∧ Fr S w w' ∧ Wider S S' w ∧ ∀ i, T' i → w.heap.size ≤ i

set_option maxRecDepth 100000 in
set_option maxHeartbeats 2000000 in
theorem open_any (h : DiskQ w S base sb room ps calm) (hn : ∀ p ∈ ps, p.2.1.length ≤ 300000 ∧ (Lit.int .i64 p.1).wf = true) (hlen : ps.length < 1000) (hbase : base ≤ w.heap.size) {t : Int} {b : List Nat} (ho : snapOf (pget ps 0) = some (t, b))
    {k : Int} (hk : IntKind.i64.wrap (2 + t) = k) (hkw : (Lit.int .i64 k).wf = true) {zs : List Nat} {n : Nat} (hg : (pget (ps.filter (kept k)) k).getD ([], 0) = (zs, n)) :
    Calls Tryz.prog 9 #[.pointer (some ⟨sb, 0, none⟩)] w (OpenRes S w base sb room ps t b k zs) := by
  have hs := snap_any h (fun p hp => (hn p hp).1) _ ho
  have hbl : (∀ x ∈ b, x < 256) ∧ b.length ≤ 300000 := by
    cases hp : pget ps 0 with
    | none => rw [hp] at ho; have : ((0 : Int), ([] : List Nat)) = (t, b) := by injection ho
              injection this with _ e; subst e; simp
    | some q =>
      obtain ⟨q1, q2⟩ := q
      rw [hp] at ho
      have h1 := snapB_in ho
      have h2 := h.lt (pget_mem hp)
      have h3 := (hn _ (pget_mem hp)).1
      exact ⟨fun x hx => h2.1 x (h1.2.1 x hx), by have := h1.2.2; simp only at h3; omega⟩
  have hzl : zs.length ≤ 300000 ∧ ∀ x ∈ zs, x < 256 := by
    cases hp : pget (ps.filter (kept k)) k with
    | none => rw [hp] at hg; simp at hg; rw [hg.1]; simp
    | some q =>
      rw [hp] at hg
      have e : q = (zs, n) := hg
      subst e
      have hm := (List.mem_filter.1 (pget_mem hp)).1
      exact ⟨(hn _ hm).1, (h.lt hm).1⟩
  have HD := Lib.hid h
  have HN := Lib.hid hn
  have HG := Lib.hid hg
  have HBL := Lib.hid hbl
  have HZL := Lib.hid hzl
  have HK := Lib.hid hk
  have hfl : (ps.filter (kept k)).length < 1000 := Nat.lt_of_le_of_lt (List.length_filter_le _ _) hlen
  clear h hn hg ho hbl hzl hk
  go_enter Tryz.func9, Tryz.ntmps9
  go_wp2_with fail
  refine hs.mono ?_
  rintro e w1 ⟨hb1, v, rfl, ho1⟩
  have hz1 := hb1.size
  have HB1 := Lib.hid hb1
  have HO1 := Lib.hid ho1
  clear hs hb1 ho1
  go_wp2_with fail
  refine (fileOf_any t k HK.out w1).mono ?_
  rintro e w1' ⟨rfl, rfl⟩
  go_wp2_with fail
  refine (removeOthers_any (HD.out.below HB1.out) k hlen (fun p hp => (HN.out p hp).2) (by omega)).mono ?_
  rintro e w2 ⟨rfl, S2, hd2, hf2, hw2⟩
  have hz2 := hf2.size
  have HD2 := Lib.hid hd2
  have HF2 := Lib.hid ((Fr.of_below HB1.out).trans hf2 (Wider.refl S _))
  have HF12 := Lib.hid hf2
  have HW2 := Lib.hid hw2
  clear hd2 hf2 hw2
  go_wp2_with fail
  refine (fileOf_any t k HK.out w2).mono ?_
  rintro e w2' ⟨rfl, rfl⟩
  go_wp2_with fail
  refine (readRecords_any HD2.out hkw HG.out HZL.out.1 hfl (by omega)).mono ?_
  rintro e w3 ⟨rs, rv, S3, hsc, rfl, hrows, hd3, hf3, hw3⟩
  obtain ⟨RA, rc, rfl, _, _, _⟩ := hrows.own.form
  obtain ⟨BA, bc, rfl, hbc1, hbc2, hbrd, _⟩ := HO1.out.form
  have hz3 := hf3.size
  have HSC := Lib.hid hsc
  have HROWS := Lib.hid hrows
  have HD3 := Lib.hid hd3
  have HF3 := Lib.hid hf3
  have HW3 := Lib.hid hw3
  have HBRD := Lib.hid hbrd
  have HBC := Lib.hid (And.intro hbc1 hbc2)
  clear hsc hrows hd3 hf3 hw3 hbrd hbc1 hbc2
  go_wp2
  go_ret2
  have hbT : RowTo (fun i => w.heap.size ≤ i ∧ i < w1.heap.size) (.slice BA b.length bc) := fun A' n' c' ad he hn ha => by
    injection he with e1 e2 e3
    subst e1 e2
    obtain ⟨ad', ha', hc⟩ := HBRD.out.2 hn
    have hlt := World.block_lt_of_cell? w1 _ (hc 0 hn)
    rw [add_block] at hlt
    rw [ha] at ha'
    injection ha' with ha'
    subst ha'
    refine ⟨?_, hlt⟩
    rcases HO1.out.2 with ⟨he', _⟩ | ⟨g, cap', cur, he', hg', _⟩
    · injection he' with e4; rw [e4] at ha; cases ha
    · injection he' with e4
      rw [e4] at ha
      injection ha with ha
      subst ha
      exact hg'
  -- what is apart from the disk
  have hS2 : ∀ i, S2 i → i < w.heap.size ∨ w1.heap.size ≤ i := fun i hi => (HW2.out i hi).imp (fun h => (HD.out.low i h).2) id
  have hS3 : ∀ i, S3 i → i < w.heap.size ∨ w1.heap.size ≤ i := fun i hi => (HW3.out i hi).elim (hS2 i) (fun h => .inr (by omega))
  have hb2 : RowAt w2 (.slice BA b.length bc) b := (show RowAt w1 (.slice BA b.length bc) b from ⟨BA, bc, rfl, HBC.out.1, HBC.out.2, HBRD.out⟩).same hbT fun i hi => HF12.out.block i hi.2 (fun hS => by have := (HD.out.low i hS).2; have := hi.1; omega)
  have hb3 : RowAt w3 (.slice BA b.length bc) b := hb2.same hbT fun i hi => HF3.out.block i (by have := hi.2; omega) (fun hS => by have := hS2 i hS; have := hi.1; have := hi.2; omega)
  have hsi := scanned_in HSC.out
  have hrv : ∀ g, (Value.slice RA rs.length rc).ownBlock = some g → w2.heap.size ≤ g := fun g hg => by
    obtain ⟨vs, ho, _⟩ := HROWS.out
    exact (World.ownsRow.lt ho g hg).1
  have hb4 : RowIn w3 (.slice RA rs.length rc) (.slice BA b.length bc) b := by
    obtain ⟨A', c', e, h1, h2, h3⟩ := hb3
    refine ⟨A', c', e, h1, h2, h3, fun hn ad ha hc => ?_⟩
    have h4 := hbT A' b.length c' ad e hn ha
    have h5 := hrv _ hc
    have := h4.2
    omega
  refine ⟨rs, w3.heap.size, S3, fun i => (w.heap.size ≤ i ∧ i < w1.heap.size) ∨ (w2.heap.size ≤ i ∧ i < w3.heap.size ∧ ¬ S3 i) ∨ i = w3.heap.size, HSC.out, rfl, ⟨HD3.out.alloc _, ?_, ?_⟩, ?_, ?_, ?_⟩
  · refine ⟨⟨_, _, heap_alloc_new w3 _, hb4.below ((Below.refl _ _).alloc (Nat.le_refl _) _), hbT.wide fun i hi => ⟨.inl hi, by have := hi.2; omega⟩, ?_⟩, .inr (.inr rfl), fun i hi => ?_, ⟨HBL.out.1, fun r hr x hx => HZL.out.2 x (hsi.2.1 r hr x hx)⟩, ?_⟩
    · exact ((HROWS.out.from_ (b := base) (fun i hi => by have := hi.1; omega)).wide fun i hi => ⟨.inr (.inl hi), by have := hi.2.1; omega⟩).below ((Below.refl _ _).alloc (Nat.le_refl _) _)
    · simp only [World.size_alloc]
      rcases hi with hi | hi | hi <;> omega
    · have h1 := hsi.2.2
      have h2 := HZL.out.1
      have h3 := HBL.out.2
      exact ⟨by omega, by omega, fun r hr => by have := hsi.1 r hr; omega⟩
  · intro i hS hT
    rcases hT with hi | hi | hi
    · have := hS3 i hS; omega
    · exact hi.2.2 hS
    · have := (HD3.out.low i hS).2; omega
  · exact ((HF2.out.trans HF3.out fun i hi => (HW2.out i hi).imp id (fun h => by omega))).trans (Fr.of_below (S := S) ((Below.refl _ w3).alloc (Nat.le_refl _) _)) (Wider.refl _ _)
  · exact fun i hi => (HW3.out i hi).elim (fun h => (HW2.out i h).imp id (fun h => by omega)) (fun h => .inr (by omega))
  · intro i hi
    rcases hi with hi | hi | hi <;> omega
end
end Go.Proofs.YtlakkhhibdcjaaaGreatDoor

namespace Go.Proofs.YtlakkhhibdcjaaaGreatDoor
open Go Go.RowKit Go.Maps
set_option linter.unusedVariables false

set_option maxRecDepth 100000 in
theorem index_any (A : Option Addr) (n c : Nat) (ks : List Int) (x : Int) (w : World) (hr : Rd .i64 w A n ks) (hn : n ≤ 1000000) :
    Calls Tryz.prog 71 #[.slice A n c, .int .i64 x] w fun e w' => (∃ r : Int, e = .returned (.int .i64 r) ∧ (0 ≤ r ↔ x ∈ ks)) ∧ w = w' := by
  have HR := Lib.hid hr
  clear hr
  go_enter Tryz.func71, Tryz.ntmps71
  go_wp2
  go_loopw [8] (fun i wr => ∃ j : Nat, j ≤ n ∧ i = .int .i64 (j : Int) ∧ w = wr ∧ x ∉ ks.take j) (fun i _ => n - (intOf i).toNat)
  case atStart => exact ⟨0, Nat.zero_le _, rfl, rfl, by simp⟩
  case round =>
    obtain ⟨j, hj, rfl, rfl, hnot⟩ := hrel
    have hkl : ks.length = n := HR.out.1
    by_cases hlt : j < n
    · obtain ⟨ad, rfl, hcell⟩ := HR.out.at_ hlt
      have e : ks.getD j 0 = ks[j] := by simp [List.getD, hkl, hlt]
      obtain ⟨y, hy⟩ : ∃ y, y = ks.getD j 0 := ⟨_, rfl⟩
      rw [← hy] at hcell e
      have hnx : ks.take (j + 1) = ks.take j ++ [y] := by rw [e, List.take_succ_eq_append_getElem]
      have HNX := Lib.hid hnx
      have HNOT := Lib.hid hnot
      have HYM := Lib.hid (show y ∈ ks by rw [e]; exact List.getElem_mem _)
      clear hnx hnot hy e hkl
      by_cases hxy : x = y
      · have t0 := eqT hxy
        go_wp2
        go_ret
        exact ⟨⟨_, rfl, by constructor <;> intro _; · rw [hxy]; exact HYM.out
                           · omega⟩, rfl⟩
      · have t0 := eqF hxy
        go_wp2
        go_roundw
        case rel => exact ⟨j + 1, by omega, by go_num, trivial, by rw [HNX.out]; simp; exact ⟨HNOT.out, hxy⟩⟩
        case measure => simp [intOf]; omega
    · obtain rfl : j = n := by omega
      rw [List.take_of_length_le (by omega)] at hnot
      have HNOT := Lib.hid hnot
      clear hnot hkl
      go_wp2
      go_ret
      exact ⟨⟨_, rfl, by constructor <;> intro h; · omega
                         · exact absurd h HNOT.out⟩, rfl⟩

theorem contains_any (A : Option Addr) (n c : Nat) (ks : List Int) (x : Int) (w : World) (hr : Rd .i64 w A n ks) (hn : n ≤ 1000000) (t : Bool) (ht : decide (x ∈ ks) = t) :
    Calls Tryz.prog 58 #[.slice A n c, .int .i64 x] w fun e w' => e = .returned (.bool t) ∧ w = w' := by
  have HR := Lib.hid hr
  have HT := Lib.hid ht
  clear hr ht
  go_enter Tryz.func58, Tryz.ntmps58
  go_wp2_with fail
  refine (index_any A n c ks x w HR.out hn).mono ?_
  rintro e w1 ⟨⟨r, rfl, hrr⟩, rfl⟩
  have HRR := Lib.hid hrr
  clear hrr
  obtain ⟨q, hq⟩ : ∃ q : Bool, q = decide ((0 : Int) ≤ r) := ⟨_, rfl⟩
  have hqt : q = t := by rw [← HT.out, hq]; exact decide_eq_decide.2 HRR.out
  go_wp2
  go_ret
  exact ⟨by rw [← hqt, hq]; rfl, rfl⟩

section
variable {S T : Nat → Prop} {w w' : World} {base jb sb : Nat} {room : Int} {ps : List PF} {s : DS} {turn : Int} {bs : List Nat} {rs : List (List Nat)} {broken : Bool}

theorem DiskQ.same (h : DiskQ w S base sb room ps s) (hs : ∀ i, S i → w'.heap[i]? = w.heap[i]?) (hz : w.heap.size ≤ w'.heap.size) : DiskQ w' S base sb room ps s := by
  obtain ⟨mv, fs, h, rfl⟩ := h
  refine ⟨mv, fs, ⟨by rw [hs sb h.inS]; exact h.blk, ?_, h.up, fun p hp => (h.file p hp).same fun g hg => hs g ((h.file p hp).inS g hg), h.apart, h.inS, fun i hi => ⟨(h.low i hi).1, Nat.lt_of_lt_of_le (h.low i hi).2 hz⟩⟩, rfl⟩
  rcases h.map with h0 | ⟨b, e, ho, hb⟩
  · exact .inl h0
  · exact .inr ⟨b, e, OwnsM.same ho (hs b hb), hb⟩
/-- The journal's struct turned: it is broken now. -/
theorem JD.crash (h : JD w S T base jb sb room ps s turn bs rs broken) (hj : JAt w' T base jb sb turn bs rs true) (hc : Chg jb w w') : JStep S T w base jb sb room ps s turn bs rs true w' :=
  ⟨S, T, ⟨h.disk.same (fun i hi => hc.block i fun e => h.apt i hi (by rw [e]; exact h.jat.inT)) (Nat.le_of_eq hc.size.symm), hj, h.apt⟩, ⟨hc.os, hc.tape, hc.output, Nat.le_of_eq hc.size.symm, fun i _ hn => hc.block i fun e => hn (.inr (by rw [e]; exact h.jat.inT))⟩, Wider.refl _ _⟩
theorem note_nil (h : JAt w T base jb sb turn bs rs broken) : Calls Tryz.prog 35 #[.pointer (some ⟨jb, 0, none⟩), .nilIface] w fun e w' => e = .returned .nilIface ∧ w = w' := note_calm h 0 (by omega)
theorem note_err (h : JAt w T base jb sb turn bs rs broken) (n : Int) (h0 : n ≠ 0) (h12 : n ≠ 12) : Calls Tryz.prog 35 #[.pointer (some ⟨jb, 0, none⟩), .iface 39 (.int .i64 n)] w fun e w' => e = .returned (.iface 39 (.int .i64 n)) ∧ w = w' := by
  have := note_calm h n h12
  rw [show errv n = .iface 39 (.int .i64 n) from if_neg h0] at this
  exact this

theorem DS.go_stopped (s : DS) : s.go.stopped = s.stopped := rfl
theorem DS.go_left (s : DS) {n : Nat} (h : s.left ≤ n) : s.go.left ≤ n := by unfold DS.go lessLeft; simp only; split <;> omega
theorem DS.next_go {s : DS} (h : s.hit = false) : s.next = s.go ∧ s.err = .nilIface := by simp [DS.next, DS.err, h]
theorem DS.next_stop {s : DS} (h : s.hit = true) : s.next = s.stop ∧ s.err = .iface 39 (.int .i64 12) := by simp [DS.next, DS.err, h]

set_option maxRecDepth 100000 in
theorem write_ok (h : JD w S T base jb sb room ps s turn bs rs false) (hs : s.stopped = false) (h1 : s.hit = false) (h2 : s.go.hit = false) (hl : s.left ≤ 4611686018427387904) {k : Int} (hk : (Lit.int .i64 k).wf = true)
    (B : Option Addr) (m d : Nat) (ys : List Nat) (hr : Rd .u8 w B m (ints ys)) (hy : ∀ x ∈ ys, x < 256) {zs : List Nat} {n : Nat} (hg : (pget ps k).getD ([], 0) = (zs, n)) (hroom : room ≤ 262144) (hfit : (ptotal ps : Int) + m ≤ room) (hlen : ps.length < 900) (hbase : base ≤ w.heap.size) :
    Calls Tryz.prog 34 #[.pointer (some ⟨jb, 0, none⟩), .int .i64 k, .slice B m d] w fun e w' => e = .returned .nilIface ∧ JStep S T w base jb sb room (pput ps k (zs ++ ys) (zs ++ ys).length) s.go.go turn bs rs false w' := by
  have HJ := Lib.hid h
  have ha := append_q h.disk hs hl hk B m d ys hr hy hg hroom hfit (by omega) hbase
  rw [(DS.next_go h1).1, (DS.next_go h1).2] at ha
  have HA := Lib.hid ha
  clear h ha hr hg hfit
  go_enter Tryz.func34, Tryz.ntmps34
  go_wp2_with fail
  refine (files_any HJ.out.jat).mono ?_
  rintro e w1 ⟨rfl, rfl⟩
  go_wp2_with fail
  refine HA.out.mono ?_
  rintro e w2 ⟨rfl, hs2⟩
  obtain ⟨S2, T2, hj2, hf2, hw2⟩ := HJ.out.step hs2
  have HJ2 := Lib.hid hj2
  have HF2 := Lib.hid hf2
  have HW2 := Lib.hid hw2
  have hz2 := hf2.size
  clear hs2 hj2 hf2 hw2
  go_wp2_with fail
  refine (note_nil HJ2.out.jat).mono ?_
  rintro e w3 ⟨rfl, rfl⟩
  go_wp2_with fail
  refine (files_any HJ2.out.jat).mono ?_
  rintro e w3 ⟨rfl, rfl⟩
  have hgp : pget (pput ps k (zs ++ ys) n) k = some (zs ++ ys, n) := by rw [pget_pput]; simp
  have hl2 := pput_len ps k (zs ++ ys) n
  have HGP := Lib.hid hgp
  clear hgp
  go_wp2_with fail
  refine (sync_q HJ2.out.disk hs h2 (s.go_left hl) hk HGP.out (by omega) (by omega)).mono ?_
  rintro e w4 ⟨rfl, hs4⟩
  rw [pput_pput] at hs4
  obtain ⟨S4, T4, hj4, hf4, hw4⟩ := HJ2.out.step hs4
  have HJ4 := Lib.hid hj4
  have HF4 := Lib.hid hf4
  have HW4 := Lib.hid hw4
  clear hs4 hj4 hf4 hw4
  go_wp2_with fail
  refine (note_nil HJ4.out.jat).mono ?_
  rintro e w5 ⟨rfl, rfl⟩
  go_wp2
  go_ret
  exact ⟨rfl, S4, T4, HJ4.out, HF2.out.trans HF4.out HW2.out, HW2.out.trans HW4.out hz2⟩

set_option maxRecDepth 100000 in
theorem write_full (h : JD w S T base jb sb room ps s turn bs rs false) (hs : s.stopped = false) (k : Int) (B : Option Addr) (m d : Nat) (hroom : 0 ≤ room ∧ room ≤ 262144) (ht : (ptotal ps : Int) ≤ room) (hm : m ≤ 9223372036854775807) (hfit : room < (ptotal ps : Int) + m) :
    Calls Tryz.prog 34 #[.pointer (some ⟨jb, 0, none⟩), .int .i64 k, .slice B m d] w fun e w' => e = .returned (.iface 39 (.int .i64 8)) ∧ Below w.heap.size w w' := by
  have HJ := Lib.hid h
  have HA := Lib.hid (append_over h.disk hs k B m d hroom ht hm hfit)
  clear h hfit ht
  go_enter Tryz.func34, Tryz.ntmps34
  go_wp2_with fail
  refine (files_any HJ.out.jat).mono ?_
  rintro e w1 ⟨rfl, rfl⟩
  go_wp2_with fail
  refine HA.out.mono ?_
  rintro e w2 ⟨rfl, hb2⟩
  have HB2 := Lib.hid hb2
  have HJ2 := Lib.hid (HJ.out.jat.below hb2)
  clear hb2
  go_wp2_with fail
  refine (note_err HJ2.out 8 (by omega) (by omega)).mono ?_
  rintro e w3 ⟨rfl, rfl⟩
  go_wp2
  go_ret
  exact ⟨rfl, HB2.out⟩

set_option maxRecDepth 100000 in
theorem write_crash (h : JD w S T base jb sb room ps s turn bs rs false) (hs : s.stopped = false) (h1 : s.hit = true ∨ (s.hit = false ∧ s.go.hit = true)) (hl : s.left ≤ 4611686018427387904) {k : Int} (hk : (Lit.int .i64 k).wf = true)
    (B : Option Addr) (m d : Nat) (ys : List Nat) (hr : Rd .u8 w B m (ints ys)) (hy : ∀ x ∈ ys, x < 256) {zs : List Nat} {n : Nat} (hg : (pget ps k).getD ([], 0) = (zs, n)) (hroom : room ≤ 262144) (hfit : (ptotal ps : Int) + m ≤ room) (hlen : ps.length < 900) (hbase : base ≤ w.heap.size) :
    Calls Tryz.prog 34 #[.pointer (some ⟨jb, 0, none⟩), .int .i64 k, .slice B m d] w fun e w' => e = .returned (.iface 39 (.int .i64 12)) ∧ ∃ s', s'.stopped = true ∧ JStep S T w base jb sb room (pput ps k (zs ++ ys) n) s' turn bs rs true w' := by
  have HJ := Lib.hid h
  have ha := append_q h.disk hs hl hk B m d ys hr hy hg hroom hfit (by omega) hbase
  rcases h1 with h1 | ⟨h1, h2⟩
  · rw [(DS.next_stop h1).1, (DS.next_stop h1).2] at ha
    have HA := Lib.hid ha
    clear h ha hr hg hfit
    go_enter Tryz.func34, Tryz.ntmps34
    go_wp2_with fail
    refine (files_any HJ.out.jat).mono ?_
    rintro e w1 ⟨rfl, rfl⟩
    go_wp2_with fail
    refine HA.out.mono ?_
    rintro e w2 ⟨rfl, hs2⟩
    obtain ⟨S2, T2, hj2, hf2, hw2⟩ := HJ.out.step hs2
    have HJ2 := Lib.hid hj2
    have HF2 := Lib.hid hf2
    have HW2 := Lib.hid hw2
    clear hs2 hj2 hf2 hw2
    go_wp2_with fail
    refine (note_crash HJ2.out.jat).mono ?_
    rintro e w3 ⟨rfl, hj3, hc3⟩
    have HS3 := Lib.hid (JStep.trans (ps := ps) (s := s) HF2.out HW2.out (HJ2.out.crash hj3 hc3))
    clear hj3 hc3
    go_wp2
    go_ret
    exact ⟨rfl, _, rfl, HS3.out⟩
  · rw [(DS.next_go h1).1, (DS.next_go h1).2] at ha
    have HA := Lib.hid ha
    clear h ha hr hg hfit
    go_enter Tryz.func34, Tryz.ntmps34
    go_wp2_with fail
    refine (files_any HJ.out.jat).mono ?_
    rintro e w1 ⟨rfl, rfl⟩
    go_wp2_with fail
    refine HA.out.mono ?_
    rintro e w2 ⟨rfl, hs2⟩
    obtain ⟨S2, T2, hj2, hf2, hw2⟩ := HJ.out.step hs2
    have HJ2 := Lib.hid hj2
    have HF2 := Lib.hid hf2
    have HW2 := Lib.hid hw2
    have hz2 := hf2.size
    clear hs2 hj2 hf2 hw2
    go_wp2_with fail
    refine (note_nil HJ2.out.jat).mono ?_
    rintro e w3 ⟨rfl, rfl⟩
    go_wp2_with fail
    refine (files_any HJ2.out.jat).mono ?_
    rintro e w3 ⟨rfl, rfl⟩
    have hgp : pget (pput ps k (zs ++ ys) n) k = some (zs ++ ys, n) := by rw [pget_pput]; simp
    have HGP := Lib.hid hgp
    clear hgp
    go_wp2_with fail
    refine (sync_hit HJ2.out.disk hs h2 hk HGP.out).mono ?_
    rintro e w4 ⟨rfl, hs4⟩
    obtain ⟨S4, T4, hj4, hf4, hw4⟩ := HJ2.out.step hs4
    have HJ4 := Lib.hid hj4
    have HF4 := Lib.hid (HF2.out.trans hf4 HW2.out)
    have HW4 := Lib.hid (HW2.out.trans hw4 hz2)
    clear hs4 hj4 hf4 hw4
    go_wp2_with fail
    refine (note_crash HJ4.out.jat).mono ?_
    rintro e w5 ⟨rfl, hj5, hc5⟩
    have HS5 := Lib.hid (JStep.trans (ps := ps) (s := s) HF4.out HW4.out (HJ4.out.crash hj5 hc5))
    clear hj5 hc5
    go_wp2
    go_ret
    exact ⟨rfl, _, rfl, HS5.out⟩

theorem names_mem (k : Int) : k ∈ ps.map (·.1) ↔ (pget ps k).isSome = true := by
  unfold pget
  rw [Option.isSome_map, List.find?_isSome, List.mem_map]
  constructor
  · rintro ⟨p, hp, rfl⟩; exact ⟨p, hp, by simp⟩
  · rintro ⟨p, hp, he⟩; exact ⟨p, hp, by simpa using he⟩

set_option maxRecDepth 100000 in
/-- A file that is not there need not be dropped. -/
theorem drop_none (h : JD w S T base jb sb room ps s turn bs rs broken) (k : Int) (hg : pget ps k = none) (hlen : ps.length < 900) :
    Calls Tryz.prog 39 #[.pointer (some ⟨jb, 0, none⟩), .int .i64 k] w fun e w' => e = .returned .nilIface ∧ Below w.heap.size w w' := by
  have hnm : decide (k ∈ ps.map (·.1)) = false := by
    have := names_mem (ps := ps) k
    rw [hg] at this
    simp only [Option.isSome_none, Bool.false_eq_true, iff_false] at this
    simp only [decide_eq_false_iff_not]
    exact this
  have HNM := Lib.hid hnm
  have HJ := Lib.hid h
  clear h hg hnm
  go_enter Tryz.func39, Tryz.ntmps39
  go_wp2_with fail
  refine (files_any HJ.out.jat).mono ?_
  rintro e w1 ⟨rfl, rfl⟩
  go_wp2_with fail
  refine (names_q HJ.out.disk (by omega)).mono ?_
  rintro e w2 ⟨v, rfl, ho, hb⟩
  rw [List.length_map] at ho
  obtain ⟨A, c, rfl, _, _, hrd, _⟩ := ho.form
  obtain ⟨m, hm⟩ : ∃ m, m = ps.length := ⟨_, rfl⟩
  rw [← hm] at hrd hlen ⊢
  have HRD := Lib.hid hrd
  have HB := Lib.hid hb
  clear ho hrd hb hm
  go_wp2_with fail
  refine (contains_any A m c _ k w2 HRD.out (by omega) false HNM.out).mono ?_
  rintro e w3 ⟨rfl, rfl⟩
  go_wp2
  go_ret
  exact ⟨rfl, HB.out⟩

set_option maxRecDepth 100000 in
theorem drop_some (h : JD w S T base jb sb room ps s turn bs rs false) (hs : s.stopped = false) (hh : s.hit = false) (hl : s.left ≤ 4611686018427387904) {k : Int} (hk : (Lit.int .i64 k).wf = true) {zs : List Nat} {n : Nat} (hg : pget ps k = some (zs, n)) (hlen : ps.length < 900) :
    Calls Tryz.prog 39 #[.pointer (some ⟨jb, 0, none⟩), .int .i64 k] w fun e w' => e = .returned .nilIface ∧ JStep S T w base jb sb room (pdel ps k) s.go turn bs rs false w' := by
  have hnm : decide (k ∈ ps.map (·.1)) = true := by
    have := names_mem (ps := ps) k
    rw [hg] at this
    simp only [Option.isSome_some, iff_true] at this
    simp only [decide_eq_true_eq]
    exact this
  have HNM := Lib.hid hnm
  have HJ := Lib.hid h
  have HG := Lib.hid hg
  clear h hg hnm
  go_enter Tryz.func39, Tryz.ntmps39
  go_wp2_with fail
  refine (files_any HJ.out.jat).mono ?_
  rintro e w1 ⟨rfl, rfl⟩
  go_wp2_with fail
  refine (names_q HJ.out.disk (by omega)).mono ?_
  rintro e w2 ⟨v, rfl, ho, hb⟩
  rw [List.length_map] at ho
  obtain ⟨A, c, rfl, _, _, hrd, _⟩ := ho.form
  obtain ⟨m, hm⟩ : ∃ m, m = ps.length := ⟨_, rfl⟩
  rw [← hm] at hrd hlen ⊢
  have HRD := Lib.hid hrd
  have HB := Lib.hid hb
  have HJ2 := Lib.hid (HJ.out.below hb)
  clear ho hrd hb hm
  go_wp2_with fail
  refine (contains_any A m c _ k w2 HRD.out (by omega) true HNM.out).mono ?_
  rintro e w3 ⟨rfl, rfl⟩
  go_wp2_with fail
  refine (files_any HJ2.out.jat).mono ?_
  rintro e w3 ⟨rfl, rfl⟩
  go_wp2_with fail
  refine (remove_q HJ2.out.disk hs hh hl hk HG.out).mono ?_
  rintro e w4 ⟨rfl, hs4⟩
  obtain ⟨S4, T4, hj4, hf4, hw4⟩ := HJ2.out.step hs4
  have HJ4 := Lib.hid hj4
  have HF4 := Lib.hid ((Fr.of_below (S := joined S T) HB.out).trans hf4 (Wider.refl _ _))
  have HW4 := Lib.hid (show Wider (joined S T) (joined S4 T4) w from fun i hi => (hw4 i hi).imp id (fun h => by have := HB.out.size; omega))
  clear hs4 hj4 hf4 hw4
  go_wp2_with fail
  refine (note_nil HJ4.out.jat).mono ?_
  rintro e w5 ⟨rfl, rfl⟩
  go_wp2
  go_ret
  exact ⟨rfl, S4, T4, HJ4.out, HF4.out, HW4.out⟩

set_option maxRecDepth 100000 in
theorem drop_crash (h : JD w S T base jb sb room ps s turn bs rs false) (hs : s.stopped = false) (hh : s.hit = true) {k : Int} (hk : (Lit.int .i64 k).wf = true) {zs : List Nat} {n : Nat} (hg : pget ps k = some (zs, n)) (hlen : ps.length < 900) :
    Calls Tryz.prog 39 #[.pointer (some ⟨jb, 0, none⟩), .int .i64 k] w fun e w' => e = .returned (.iface 39 (.int .i64 12)) ∧ JStep S T w base jb sb room ps s.stop turn bs rs true w' := by
  have hnm : decide (k ∈ ps.map (·.1)) = true := by
    have := names_mem (ps := ps) k
    rw [hg] at this
    simp only [Option.isSome_some, iff_true] at this
    simp only [decide_eq_true_eq]
    exact this
  have HNM := Lib.hid hnm
  have HJ := Lib.hid h
  have HG := Lib.hid hg
  clear h hg hnm
  go_enter Tryz.func39, Tryz.ntmps39
  go_wp2_with fail
  refine (files_any HJ.out.jat).mono ?_
  rintro e w1 ⟨rfl, rfl⟩
  go_wp2_with fail
  refine (names_q HJ.out.disk (by omega)).mono ?_
  rintro e w2 ⟨v, rfl, ho, hb⟩
  rw [List.length_map] at ho
  obtain ⟨A, c, rfl, _, _, hrd, _⟩ := ho.form
  obtain ⟨m, hm⟩ : ∃ m, m = ps.length := ⟨_, rfl⟩
  rw [← hm] at hrd hlen ⊢
  have HRD := Lib.hid hrd
  have HB := Lib.hid hb
  have HJ2 := Lib.hid (HJ.out.below hb)
  clear ho hrd hb hm
  go_wp2_with fail
  refine (contains_any A m c _ k w2 HRD.out (by omega) true HNM.out).mono ?_
  rintro e w3 ⟨rfl, rfl⟩
  go_wp2_with fail
  refine (files_any HJ2.out.jat).mono ?_
  rintro e w3 ⟨rfl, rfl⟩
  go_wp2_with fail
  refine (remove_hit HJ2.out.disk hs hh hk HG.out).mono ?_
  rintro e w4 ⟨rfl, hs4⟩
  obtain ⟨S4, T4, hj4, hf4, hw4⟩ := HJ2.out.step hs4
  have HJ4 := Lib.hid hj4
  have HF4 := Lib.hid ((Fr.of_below (S := joined S T) HB.out).trans hf4 (Wider.refl _ _))
  have HW4 := Lib.hid (show Wider (joined S T) (joined S4 T4) w from fun i hi => (hw4 i hi).imp id (fun h => by have := HB.out.size; omega))
  clear hs4 hj4 hf4 hw4
  go_wp2_with fail
  refine (note_crash HJ4.out.jat).mono ?_
  rintro e w5 ⟨rfl, hj5, hc5⟩
  have HS5 := Lib.hid (JStep.trans (ps := ps) (s := s) HF4.out HW4.out (HJ4.out.crash hj5 hc5))
  clear hj5 hc5
  go_wp2
  go_ret
  exact ⟨rfl, HS5.out⟩
end
end Go.Proofs.YtlakkhhibdcjaaaGreatDoor
