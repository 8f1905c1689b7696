/-
  Append of a journal by its contracts, of a disk in whatever state.
  Append of a journal where what is written tells no error.
  Save of a journal by its contracts, of a disk in whatever state.
  Save of a journal where what is written tells no error.
  Shows by its contract: does a journal have this?
  A journal on a disk that is neither armed nor stopped, and has just its files: Open, Append and Save by their contracts.
  awake answers true: the chapter's example.
  Small words of the journal's laws: arguments that lie below a disk, rows and strings that were just made, a journal on a new disk.
-/
import Derived.Test.YtlakkhhibdcjaaaGreatDoorJourA
import Derived.Deep.RegionLaw
import Derived.LoopTactic
import Derived.BigQuiet
import Derived.Deep.QuietTactic
import Derived.Test.YtlakkhhibdcjaaaGreatDoorLow
namespace Go.Proofs.YtlakkhhibdcjaaaGreatDoor
open Go Go.RowKit Go.Maps
set_option linter.unusedVariables false

/-- A slice of rows that reads, and lies in the blocks R. -/
def RdRowsR (R : Nat → Prop) (w : World) (A : Option Addr) (rs : List (List Nat)) : Prop := 0 < rs.length → ∃ ad, A = some ad ∧ R ad.block ∧ ∀ (j : Nat) r, rs[j]? = some r → ∃ u, w.cell? (ad.add j) = some u ∧ RowAt w u r ∧ RowTo R u

section
variable {R S T : Nat → Prop} {w w' : World} {base jb sb : Nat} {room : Int} {ps : List PF} {s : DS} {turn : Int} {bs : List Nat} {rs ns : List (List Nat)} {broken : Bool} {A : Option Addr}

theorem RdRowsR.rd (h : RdRowsR R w A ns) : RdRows w A ns := fun hn => by
  obtain ⟨ad, e, _, hc⟩ := h hn
  exact ⟨ad, e, fun j r hj => by obtain ⟨u, h1, h2, _⟩ := hc j r hj; exact ⟨u, h1, h2⟩⟩
theorem RdRowsR.same (h : RdRowsR R w A ns) (hs : ∀ i, R i → w'.heap[i]? = w.heap[i]?) : RdRowsR R w' A ns := fun hn => by
  obtain ⟨ad, e, hR, hc⟩ := h hn
  refine ⟨ad, e, hR, fun j r hj => ?_⟩
  obtain ⟨u, h1, h2, h3⟩ := hc j r hj
  exact ⟨u, by rw [World.cell?_of_block (w := w) (by rw [add_block]; exact hs _ hR)]; exact h1, h2.same h3 hs, h3⟩
theorem RdRowsR.fr (h : RdRowsR R w A ns) (hf : Fr S w w') (hR : ∀ i, R i → i < w.heap.size ∧ ¬ S i) : RdRowsR R w' A ns := h.same fun i hi => hf.block i (hR i hi).1 (hR i hi).2
theorem RdRowsR.below (h : RdRowsR R w A ns) (hb : Below w.heap.size w w') (hR : ∀ i, R i → i < w.heap.size) : RdRowsR R w' A ns := h.same fun i hi => hb.block i (hR i hi)

theorem flat_take_len (ns : List (List Nat)) (k : Nat) : (flat (ns.take k)).length ≤ (flat ns).length := by
  conv => rhs; rw [← List.take_append_drop k ns, flat_append, List.length_append]
  omega
theorem flat_lt {ns : List (List Nat)} (h : ∀ r ∈ ns, ∀ x ∈ r, x < 256) : ∀ x ∈ flat ns, x < 256 := by
  intro x hx
  obtain ⟨r, hr, hx⟩ := List.mem_flatMap.1 hx
  exact fmk_lt (h r hr) x hx

set_option maxRecDepth 100000 in
theorem jappend_broken (h : JAt w T base jb sb turn bs rs true) (v : Value) :
    Calls Tryz.prog 18 #[.pointer (some ⟨jb, 0, none⟩), v] w fun e w' => e = .returned (.iface 39 (.int .i64 12)) ∧ w = w' := by
  have c4 := h.c4
  clear h
  go_enter Tryz.func18, Tryz.ntmps18
  go_wp2
  go_ret
  exact ⟨rfl, rfl⟩

set_option maxRecDepth 100000 in
set_option maxHeartbeats 2000000 in
/-- A record is too long: nothing is laid. -/
theorem jappend_long (h : JAt w T base jb sb turn bs rs false) (A : Option Addr) (len cap : Nat) (hrl : ns.length = len) (hr : RdRows w A ns) (hlt : ∀ r ∈ ns, ∀ x ∈ r, x < 256) (hlen : len ≤ 100000) (hfl : (flat ns).length ≤ 1000000000)
    (hlong : ∃ r ∈ ns, 16384 < r.length) :
    Calls Tryz.prog 18 #[.pointer (some ⟨jb, 0, none⟩), .slice A len cap] w fun e w' => e = .returned (.iface 39 (.int .i64 13)) ∧ Below w.heap.size w w' := by
  have c4 := h.c4
  have HR := Lib.hid hr
  have HRL := Lib.hid hrl
  have HLT := Lib.hid hlt
  have HLG := Lib.hid hlong
  clear h hr hrl hlt hlong
  go_enter Tryz.func18, Tryz.ntmps18
  go_wp2
  clear c4
  go_loopw [5, 18] (fun v i wr => ∃ k : Nat, k ≤ len ∧ i = .int .i64 (k : Int) ∧ Own 5 .u8 wr w.heap.size v (flat (ns.take k)).length (ints (flat (ns.take k))) ∧ (∀ r ∈ ns.take k, r.length ≤ 16384) ∧ Below w.heap.size w wr) (fun _ i _ => len - (intOf i).toNat)
  case atStart => exact ⟨0, Nat.zero_le _, rfl, by simp [flat_nil]; exact Own.nil, by simp, Below.refl _ _⟩
  case round =>
    obtain ⟨k, hk, rfl, hown, hall, hbel⟩ := hrel
    by_cases hlt : k < len
    · have hlt' : k < ns.length := by rw [HRL.out]; exact hlt
      obtain ⟨ad, B, c, rfl, hcell0, h1, h2, hrd⟩ := HR.out.at_ hlt'
      have hcell : wr.cell? (ad.add k) = some (.slice B ns[k].length c) := by rw [hbel.cell (World.block_lt_of_cell? w _ hcell0)]; exact hcell0
      have hsz := hbel.size
      have hfk := flat_take_len ns k
      have hfk1 := flat_take_len ns (k + 1)
      obtain ⟨r, hre⟩ : ∃ r, r = ns[k] := ⟨_, rfl⟩
      have hrm : ∀ x ∈ r, x < 256 := HLT.out r (by rw [hre]; exact List.getElem_mem _)
      have hnext : ns.take (k + 1) = ns.take k ++ [r] := by rw [hre, List.take_succ_eq_append_getElem hlt']
      rw [hnext, flat_snoc, List.length_append] at hfk1
      rw [← hre] at hcell h1 hrd
      have HRD := Lib.hid (hrd.below hbel)
      obtain ⟨z, hz⟩ : ∃ z, z = r.length := ⟨_, rfl⟩
      rw [← hz] at hcell h1 HRD
      have HZ := Lib.hid hz
      have HRM := Lib.hid hrm
      have HNX := Lib.hid hnext
      have HOWN := Lib.hid hown
      have HALL := Lib.hid hall
      have HBEL := Lib.hid hbel
      unfold maxLen at h2
      clear hrm hnext hown hall hbel hcell0 hrd hre hz hlt'
      by_cases hbig : 16384 < z
      · go_wp2_with fail
        refine (make_long B z c wr hbig (by omega)).mono ?_
        rintro e w1 ⟨rfl, rfl⟩
        go_wp2
        go_ret
        exact ⟨rfl, HBEL.out⟩
      · go_wp2_with fail
        refine (make_any B z c r wr HRD.out HRM.out (by omega)).mono ?_
        rintro e w1 ⟨B1, c1, rfl, hm1, hm2, hrd1, hb1⟩
        have hsz1 := hb1.size
        obtain ⟨y, hy⟩ : ∃ y, y = (fmk r).length := ⟨_, rfl⟩
        obtain ⟨x, hx⟩ : ∃ x, x = (flat (ns.take k)).length := ⟨_, rfl⟩
        have hown1 := HOWN.out.below hb1
        rw [← hy] at hrd1 hm1 hfk1 ⊢
        rw [← hx] at hown1 hfk1
        have HRD1 := Lib.hid hrd1
        have HO1 := Lib.hid hown1
        have HB1 := Lib.hid (HBEL.out.trans (hb1.mono hsz))
        have HX := Lib.hid hx
        have HY := Lib.hid hy
        clear hrd1 hown1 hb1 hx hy
        go_wp2_with (at_builtin; refine wpList_append_ints _ rfl (.tmp 30) (.tmp 31) 34 rfl .u8 1 w.heap.size 5 Tryz.underlying34 info_byte _ x _ rfl HO1.out B1 y c1 _ rfl HRD1.out (by omega) (by omega) (by omega) ?_; intro v' w2 ho' hg)
        have hb2 : Below w.heap.size w w2 := HB1.out.grown hg (by have := HB1.out.size; omega) HO1.out.rowLt
        have ho2 : Own 5 .u8 w2 w.heap.size v' (flat (ns.take (k + 1))).length (ints (flat (ns.take (k + 1)))) := by
          rw [HNX.out, flat_snoc, List.length_append, ints_append, ← HX.out, ← HY.out]
          exact ho'
        refine ⟨⟨k + 1, by omega, by go_num, ho2, ?_, hb2⟩, ?_⟩
        · rw [HNX.out]
          intro q hq
          rcases List.mem_append.1 hq with hq | hq
          · exact HALL.out q hq
          · rw [List.mem_singleton] at hq; subst hq; rw [← HZ.out]; omega
        · simp [intOf]
          omega
    · obtain rfl : k = len := by omega
      rw [List.take_of_length_le (by rw [HRL.out]; omega)] at hall
      obtain ⟨r, h1, h2⟩ := HLG.out
      have := hall r h1
      omega

set_option maxRecDepth 100000 in
set_option maxHeartbeats 2000000 in
/-- What is written tells an error: so does Append. -/
theorem jappend_fail (h : JAt w T base jb sb turn bs rs false) (A : Option Addr) (len cap : Nat) (hrl : ns.length = len) (hr : RdRows w A ns) (hlt : ∀ r ∈ ns, ∀ x ∈ r, x < 256) (hlen : len ≤ 100000) (hfl : (flat ns).length ≤ 1000000000)
    (hshort : ∀ r ∈ ns, r.length ≤ 16384) {k0 : Int} (hk0 : IntKind.i64.wrap (2 + turn) = k0) {n : Int} {Q : World → Prop}
    (hw : ∀ w1 B d, Below w.heap.size w w1 → Rd .u8 w1 B (flat ns).length (ints (flat ns)) → Calls Tryz.prog 34 #[.pointer (some ⟨jb, 0, none⟩), .int .i64 k0, .slice B (flat ns).length d] w1 fun e w2 => e = .returned (.iface 39 (.int .i64 n)) ∧ Q w2) :
    Calls Tryz.prog 18 #[.pointer (some ⟨jb, 0, none⟩), .slice A len cap] w fun e w' => e = .returned (.iface 39 (.int .i64 n)) ∧ Q w' := by
  have c4 := h.c4
  have HJ := Lib.hid h
  have HR := Lib.hid hr
  have HRL := Lib.hid hrl
  have HLT := Lib.hid hlt
  have HSH := Lib.hid hshort
  have HW := Lib.hid hw
  have HK0 := Lib.hid hk0
  clear h hr hrl hlt hshort hw hk0
  go_enter Tryz.func18, Tryz.ntmps18
  go_wp2
  clear c4
  go_loopw [5, 18] (fun v i wr => ∃ k : Nat, k ≤ len ∧ i = .int .i64 (k : Int) ∧ Own 5 .u8 wr w.heap.size v (flat (ns.take k)).length (ints (flat (ns.take k))) ∧ Below w.heap.size w wr) (fun _ i _ => len - (intOf i).toNat)
  case atStart => exact ⟨0, Nat.zero_le _, rfl, by simp [flat_nil]; exact Own.nil, Below.refl _ _⟩
  case round =>
    obtain ⟨k, hk, rfl, hown, hbel⟩ := hrel
    by_cases hlt : k < len
    · have hlt' : k < ns.length := by rw [HRL.out]; exact hlt
      obtain ⟨ad, B, c, rfl, hcell0, h1, h2, hrd⟩ := HR.out.at_ hlt'
      have hcell : wr.cell? (ad.add k) = some (.slice B ns[k].length c) := by rw [hbel.cell (World.block_lt_of_cell? w _ hcell0)]; exact hcell0
      have hsz := hbel.size
      have hfk := flat_take_len ns k
      have hfk1 := flat_take_len ns (k + 1)
      obtain ⟨r, hre⟩ : ∃ r, r = ns[k] := ⟨_, rfl⟩
      have hrm : ∀ x ∈ r, x < 256 := HLT.out r (by rw [hre]; exact List.getElem_mem _)
      have hrz : r.length ≤ 16384 := HSH.out r (by rw [hre]; exact List.getElem_mem _)
      have hnext : ns.take (k + 1) = ns.take k ++ [r] := by rw [hre, List.take_succ_eq_append_getElem hlt']
      rw [hnext, flat_snoc, List.length_append] at hfk1
      rw [← hre] at hcell h1 hrd
      have HRD := Lib.hid (hrd.below hbel)
      obtain ⟨z, hz⟩ : ∃ z, z = r.length := ⟨_, rfl⟩
      rw [← hz] at hcell h1 hrz HRD
      have HRM := Lib.hid hrm
      have HNX := Lib.hid hnext
      have HOWN := Lib.hid hown
      have HBEL := Lib.hid hbel
      unfold maxLen at h2
      clear hrm hnext hown hbel hcell0 hrd hre hz hlt'
      go_wp2_with fail
      refine (make_any B z c r wr HRD.out HRM.out (by omega)).mono ?_
      rintro e w1 ⟨B1, c1, rfl, hm1, hm2, hrd1, hb1⟩
      have hsz1 := hb1.size
      obtain ⟨y, hy⟩ : ∃ y, y = (fmk r).length := ⟨_, rfl⟩
      obtain ⟨x, hx⟩ : ∃ x, x = (flat (ns.take k)).length := ⟨_, rfl⟩
      have hown1 := HOWN.out.below hb1
      rw [← hy] at hrd1 hm1 hfk1 ⊢
      rw [← hx] at hown1 hfk1
      have HRD1 := Lib.hid hrd1
      have HO1 := Lib.hid hown1
      have HB1 := Lib.hid (HBEL.out.trans (hb1.mono hsz))
      have HX := Lib.hid hx
      have HY := Lib.hid hy
      clear hrd1 hown1 hb1 hx hy
      go_wp2_with (at_builtin; refine wpList_append_ints _ rfl (.tmp 30) (.tmp 31) 34 rfl .u8 1 w.heap.size 5 Tryz.underlying34 info_byte _ x _ rfl HO1.out B1 y c1 _ rfl HRD1.out (by omega) (by omega) (by omega) ?_; intro v' w2 ho' hg)
      have hb2 : Below w.heap.size w w2 := HB1.out.grown hg (by have := HB1.out.size; omega) HO1.out.rowLt
      have ho2 : Own 5 .u8 w2 w.heap.size v' (flat (ns.take (k + 1))).length (ints (flat (ns.take (k + 1)))) := by
        rw [HNX.out, flat_snoc, List.length_append, ints_append, ← HX.out, ← HY.out]
        exact ho'
      exact ⟨⟨k + 1, by omega, by go_num, ho2, hb2⟩, by simp [intOf]; omega⟩
    · obtain rfl : k = len := by omega
      rw [List.take_of_length_le (by rw [HRL.out]; omega)] at hown
      obtain ⟨B, d, rfl, _, _, hrd, _⟩ := hown.form
      have hj := HJ.out.below hbel
      have c1 := hj.c1
      have HWW := Lib.hid (HW.out wr B d hbel hrd)
      have HBEL := Lib.hid hbel
      clear hown hbel hrd hj
      go_wp2_with fail
      refine (fileOf_any turn k0 HK0.out wr).mono ?_
      rintro e w1 ⟨rfl, rfl⟩
      go_wp2_with fail
      refine HWW.out.mono ?_
      rintro e w2 ⟨rfl, hq⟩
      have HQ := Lib.hid hq
      clear hq c1
      go_wp2
      go_ret
      exact ⟨rfl, HQ.out⟩
end
end Go.Proofs.YtlakkhhibdcjaaaGreatDoor

namespace Go.Proofs.YtlakkhhibdcjaaaGreatDoor
open Go Go.RowKit Go.Maps
set_option linter.unusedVariables false
section
variable {R S T : Nat → Prop} {w w' : World} {base jb sb : Nat} {room : Int} {ps : List PF} {s : DS} {turn : Int} {bs : List Nat} {rs ns : List (List Nat)} {broken : Bool}

theorem Grew.fr {w w' : World} {v v' : Value} (h : Grew w w' v v') (hS : ∀ g, v.ownBlock = some g → S g) : Fr S w w' := by
  rcases h with ⟨_, h⟩ | ⟨h, _⟩
  · exact Fr.of_grown h hS
  · exact Fr.of_grown h (fun _ e => by cases e)

theorem ownsRow_form {e : TypeId} {v : Value} {n : Nat} {vs : List Value} (h : w.ownsRow base e 1 v n vs) : ∃ A c, v = .slice A n c := by
  rcases h.2 with ⟨rfl, rfl⟩ | ⟨g, cap, cur, rfl, _⟩
  · exact ⟨_, _, rfl⟩
  · exact ⟨_, _, rfl⟩

/-- The records are longer by some rows: what that is in memory. -/
theorem JD.more (h : JD w S T base jb sb room ps s turn bs rs false) (hbase : base ≤ w.heap.size) {bv rv : Value} (hblk : w.heap[jb]? = some (.cells #[.pointer (some ⟨sb, 0, none⟩), .int .i64 turn, bv, rv, .bool false] 68 (0, 0)))
    (hbv : RowIn w rv bv bs) (hbt : RowTo (bar T jb) bv) {vs : List Value} (hvs : w.ownsRow base 34 1 rv rs.length vs) (hvt : ∀ g, rv.ownBlock = some g → bar T jb g) (hrows : ∀ (j : Nat) u r, vs[j]? = some u → rs[j]? = some r → RowIn w rv u r ∧ RowTo (bar T jb) u)
    {w3 w4 : World} {us : List Value} {v4 : Value} (hb3 : Below w.heap.size w w3) (hus : ∀ (j : Nat) u r, us[j]? = some u → ns[j]? = some r → RowAt w3 u r ∧ RowTo (fun i => w.heap.size ≤ i) u)
    (ho4 : w4.ownsRow base 34 1 v4 (rs.length + ns.length) (vs ++ us)) (hg : Grew w3 w4 rv v4) (hlt : ∀ r ∈ ns, ∀ x ∈ r, x < 256) (hfew : rs.length + ns.length ≤ 100000 ∧ ∀ r ∈ ns, r.length ≤ 1000000) :
    JStep S T w base jb sb room ps s turn bs (rs ++ ns) false (w4.setCell ⟨jb, 3, none⟩ v4) := by
  have hz3 := hb3.size
  have hvl : vs.length = rs.length := by have := hvs.1; omega
  have hjl := (h.jat.low jb h.jat.inT).2
  have hrl : ∀ g, rv.ownBlock = some g → g < w.heap.size := fun g hg => (World.ownsRow.lt hvs g hg).2
  have f34 : Fr (bar T jb) w3 w4 := hg.fr hvt
  have hz4 := f34.size
  have c45 := chg_set jb 3 w4 v4
  -- what is left of the old blocks
  have hjb4 : w4.heap[jb]? = w.heap[jb]? := by rw [f34.block jb (by omega) (fun hb => hb.2 rfl), hb3.block jb hjl]
  have hS : ∀ i, S i → (w4.setCell ⟨jb, 3, none⟩ v4).heap[i]? = w.heap[i]? := fun i hi => by
    have hil := (h.disk.low i hi).2
    rw [c45.block i (fun e => h.apt i hi (by rw [e]; exact h.jat.inT)), f34.block i (by omega) (fun hb => h.apt i hi hb.1), hb3.block i hil]
  have hT : ∀ r, RowTo (bar T jb) r → RowTo (fun i => (bar T jb i) ∨ (w.heap.size ≤ i ∧ i < w4.heap.size)) r := fun r hr => hr.wide fun i hi => .inl hi
  have hcat : RowsT w4 base (fun i => (bar T jb i) ∨ (w.heap.size ≤ i ∧ i < w4.heap.size)) v4 (rs ++ ns) := by
    refine RowsT.cat (w := w3) ho4 hg hvl (fun g hg => .inl (hvt g hg)) (fun j u r h1 h2 => ⟨(hrows j u r h1 h2).1.below hb3, hT _ (hrows j u r h1 h2).2⟩) (fun j u r h1 h2 => ?_) (fun g h1 h2 => .inr ⟨by omega, h2⟩)
    obtain ⟨⟨A, c, e, q1, q2, q3⟩, q4⟩ := hus j u r h1 h2
    refine ⟨⟨A, c, e, q1, q2, q3, fun hn ad ha hc => ?_⟩, fun A' n' c' ad e' hn ha => .inr ⟨q4 A' n' c' ad e' hn ha, ?_⟩⟩
    · have := q4 A _ c ad e hn ha
      have := hrl _ hc
      omega
    · rw [e] at e'
      injection e' with e1 e2 e3
      subst e1
      obtain ⟨ad', ha', hcell⟩ := q3.2 (by omega)
      rw [ha] at ha'
      injection ha' with ha'
      subst ha'
      have := World.block_lt_of_cell? w3 _ (hcell 0 (by omega))
      rw [add_block] at this
      omega
  have hne : ∀ i, ((bar T jb i) ∨ (w.heap.size ≤ i ∧ i < w4.heap.size)) → (w4.setCell ⟨jb, 3, none⟩ v4).heap[i]? = w4.heap[i]? := fun i hi => c45.block i (fun e => by
    rcases hi with hi | hi
    · exact hi.2 e
    · omega)
  have hb4 : RowIn w4 v4 bv bs := (hbv.below hb3).grew hg
  have hfr : Fr (joined S T) w (w4.setCell ⟨jb, 3, none⟩ v4) := by
    refine ((Fr.of_below (S := joined S T) hb3).trans ⟨f34.os, f34.tape, f34.output, f34.size, fun i hi hn => f34.block i hi (fun hb => hn (.inr hb.1))⟩ (Wider.refl _ _)).trans (c45.fr (S := joined S T) (.inr h.jat.inT)) (Wider.refl _ _)
  have hz5 : (w4.setCell ⟨jb, 3, none⟩ v4).heap.size = w4.heap.size := c45.size
  refine ⟨S, fun i => T i ∨ (w.heap.size ≤ i ∧ i < w4.heap.size), ⟨h.disk.same hS (by omega), ⟨⟨bv, v4, ?_, ?_, ?_, ?_⟩, .inl h.jat.inT, ?_, ?_, ?_⟩, ?_⟩, hfr, ?_⟩
  · have : w4.heap[jb]? = some (.cells #[.pointer (some ⟨sb, 0, none⟩), .int .i64 turn, bv, rv, .bool false] 68 (0, 0)) := by rw [hjb4]; exact hblk
    simp [World.setCell, Array.getElem?_modify, this]
  · exact hb4.same (hT _ hbt) hne
  · exact hbt.wide fun i hi => ⟨.inl hi.1, hi.2⟩
  · exact (hcat.same hne).wide fun i hi => by
      rcases hi with hi | hi
      · exact ⟨.inl hi.1, hi.2⟩
      · exact ⟨.inr hi, by omega⟩
  · intro i hi
    rw [hz5]
    rcases hi with hi | hi
    · have := h.jat.low i hi; omega
    · omega
  · refine ⟨h.jat.lt.1, fun r hr => ?_⟩
    rcases List.mem_append.1 hr with hr | hr
    · exact h.jat.lt.2 r hr
    · exact hlt r hr
  · refine ⟨by rw [List.length_append]; exact hfew.1, h.jat.few.2.1, fun r hr => ?_⟩
    rcases List.mem_append.1 hr with hr | hr
    · exact h.jat.few.2.2 r hr
    · exact hfew.2 r hr
  · intro i hs ht
    rcases ht with ht | ht
    · exact h.apt i hs ht
    · have := (h.disk.low i hs).2; omega
  · intro i hi
    rcases hi with hi | hi | hi
    · exact .inl (.inl hi)
    · exact .inl (.inr hi)
    · exact .inr hi.1

set_option maxRecDepth 100000 in
set_option maxHeartbeats 4000000 in
theorem jappend_done (h : JD w S T base jb sb room ps s turn bs rs false) (A : Option Addr) (len cap : Nat) (hrl : ns.length = len) (hr : RdRowsR R w A ns) (hR : ∀ i, R i → i < w.heap.size ∧ ¬ joined S T i) (hlt : ∀ r ∈ ns, ∀ x ∈ r, x < 256) (hlen : len ≤ 10000) (hfl : (flat ns).length ≤ 1000000000)
    (hshort : ∀ r ∈ ns, r.length ≤ 16384) (hfew : rs.length ≤ 80000) (hbase : base ≤ w.heap.size) {k0 : Int} (hk0 : IntKind.i64.wrap (2 + turn) = k0) {ps' : List PF} {s' : DS}
    (hw : ∀ w1 B d, JD w1 S T base jb sb room ps s turn bs rs false → w.heap.size ≤ w1.heap.size → Rd .u8 w1 B (flat ns).length (ints (flat ns)) → Calls Tryz.prog 34 #[.pointer (some ⟨jb, 0, none⟩), .int .i64 k0, .slice B (flat ns).length d] w1 fun e w2 => e = .returned .nilIface ∧ JStep S T w1 base jb sb room ps' s' turn bs rs false w2) :
    Calls Tryz.prog 18 #[.pointer (some ⟨jb, 0, none⟩), .slice A len cap] w fun e w' => e = .returned .nilIface ∧ JStep S T w base jb sb room ps' s' turn bs (rs ++ ns) false w' := by
  have c4 := h.jat.c4
  have HJ := Lib.hid h
  have HR := Lib.hid hr
  have HRR := Lib.hid hR
  have HRL := Lib.hid hrl
  have HLT := Lib.hid hlt
  have HSH := Lib.hid hshort
  have HW := Lib.hid hw
  have HK0 := Lib.hid hk0
  clear h hr hrl hlt hshort hw hk0 hR
  go_enter Tryz.func18, Tryz.ntmps18
  go_wp2
  clear c4
  go_loopw [5, 18] (fun v i wr => ∃ k : Nat, k ≤ len ∧ i = .int .i64 (k : Int) ∧ Own 5 .u8 wr w.heap.size v (flat (ns.take k)).length (ints (flat (ns.take k))) ∧ Below w.heap.size w wr) (fun _ i _ => len - (intOf i).toNat)
  case atStart => exact ⟨0, Nat.zero_le _, rfl, by simp [flat_nil]; exact Own.nil, Below.refl _ _⟩
  case round =>
    obtain ⟨k, hk, rfl, hown, hbel⟩ := hrel
    by_cases hlt : k < len
    · have hlt' : k < ns.length := by rw [HRL.out]; exact hlt
      obtain ⟨ad, B, c, rfl, hcell0, h1, h2, hrd⟩ := HR.out.rd.at_ hlt'
      have hcell : wr.cell? (ad.add k) = some (.slice B ns[k].length c) := by rw [hbel.cell (World.block_lt_of_cell? w _ hcell0)]; exact hcell0
      have hsz := hbel.size
      have hfk := flat_take_len ns k
      have hfk1 := flat_take_len ns (k + 1)
      obtain ⟨r, hre⟩ : ∃ r, r = ns[k] := ⟨_, rfl⟩
      have hrm : ∀ x ∈ r, x < 256 := HLT.out r (by rw [hre]; exact List.getElem_mem _)
      have hrz : r.length ≤ 16384 := HSH.out r (by rw [hre]; exact List.getElem_mem _)
      have hnext : ns.take (k + 1) = ns.take k ++ [r] := by rw [hre, List.take_succ_eq_append_getElem hlt']
      rw [hnext, flat_snoc, List.length_append] at hfk1
      rw [← hre] at hcell h1 hrd
      have HRD := Lib.hid (hrd.below hbel)
      obtain ⟨z, hz⟩ : ∃ z, z = r.length := ⟨_, rfl⟩
      rw [← hz] at hcell h1 hrz HRD
      have HRM := Lib.hid hrm
      have HNX := Lib.hid hnext
      have HOWN := Lib.hid hown
      have HBEL := Lib.hid hbel
      unfold maxLen at h2
      clear hrm hnext hown hbel hcell0 hrd hre hz hlt'
      go_wp2_with fail
      refine (make_any B z c r wr HRD.out HRM.out (by omega)).mono ?_
      rintro e w1 ⟨B1, c1, rfl, hm1, hm2, hrd1, hb1⟩
      have hsz1 := hb1.size
      obtain ⟨y, hy⟩ : ∃ y, y = (fmk r).length := ⟨_, rfl⟩
      obtain ⟨x, hx⟩ : ∃ x, x = (flat (ns.take k)).length := ⟨_, rfl⟩
      have hown1 := HOWN.out.below hb1
      rw [← hy] at hrd1 hm1 hfk1 ⊢
      rw [← hx] at hown1 hfk1
      have HRD1 := Lib.hid hrd1
      have HO1 := Lib.hid hown1
      have HB1 := Lib.hid (HBEL.out.trans (hb1.mono hsz))
      have HX := Lib.hid hx
      have HY := Lib.hid hy
      clear hrd1 hown1 hb1 hx hy
      go_wp2_with (at_builtin; refine wpList_append_ints _ rfl (.tmp 30) (.tmp 31) 34 rfl .u8 1 w.heap.size 5 Tryz.underlying34 info_byte _ x _ rfl HO1.out B1 y c1 _ rfl HRD1.out (by omega) (by omega) (by omega) ?_; intro v' w2 ho' hg)
      have hb2 : Below w.heap.size w w2 := HB1.out.grown hg (by have := HB1.out.size; omega) HO1.out.rowLt
      have ho2 : Own 5 .u8 w2 w.heap.size v' (flat (ns.take (k + 1))).length (ints (flat (ns.take (k + 1)))) := by
        rw [HNX.out, flat_snoc, List.length_append, ints_append, ← HX.out, ← HY.out]
        exact ho'
      exact ⟨⟨k + 1, by omega, by go_num, ho2, hb2⟩, by simp [intOf]; omega⟩
    · obtain rfl : k = len := by omega
      rw [List.take_of_length_le (by rw [HRL.out]; omega)] at hown
      obtain ⟨B, d, rfl, _, _, hrd, _⟩ := hown.form
      have hj := HJ.out.below hbel
      have c1 := hj.jat.c1
      have HWW := Lib.hid (HW.out wr B d hj hbel.size hrd)
      have HBEL := Lib.hid hbel
      clear hown hbel hrd hj
      go_wp2_with fail
      refine (fileOf_any turn k0 HK0.out wr).mono ?_
      rintro e w1 ⟨rfl, rfl⟩
      go_wp2_with fail
      refine HWW.out.mono ?_
      rintro e w2 ⟨rfl, S2, T2, hj2, hf2, hw2⟩
      have hz2 := hf2.size
      have hz1 := HBEL.out.size
      obtain ⟨bv, rv, hblk, hbv, hbt, vs, hvs, hvt, hrows⟩ := hj2.jat.blk
      obtain ⟨RA, rc, hrv, _, _, _⟩ := (show OwnRows w2 base rv rs from ⟨vs, hvs, fun j u r h1 h2 => (hrows j u r h1 h2).1⟩).form
      subst hrv
      have hc3 : w2.cell? ⟨jb, 3, none⟩ = some (.slice RA rs.length rc) := by simp [World.cell?, hblk]
      have hargs : RdRowsR R w2 A ns := (HR.out.below HBEL.out (fun i hi => (HRR.out i hi).1)).fr hf2 (fun i hi => ⟨by have := (HRR.out i hi).1; omega, (HRR.out i hi).2⟩)
      have hjlt := (hj2.jat.low jb hj2.jat.inT).2
      have hrne : ∀ g, (Value.slice RA rs.length rc).ownBlock = some g → g ≠ jb := fun g hg => (hvt g hg).2
      obtain ⟨q, hq⟩ : ∃ q, q = rs.length := ⟨_, rfl⟩
      have hvs' := hvs
      rw [← hq] at hvs' hc3 hfew
      have HQ := Lib.hid hq
      have HJ2 := Lib.hid hj2
      have HF2 := Lib.hid hf2
      have HW2 := Lib.hid hw2
      have HBLK := Lib.hid hblk
      have HBV := Lib.hid hbv
      have HBT := Lib.hid hbt
      have HVS := Lib.hid hvs
      have HVSQ := Lib.hid hvs'
      have HVT := Lib.hid hvt
      have HROWS := Lib.hid hrows
      have HARGS := Lib.hid hargs
      have HRNE := Lib.hid hrne
      have HCL := Lib.hid (cloneAll_any A k cap ns w2.drew HRL.out hargs.rd.drew (by omega) (fun r hr => by have := HSH.out r hr; omega))
      have hbz : base ≤ w2.heap.size := by omega
      clear hj2 hf2 hw2 hblk hbv hbt hvs hvs' hvt hrows hargs c1 hq hrne
      have hkm : k ≤ 10000 := by omega
      go_wp2
      go_region_law (first
        | (refine step_append_vals _ rfl (.tmp 49) (.tmp 51) 33 rfl 24 base 34 (.slice none 0 0) Tryz.underlying33 info_row rfl (.slice RA q rc) q vs (by simp [Act.eval]) HV3.out CA k cc us (by simp [Act.eval]) HUL.out HUC.out HU1.out (by omega) (by omega) (by omega) (by simp only [maxLen]; omega) ?_
           intro v4 w4 ho4 hg4
           obtain ⟨A4, c4, rfl⟩ := ownsRow_form ho4
           have hc34 : w4.cell? ⟨jb, 3, none⟩ = some (.slice RA q rc) := hg4.cell hc33 (fun e => HRNE.out jb (by rw [← HQ.out]; exact e) rfl)
           have hfz4 : w4.frozen? ⟨jb, 3, none⟩ = false := by
             have e : w4.heap[jb]? = w3.heap[jb]? := (hg4.fr (S := fun i => i ≠ jb) (fun g hg => HRNE.out g (by rw [← HQ.out]; exact hg))).block jb (by omega) (by simp)
             simp [World.frozen?, e, HBLK3.out]
           have HO4 := Lib.hid ho4
           have HG4 := Lib.hid hg4
           clear ho4 hg4)
        | (go_simp
           go_at_call 44
           refine HCL.out.mono ?_
           rintro e w3 ⟨cv, rfl, ⟨us, hus, hut, hur⟩, hb3⟩
           have hb3 : Below w2.heap.size w2 w3 := (show Below w2.heap.size w2 w2.drew from (Below.refl _ _).drew).trans hb3
           have hz3 := hb3.size
           obtain ⟨CA, cc, hcv, _, _, _⟩ := (show OwnRows w3 w2.drew.heap.size cv ns from ⟨us, hus, fun j u r h1 h2 => (hur j u r h1 h2).1⟩).form
           subst hcv
           rw [HRL.out] at hus
           have hul : us.length = k := by have := hus.1; omega
           have huc : 0 < k → ∃ ad, CA = some ad ∧ ∀ j u, us[j]? = some u → w3.cell? (ad.add j) = some u := fun hk => by
             rcases hus.2 with ⟨e, _⟩ | ⟨g, cap', cur, e, _⟩
             · injection e with _ e; omega
             · injection e with e1 e2 e3
               subst e1
               exact ⟨_, rfl, World.ownsRow.cells hus (g := g) rfl⟩
           have hu1 : ∀ u ∈ us, u.oneCell' = true := fun u hu => by
             obtain ⟨j, hj, rfl⟩ := List.mem_iff_getElem.1 hu
             have hjn : j < ns.length := by rw [HRL.out, ← hul]; exact hj
             obtain ⟨A', c', e, _⟩ := (hur j us[j] ns[j] (List.getElem?_eq_getElem hj) (List.getElem?_eq_getElem hjn)).1
             rw [e]; rfl
           have hblk3 : w3.heap[jb]? = some (.cells #[.pointer (some ⟨sb, 0, none⟩), .int .i64 turn, bv, .slice RA rs.length rc, .bool false] 68 (0, 0)) := by rw [hb3.block jb hjlt]; exact HBLK.out
           have hc33 : w3.cell? ⟨jb, 3, none⟩ = some (.slice RA q rc) := by rw [HQ.out]; simp [World.cell?, hblk3]
           have HV3 := Lib.hid (ownsRow_same HVSQ.out (w' := w3) fun g hg => hb3.block g (World.ownsRow.lt HVSQ.out g hg).2)
           have HUL := Lib.hid hul
           have HUC := Lib.hid huc
           have HU1 := Lib.hid hu1
           have HBLK3 := Lib.hid hblk3
           have HB3 := Lib.hid hb3
           have HUS := Lib.hid (show ∀ (j : Nat) u r, us[j]? = some u → ns[j]? = some r → RowAt w3 u r ∧ RowTo (fun i => w2.heap.size ≤ i) u from fun j u r h1 h2 => ⟨(hur j u r h1 h2).1.at_, (hur j u r h1 h2).2⟩)
           rw [HRL.out]
           clear hus hut hur hul huc hu1 hblk3 hb3))
      all_goals
        go_wp2
        go_ret
        refine ⟨rfl, JStep.trans (ps := ps) (s := s) ((Fr.of_below HBEL.out).trans HF2.out (Wider.refl _ _)) (fun i hi => (HW2.out i hi).imp id (fun h => by omega)) (HJ2.out.more hbz HBLK.out HBV.out HBT.out HVS.out HVT.out HROWS.out HB3.out HUS.out ?_ ?_ HLT.out ⟨by rw [HRL.out, ← HQ.out]; omega, fun r hr => by have := HSH.out r hr; omega⟩)⟩
        · rw [HRL.out, ← HQ.out]; exact HO4.out
        · rw [← HQ.out]; exact HG4.out
end
end Go.Proofs.YtlakkhhibdcjaaaGreatDoor

namespace Go.Proofs.YtlakkhhibdcjaaaGreatDoor
open Go Go.RowKit Go.Maps
set_option linter.unusedVariables false

/-- A snapshot's record. -/
def snapRec (t : Int) (b : List Nat) : List Nat := enc (pairN t) ++ b
theorem snapRec_lt {t : Int} {b : List Nat} (h : ∀ x ∈ b, x < 256) : ∀ x ∈ snapRec t b, x < 256 := fun x hx => (List.mem_append.1 hx).elim (enc_bytes _ x) (h x)
theorem snapRec_len (t : Int) (b : List Nat) (h1 : -9223372036854775808 ≤ t) (h2 : t ≤ 9223372036854775807) : b.length + 1 ≤ (snapRec t b).length ∧ (snapRec t b).length ≤ b.length + 10 := by
  have h3 := enc_len_ten (pairN_lt h1 h2)
  have h4 := enc_len_pos (pairN t)
  rw [snapRec, List.length_append]; omega

section
variable {R S T : Nat → Prop} {w w' : World} {base jb sb : Nat} {room : Int} {ps : List PF} {s : DS} {turn : Int} {bs b : List Nat} {rs : List (List Nat)} {broken : Bool}

set_option maxRecDepth 100000 in
theorem jsave_broken (h : JAt w T base jb sb turn bs rs true) (v : Value) :
    Calls Tryz.prog 11 #[.pointer (some ⟨jb, 0, none⟩), v] w fun e w' => e = .returned (.iface 39 (.int .i64 12)) ∧ w = w' := by
  have c4 := h.c4
  clear h
  go_enter Tryz.func11, Tryz.ntmps11
  go_wp2
  go_ret
  exact ⟨rfl, rfl⟩

theorem Rd.oneInt {w : World} {t : TypeId} (x : Int) : Rd .i64 (w.alloc (.cells #[.int .i64 x] t)) (some ⟨w.heap.size, 0, none⟩) 1 [x] :=
  ⟨rfl, fun _ => ⟨_, rfl, fun j hj => by
    have e : j = 0 := by omega
    subst e
    simp [Addr.add]⟩⟩

set_option maxRecDepth 100000 in
set_option maxHeartbeats 1000000 in
theorem jsave_long (h : JAt w T base jb sb turn bs rs false) (A : Option Addr) (n c : Nat) (hr : Rd .u8 w A n (ints b)) (ht : 0 ≤ turn ∧ turn ≤ 1000000) (hn : n ≤ 1000000) (hlong : 16384 < (snapRec (turn + 1) b).length) :
    Calls Tryz.prog 11 #[.pointer (some ⟨jb, 0, none⟩), .slice A n c] w fun e w' => e = .returned (.iface 39 (.int .i64 13)) ∧ Below w.heap.size w w' := by
  have c4 := h.c4
  have c1 := h.c1
  have hbl : b.length = n := by have := hr.1; rwa [ints_length] at this
  have hsl := snapRec_len (turn + 1) b (by omega) (by omega)
  obtain ⟨next, hnext⟩ : ∃ next, turn + 1 = next := ⟨_, rfl⟩
  rw [hnext] at hsl hlong
  have HR := Lib.hid hr
  have HBL := Lib.hid hbl
  have hne := enc_len_ten (pairN_lt (n := next) (by omega) (by omega))
  clear h hr hbl
  go_enter Tryz.func11, Tryz.ntmps11
  go_wp2_with fail
  refine (all_any (some ⟨w.heap.size, 0, none⟩) 1 1 [next] _ (Rd.oneInt next) (by intro x hx; simp at hx; subst hx; omega) (by omega)).mono ?_
  rintro e w1 ⟨v, rfl, ho, hb⟩
  rw [encs_one] at ho
  have hb1 : Below w.heap.size w w1 := ((Below.refl _ w).alloc (Nat.le_refl _) _).trans (hb.mono (by simp))
  have hz1 := hb1.size
  obtain ⟨x, hx⟩ : ∃ x, x = (enc (pairN next)).length := ⟨_, rfl⟩
  rw [← hx] at ho hne
  have HO := Lib.hid (ho.less (b := w.heap.size) (by simp))
  have HB1 := Lib.hid hb1
  have HX := Lib.hid hx
  clear ho hb hb1 hx
  go_wp2_with (at_builtin; refine wpList_append_ints _ rfl (.tmp 24) (.tmp 25) 34 rfl .u8 1 w.heap.size 5 Tryz.underlying34 info_byte _ x _ rfl HO.out A n c _ rfl (HR.out.below HB1.out) (by omega) (by omega) (by omega) ?_; intro v' w2 ho' hg)
  have hb2 : Below w.heap.size w w2 := HB1.out.grown hg hz1 HO.out.rowLt
  rw [← ints_append] at ho'
  obtain ⟨B, d, rfl, _, _, hrd, _⟩ := ho'.form
  have hln : (snapRec next b).length = x + n := by rw [snapRec, List.length_append, ← HX.out, HBL.out]
  rw [hln] at hlong
  have HB2 := Lib.hid hb2
  clear hg ho' hrd hb2
  refine (make_long B (x + n) d w2 hlong (by omega)).mono ?_
  rintro e w3 ⟨rfl, rfl⟩
  go_wp2
  go_ret
  exact ⟨rfl, HB2.out⟩

set_option maxRecDepth 100000 in
set_option maxHeartbeats 1000000 in
/-- What is written tells an error: so does Save. -/
theorem jsave_fail (h : JAt w T base jb sb turn bs rs false) (A : Option Addr) (n c : Nat) (hr : Rd .u8 w A n (ints b)) (hlt : ∀ x ∈ b, x < 256) (ht : 0 ≤ turn ∧ turn ≤ 1000000) (hn : n ≤ 1000000) {m : Nat} (hm : m = 6 + (snapRec (turn + 1) b).length) (hsh : (snapRec (turn + 1) b).length ≤ 16384) {q : Int} {Q : World → Prop}
    (hw : ∀ w1 B d, Below w.heap.size w w1 → Rd .u8 w1 B m (ints (fmk (snapRec (turn + 1) b))) → Calls Tryz.prog 34 #[.pointer (some ⟨jb, 0, none⟩), .int .i64 1, .slice B m d] w1 fun e w2 => e = .returned (.iface 39 (.int .i64 q)) ∧ Q w2) :
    Calls Tryz.prog 11 #[.pointer (some ⟨jb, 0, none⟩), .slice A n c] w fun e w' => e = .returned (.iface 39 (.int .i64 q)) ∧ Q w' := by
  have c4 := h.c4
  have c1 := h.c1
  have hbl : b.length = n := by have := hr.1; rwa [ints_length] at this
  have hsl := snapRec_len (turn + 1) b (by omega) (by omega)
  have hsm := snapRec_lt (t := turn + 1) hlt
  obtain ⟨next, hnext⟩ : ∃ next, turn + 1 = next := ⟨_, rfl⟩
  rw [hnext] at hsl hsh hw hsm hm
  have HR := Lib.hid hr
  have HBL := Lib.hid hbl
  have HW := Lib.hid hw
  have HSM := Lib.hid hsm
  have hne := enc_len_ten (pairN_lt (n := next) (by omega) (by omega))
  clear h hr hbl hw hsm hlt
  go_enter Tryz.func11, Tryz.ntmps11
  go_wp2_with fail
  refine (all_any (some ⟨w.heap.size, 0, none⟩) 1 1 [next] _ (Rd.oneInt next) (by intro x hx; simp at hx; subst hx; omega) (by omega)).mono ?_
  rintro e w1 ⟨v, rfl, ho, hb⟩
  rw [encs_one] at ho
  have hb1 : Below w.heap.size w w1 := ((Below.refl _ w).alloc (Nat.le_refl _) _).trans (hb.mono (by simp))
  have hz1 := hb1.size
  obtain ⟨x, hx⟩ : ∃ x, x = (enc (pairN next)).length := ⟨_, rfl⟩
  rw [← hx] at ho hne
  have HO := Lib.hid (ho.less (b := w.heap.size) (by simp))
  have HB1 := Lib.hid hb1
  have HX := Lib.hid hx
  clear ho hb hb1 hx
  go_wp2_with (at_builtin; refine wpList_append_ints _ rfl (.tmp 24) (.tmp 25) 34 rfl .u8 1 w.heap.size 5 Tryz.underlying34 info_byte _ x _ rfl HO.out A n c _ rfl (HR.out.below HB1.out) (by omega) (by omega) (by omega) ?_; intro v' w2 ho' hg)
  have hb2 : Below w.heap.size w w2 := HB1.out.grown hg hz1 HO.out.rowLt
  rw [← ints_append] at ho'
  obtain ⟨B, d, rfl, _, _, hrd, _⟩ := ho'.form
  have hln : (snapRec next b).length = x + n := by rw [snapRec, List.length_append, ← HX.out, HBL.out]
  rw [hln] at hsh hm
  have hz2 := hb2.size
  have HB2 := Lib.hid hb2
  have HRD := Lib.hid (show Rd .u8 w2 B (x + n) (ints (snapRec next b)) from hrd)
  clear hg ho' hrd hb2
  refine (make_any B (x + n) d (snapRec next b) w2 HRD.out HSM.out hsh).mono ?_
  rintro e w3 ⟨B3, c3, rfl, hm1, hm2, hrd3, hb3⟩
  rw [fmk_length, hln, ← hm] at hrd3 hm1 ⊢
  have HWW := Lib.hid (HW.out w3 B3 c3 (HB2.out.trans (hb3.mono hz2)) hrd3)
  clear hrd3 hb3 hln hm hm1 hm2
  go_wp2_with fail
  refine HWW.out.mono ?_
  rintro e w4 ⟨rfl, hq⟩
  have HQ := Lib.hid hq
  clear hq
  go_wp2
  go_ret
  exact ⟨rfl, HQ.out⟩
end
end Go.Proofs.YtlakkhhibdcjaaaGreatDoor

namespace Go.Proofs.YtlakkhhibdcjaaaGreatDoor
open Go Go.RowKit Go.Maps
set_option linter.unusedVariables false
section
variable {R S T : Nat → Prop} {w w' : World} {base jb sb : Nat} {room : Int} {ps : List PF} {s : DS} {turn : Int} {bs b : List Nat} {rs : List (List Nat)} {broken : Bool}

theorem Chg.trans {sb : Nat} {w w' w'' : World} (h : Chg sb w w') (k : Chg sb w' w'') : Chg sb w w'' :=
  ⟨k.os.trans h.os, k.tape.trans h.tape, k.output.trans h.output, k.size.trans h.size, fun i hi => (k.block i hi).trans (h.block i hi)⟩

/-- The journal has a new snapshot: what that is in memory. -/
theorem JD.saved (h : JD w S T base jb sb room ps s turn bs rs false) (hbase : base ≤ w.heap.size) {w1 : World} (hb : Below w.heap.size w w1) {v : Value} {n : Nat} (ho : Own 5 .u8 w1 w.heap.size v n (ints b)) (hn : b.length = n) (hlt : ∀ x ∈ b, x < 256) (hlen : n ≤ 1000000) (next : Int) :
    JStep S T w base jb sb room ps s next b [] false (((w1.setCell ⟨jb, 1, none⟩ (.int .i64 next)).setCell ⟨jb, 2, none⟩ v).setCell ⟨jb, 3, none⟩ (.slice none 0 0)) := by
  obtain ⟨bv, rv, hblk, _⟩ := h.jat.blk
  have hjl := (h.jat.low jb h.jat.inT).2
  have hz := hb.size
  have hc : Chg jb w1 (((w1.setCell ⟨jb, 1, none⟩ (.int .i64 next)).setCell ⟨jb, 2, none⟩ v).setCell ⟨jb, 3, none⟩ (.slice none 0 0)) := ((chg_set jb 1 w1 _).trans (chg_set jb 2 _ _)).trans (chg_set jb 3 _ _)
  have hblk1 : w1.heap[jb]? = some (.cells #[.pointer (some ⟨sb, 0, none⟩), .int .i64 turn, bv, rv, .bool false] 68 (0, 0)) := by rw [hb.block jb hjl]; exact hblk
  have hblk4 : (((w1.setCell ⟨jb, 1, none⟩ (.int .i64 next)).setCell ⟨jb, 2, none⟩ v).setCell ⟨jb, 3, none⟩ (.slice none 0 0)).heap[jb]? = some (.cells #[.pointer (some ⟨sb, 0, none⟩), .int .i64 next, v, .slice none 0 0, .bool false] 68 (0, 0)) := by
    simp [World.setCell, Array.getElem?_modify, hblk1]
  obtain ⟨BA, bc, rfl, h1, h2, hrd, _⟩ := ho.form
  have hbT : RowTo (fun i => w.heap.size ≤ i ∧ i < w1.heap.size) (.slice BA n bc) := fun A' n' c' ad he hn ha => by
    injection he with e1 e2 e3
    subst e1 e2
    obtain ⟨ad', ha', hcell⟩ := hrd.2 hn
    have hlt := World.block_lt_of_cell? w1 _ (hcell 0 hn)
    rw [add_block] at hlt
    rw [ha] at ha'
    injection ha' with ha'
    subst ha'
    refine ⟨?_, hlt⟩
    rcases ho.2 with ⟨he', _⟩ | ⟨g, cap', cur, he', hg', _⟩
    · injection he' with e4; rw [e4] at ha; cases ha
    · injection he' with e4
      rw [e4] at ha
      injection ha with ha
      subst ha
      exact hg'
  generalize (((w1.setCell ⟨jb, 1, none⟩ (.int .i64 next)).setCell ⟨jb, 2, none⟩ (.slice BA n bc)).setCell ⟨jb, 3, none⟩ (.slice none 0 0)) = w4 at *
  have hz4 := hc.size
  refine ⟨S, fun i => i = jb ∨ (w.heap.size ≤ i ∧ i < w1.heap.size), ⟨?_, ⟨⟨_, _, hblk4, ?_, ?_, RowsT.nil⟩, .inl rfl, ?_, ⟨hlt, by simp⟩, ⟨by simp, by omega, by simp⟩⟩, ?_⟩, ?_, ?_⟩
  · refine h.disk.same (fun i hi => ?_) (by omega)
    rw [hc.block i (fun e => h.apt i hi (by rw [e]; exact h.jat.inT)), hb.block i (h.disk.low i hi).2]
  · refine ⟨BA, bc, by rw [hn], by rw [hn]; exact h1, h2, ?_, fun _ ad _ e => by cases e⟩
    rw [hn]
    exact hrd.same fun ad ha hn' => hc.block _ (fun e => by have := (hbT BA n bc ad rfl hn' ha).1; omega)
  · exact hbT.wide fun i hi => ⟨.inr hi, by have := hi.1; omega⟩
  · intro i hi
    rw [hz4]
    rcases hi with rfl | hi
    · have := h.jat.low i h.jat.inT; omega
    · omega
  · intro i hs ht
    rcases ht with rfl | ht
    · exact h.apt i hs h.jat.inT
    · have := (h.disk.low i hs).2; omega
  · exact (Fr.of_below (S := joined S T) hb).trans (hc.fr (S := joined S T) (.inr h.jat.inT)) (Wider.refl _ _)
  · intro i hi
    rcases hi with hi | rfl | hi
    · exact .inl (.inl hi)
    · exact .inl (.inr h.jat.inT)
    · exact .inr hi.1

set_option maxRecDepth 100000 in
set_option maxHeartbeats 2000000 in
theorem jsave_go (h : JD w S T base jb sb room ps s turn bs rs false) (A : Option Addr) (n c : Nat) (hr : Rd .u8 w A n (ints b)) (hto : RowTo R (.slice A n c)) (hR : ∀ i, R i → i < w.heap.size ∧ ¬ joined S T i) (hlt : ∀ x ∈ b, x < 256) (ht : 0 ≤ turn ∧ turn ≤ 1000000) (hn : n ≤ 1000000)
    (hbase : base ≤ w.heap.size) {m : Nat} (hm : m = 6 + (snapRec (turn + 1) b).length) (hsh : (snapRec (turn + 1) b).length ≤ 16384) {k0 : Int} (hk0 : IntKind.i64.wrap (2 + turn) = k0) {ps1 : List PF} {s1 : DS} {z1 : List Nat} {n1 : Nat} {E : Value} {Q : World → Prop}
    (hw : ∀ w1 B d, JD w1 S T base jb sb room ps s turn bs rs false → w.heap.size ≤ w1.heap.size → Rd .u8 w1 B m (ints (fmk (snapRec (turn + 1) b))) → Calls Tryz.prog 34 #[.pointer (some ⟨jb, 0, none⟩), .int .i64 1, .slice B m d] w1 fun e w2 => e = .returned .nilIface ∧ JStep S T w1 base jb sb room ps1 s1 turn bs rs false w2)
    (hs1 : s1.stopped = false) (hh1 : s1.hit = false) (hl1 : s1.left ≤ 4611686018427387904) (hg1 : pget ps1 1 = some (z1, n1)) (hlen1 : ps1.length < 900)
    (hdrop : ∀ w4 S4 T4, JD w4 S4 T4 base jb sb room (pput (pdel ps1 1) 0 z1 n1) s1.go (turn + 1) b [] false → Fr (joined S T) w w4 → Wider (joined S T) (joined S4 T4) w → w.heap.size ≤ w4.heap.size → Calls Tryz.prog 39 #[.pointer (some ⟨jb, 0, none⟩), .int .i64 k0] w4 fun e w5 => e = .returned E ∧ Q w5) :
    Calls Tryz.prog 11 #[.pointer (some ⟨jb, 0, none⟩), .slice A n c] w fun e w' => e = .returned E ∧ Q w' := by
  have c4 := h.jat.c4
  have c1 := h.jat.c1
  have hbl : b.length = n := by have := hr.1; rwa [ints_length] at this
  have hsl := snapRec_len (turn + 1) b (by omega) (by omega)
  have hsm := snapRec_lt (t := turn + 1) hlt
  obtain ⟨next, hnext⟩ : ∃ next, turn + 1 = next := ⟨_, rfl⟩
  rw [hnext] at hsl hsh hw hsm hm hdrop
  have HJ := Lib.hid h
  have HR := Lib.hid hr
  have HBL := Lib.hid hbl
  have HW := Lib.hid hw
  have HSM := Lib.hid hsm
  have HLT := Lib.hid hlt
  have HRR := Lib.hid hR
  have HTO := Lib.hid hto
  have HDROP := Lib.hid hdrop
  have HG1 := Lib.hid hg1
  have HK0 := Lib.hid hk0
  have hne := enc_len_ten (pairN_lt (n := next) (by omega) (by omega))
  clear h hr hbl hw hsm hlt hR hto hdrop hg1 hk0
  go_enter Tryz.func11, Tryz.ntmps11
  go_wp2_with fail
  refine (all_any (some ⟨w.heap.size, 0, none⟩) 1 1 [next] _ (Rd.oneInt next) (by intro x hx; simp at hx; subst hx; omega) (by omega)).mono ?_
  rintro e w1 ⟨v, rfl, ho, hb⟩
  rw [encs_one] at ho
  have hb1 : Below w.heap.size w w1 := ((Below.refl _ w).alloc (Nat.le_refl _) _).trans (hb.mono (by simp))
  have hz1 := hb1.size
  obtain ⟨x, hx⟩ : ∃ x, x = (enc (pairN next)).length := ⟨_, rfl⟩
  rw [← hx] at ho hne
  have HO := Lib.hid (ho.less (b := w.heap.size) (by simp))
  have HB1 := Lib.hid hb1
  have HX := Lib.hid hx
  clear ho hb hb1 hx
  go_wp2_with (at_builtin; refine wpList_append_ints _ rfl (.tmp 24) (.tmp 25) 34 rfl .u8 1 w.heap.size 5 Tryz.underlying34 info_byte _ x _ rfl HO.out A n c _ rfl (HR.out.below HB1.out) (by omega) (by omega) (by omega) ?_; intro v' w2 ho' hg)
  have hb2 : Below w.heap.size w w2 := HB1.out.grown hg hz1 HO.out.rowLt
  rw [← ints_append] at ho'
  obtain ⟨B, d, rfl, _, _, hrd, _⟩ := ho'.form
  have hln : (snapRec next b).length = x + n := by rw [snapRec, List.length_append, ← HX.out, HBL.out]
  rw [hln] at hsh hm
  have hz2 := hb2.size
  have HB2 := Lib.hid hb2
  have HRD := Lib.hid (show Rd .u8 w2 B (x + n) (ints (snapRec next b)) from hrd)
  clear hg ho' hrd hb2
  refine (make_any B (x + n) d (snapRec next b) w2 HRD.out HSM.out hsh).mono ?_
  rintro e w3 ⟨B3, c3, rfl, hm1, hm2, hrd3, hb3⟩
  rw [fmk_length, hln, ← hm] at hrd3 hm1 ⊢
  have hb3' : Below w.heap.size w w3 := HB2.out.trans (hb3.mono hz2)
  have hz3 := hb3'.size
  have HWW := Lib.hid (HW.out w3 B3 c3 (HJ.out.below hb3') hz3 hrd3)
  have HB3 := Lib.hid hb3'
  clear hrd3 hb3 hb3' hln hm hm1 hm2
  go_wp2_with fail
  refine HWW.out.mono ?_
  rintro e w4 ⟨rfl, S4, T4, hj4, hf4, hw4⟩
  have hz4 := hf4.size
  have HJ4 := Lib.hid hj4
  have HF4 := Lib.hid ((Fr.of_below (S := joined S T) HB3.out).trans hf4 (Wider.refl _ _))
  have HW4 := Lib.hid (show Wider (joined S T) (joined S4 T4) w from fun i hi => (hw4 i hi).imp id (fun h => by omega))
  clear hj4 hf4 hw4
  go_wp2_with fail
  refine (files_any HJ4.out.jat).mono ?_
  rintro e w5 ⟨rfl, rfl⟩
  go_wp2_with fail
  refine (rename_q HJ4.out.disk hs1 hh1 hl1 (wf3 1 (by omega)) (wf3 0 (by omega)) HG1.out (by omega)).mono ?_
  rintro e w5 ⟨rfl, hs5⟩
  obtain ⟨S5, T5, hj5, hf5, hw5⟩ := HJ4.out.step hs5
  have hz5 := hf5.size
  have HJ5 := Lib.hid hj5
  have HF5 := Lib.hid (HF4.out.trans hf5 HW4.out)
  have HW5 := Lib.hid (HW4.out.trans hw5 HF4.out.size)
  clear hs5 hj5 hf5 hw5
  go_wp2_with fail
  refine (note_nil HJ5.out.jat).mono ?_
  rintro e w6 ⟨rfl, rfl⟩
  have c1' := HJ5.out.jat.c1
  go_wp2_with fail
  refine (fileOf_any turn k0 HK0.out w5).mono ?_
  rintro e w6 ⟨rfl, rfl⟩
  have hr5 : Rd .u8 w5 A n (ints b) := HR.out.same fun ad ha hn' => HF5.out.block _ (HRR.out _ (HTO.out A n c ad rfl hn' ha)).1 (HRR.out _ (HTO.out A n c ad rfl hn' ha)).2
  have HR5 := Lib.hid hr5
  clear hr5
  go_wp2_with fail
  refine (clone_any A n c b w5 HR5.out (by omega)).mono ?_
  rintro e w6 ⟨v6, rfl, ho6, hb6⟩
  rw [HBL.out] at ho6
  have hz6 := hb6.size
  have hj6 := HJ5.out.jat.below hb6
  have d1 := hj6.c1
  obtain ⟨bv, rv, hblk, _⟩ := hj6.blk
  obtain ⟨BA, bc, rfl, _, _, _, _⟩ := ho6.form
  have d2 : w6.cell? ⟨jb, 2, none⟩ = some bv := by simp [World.cell?, hblk]
  have d3 : w6.cell? ⟨jb, 3, none⟩ = some rv := by simp [World.cell?, hblk]
  have df := hj6.fz
  obtain ⟨S7, T7, hj7, hf7, hw7⟩ := HJ5.out.saved (by omega) hb6 ho6 HBL.out HLT.out hn next
  have hz7 := hf7.size
  have HD7 := Lib.hid (HDROP.out _ S7 T7 hj7 (HF5.out.trans hf7 HW5.out) (HW5.out.trans hw7 HF5.out.size) (by omega))
  clear ho6 hb6 hj6 hblk hj7 hf7 hw7 c1' c1
  go_wp2_with fail
  refine HD7.out.mono ?_
  rintro e w8 ⟨rfl, hq⟩
  have HQ := Lib.hid hq
  clear hq d1 d2 d3 df
  go_wp2
  go_ret
  exact ⟨rfl, HQ.out⟩

set_option maxRecDepth 100000 in
set_option maxHeartbeats 2000000 in
/-- The disk stops at the rename. -/
theorem jsave_stuck (h : JD w S T base jb sb room ps s turn bs rs false) (A : Option Addr) (n c : Nat) (hr : Rd .u8 w A n (ints b)) (hlt : ∀ x ∈ b, x < 256) (ht : 0 ≤ turn ∧ turn ≤ 1000000) (hn : n ≤ 1000000)
    {m : Nat} (hm : m = 6 + (snapRec (turn + 1) b).length) (hsh : (snapRec (turn + 1) b).length ≤ 16384) {ps1 : List PF} {s1 : DS} {z1 : List Nat} {n1 : Nat}
    (hw : ∀ w1 B d, JD w1 S T base jb sb room ps s turn bs rs false → w.heap.size ≤ w1.heap.size → Rd .u8 w1 B m (ints (fmk (snapRec (turn + 1) b))) → Calls Tryz.prog 34 #[.pointer (some ⟨jb, 0, none⟩), .int .i64 1, .slice B m d] w1 fun e w2 => e = .returned .nilIface ∧ JStep S T w1 base jb sb room ps1 s1 turn bs rs false w2)
    (hs1 : s1.stopped = false) (hh1 : s1.hit = true) (hg1 : pget ps1 1 = some (z1, n1)) :
    Calls Tryz.prog 11 #[.pointer (some ⟨jb, 0, none⟩), .slice A n c] w fun e w' => e = .returned (.iface 39 (.int .i64 12)) ∧ JStep S T w base jb sb room ps1 s1.stop turn bs rs true w' := by
  have c4 := h.jat.c4
  have c1 := h.jat.c1
  have hbl : b.length = n := by have := hr.1; rwa [ints_length] at this
  have hsl := snapRec_len (turn + 1) b (by omega) (by omega)
  have hsm := snapRec_lt (t := turn + 1) hlt
  obtain ⟨next, hnext⟩ : ∃ next, turn + 1 = next := ⟨_, rfl⟩
  rw [hnext] at hsl hsh hw hsm hm
  have HJ := Lib.hid h
  have HR := Lib.hid hr
  have HBL := Lib.hid hbl
  have HW := Lib.hid hw
  have HSM := Lib.hid hsm
  have HG1 := Lib.hid hg1
  have hne := enc_len_ten (pairN_lt (n := next) (by omega) (by omega))
  clear h hr hbl hw hsm hlt hg1
  go_enter Tryz.func11, Tryz.ntmps11
  go_wp2_with fail
  refine (all_any (some ⟨w.heap.size, 0, none⟩) 1 1 [next] _ (Rd.oneInt next) (by intro x hx; simp at hx; subst hx; omega) (by omega)).mono ?_
  rintro e w1 ⟨v, rfl, ho, hb⟩
  rw [encs_one] at ho
  have hb1 : Below w.heap.size w w1 := ((Below.refl _ w).alloc (Nat.le_refl _) _).trans (hb.mono (by simp))
  have hz1 := hb1.size
  obtain ⟨x, hx⟩ : ∃ x, x = (enc (pairN next)).length := ⟨_, rfl⟩
  rw [← hx] at ho hne
  have HO := Lib.hid (ho.less (b := w.heap.size) (by simp))
  have HB1 := Lib.hid hb1
  have HX := Lib.hid hx
  clear ho hb hb1 hx
  go_wp2_with (at_builtin; refine wpList_append_ints _ rfl (.tmp 24) (.tmp 25) 34 rfl .u8 1 w.heap.size 5 Tryz.underlying34 info_byte _ x _ rfl HO.out A n c _ rfl (HR.out.below HB1.out) (by omega) (by omega) (by omega) ?_; intro v' w2 ho' hg)
  have hb2 : Below w.heap.size w w2 := HB1.out.grown hg hz1 HO.out.rowLt
  rw [← ints_append] at ho'
  obtain ⟨B, d, rfl, _, _, hrd, _⟩ := ho'.form
  have hln : (snapRec next b).length = x + n := by rw [snapRec, List.length_append, ← HX.out, HBL.out]
  rw [hln] at hsh hm
  have hz2 := hb2.size
  have HB2 := Lib.hid hb2
  have HRD := Lib.hid (show Rd .u8 w2 B (x + n) (ints (snapRec next b)) from hrd)
  clear hg ho' hrd hb2
  refine (make_any B (x + n) d (snapRec next b) w2 HRD.out HSM.out hsh).mono ?_
  rintro e w3 ⟨B3, c3, rfl, hm1, hm2, hrd3, hb3⟩
  rw [fmk_length, hln, ← hm] at hrd3 hm1 ⊢
  have hb3' : Below w.heap.size w w3 := HB2.out.trans (hb3.mono hz2)
  have hz3 := hb3'.size
  have HWW := Lib.hid (HW.out w3 B3 c3 (HJ.out.below hb3') hz3 hrd3)
  have HB3 := Lib.hid hb3'
  clear hrd3 hb3 hb3' hln hm hm1 hm2
  go_wp2_with fail
  refine HWW.out.mono ?_
  rintro e w4 ⟨rfl, S4, T4, hj4, hf4, hw4⟩
  have hz4 := hf4.size
  have HJ4 := Lib.hid hj4
  have HF4 := Lib.hid ((Fr.of_below (S := joined S T) HB3.out).trans hf4 (Wider.refl _ _))
  have HW4 := Lib.hid (show Wider (joined S T) (joined S4 T4) w from fun i hi => (hw4 i hi).imp id (fun h => by omega))
  clear hj4 hf4 hw4
  go_wp2_with fail
  refine (files_any HJ4.out.jat).mono ?_
  rintro e w5 ⟨rfl, rfl⟩
  go_wp2_with fail
  refine (rename_hit HJ4.out.disk hs1 hh1 0 (wf3 1 (by omega)) HG1.out).mono ?_
  rintro e w5 ⟨rfl, hs5⟩
  obtain ⟨S5, T5, hj5, hf5, hw5⟩ := HJ4.out.step hs5
  have HJ5 := Lib.hid hj5
  have HF5 := Lib.hid (HF4.out.trans hf5 HW4.out)
  have HW5 := Lib.hid (HW4.out.trans hw5 HF4.out.size)
  clear hs5 hj5 hf5 hw5
  go_wp2_with fail
  refine (note_crash HJ5.out.jat).mono ?_
  rintro e w6 ⟨rfl, hj6, hc6⟩
  have HS6 := Lib.hid (JStep.trans (ps := ps) (s := s) HF5.out HW5.out (HJ5.out.crash hj6 hc6))
  clear hj6 hc6
  go_wp2
  go_ret
  exact ⟨rfl, HS6.out⟩
end
end Go.Proofs.YtlakkhhibdcjaaaGreatDoor

namespace Go.Proofs.YtlakkhhibdcjaaaGreatDoor
open Go Go.RowKit Go.Maps
set_option linter.unusedVariables false

theorem drewN_below {B : Nat} {a w : World} (h : Below B a w) (n : Nat) : Below B a (w.drewN n) := ⟨h.os, h.tape, h.output, h.size, h.block⟩

/-- A slice of strings that reads. -/
def RdStrs (w : World) (A : Option Addr) (qs : List (List Nat)) : Prop := 0 < qs.length → ∃ ad, A = some ad ∧ ∀ (j : Nat) r, qs[j]? = some r → w.cell? (ad.add j) = some (.string (strN r))
theorem RdStrs.nil {w : World} {A : Option Addr} : RdStrs w A [] := fun h => by simp at h
theorem RdStrs.below {w w' : World} {A : Option Addr} {qs : List (List Nat)} (h : RdStrs w A qs) (hb : Below w.heap.size w w') : RdStrs w' A qs := fun hn => by
  obtain ⟨ad, he, hc⟩ := h hn
  refine ⟨ad, he, fun j r hj => ?_⟩
  have hu := hc j r hj
  rw [hb.cell (World.block_lt_of_cell? w _ hu)]; exact hu

section
variable {T : Nat → Prop} {w : World} {base jb sb : Nat} {turn : Int} {bs : List Nat} {rs : List (List Nat)} {broken : Bool}

theorem take_snoc_ne {rs qs : List (List Nat)} (hl : rs.length = qs.length) {k : Nat} (hk : k < rs.length) (hq : k < qs.length) (h : rs.take k = qs.take k) (he : rs[k] = qs[k]) : rs.take (k + 1) = qs.take (k + 1) := by
  rw [List.take_succ_eq_append_getElem hk, List.take_succ_eq_append_getElem hq, h, he]

set_option maxRecDepth 100000 in
set_option maxHeartbeats 2000000 in
theorem shows_any (h : JAt w T base jb sb turn bs rs broken) (b' : List Nat) (hb' : ∀ x ∈ b', x < 256) (A : Option Addr) (len cap : Nat) (qs : List (List Nat)) (hql : qs.length = len) (hq : RdStrs w A qs) (hqt : ∀ r ∈ qs, ∀ x ∈ r, x < 256) (hlen : len ≤ 1000000) (t' : Int)
    (t : Bool) (ht : decide (bs = b' ∧ turn = t' ∧ rs = qs) = t) :
    Calls Tryz.prog 17 #[.pointer (some ⟨jb, 0, none⟩), .string (strN b'), .slice A len cap, .int .i64 t'] w fun e w' => e = .returned (.bool t) ∧ Below w.heap.size w w' := by
  have hjlt := h.lt
  have hjfew := h.few
  have HJ := Lib.hid h
  have HQ := Lib.hid hq
  have HQL := Lib.hid hql
  have HQT := Lib.hid hqt
  have HT := Lib.hid ht
  have hsb := strN_beq hjlt.1 hb'
  obtain ⟨e1, he1⟩ : ∃ e1, decide (bs = b') = e1 := ⟨_, rfl⟩
  rw [he1] at hsb
  have HE1 := Lib.hid he1
  have HLT := Lib.hid hjlt.2
  clear h hq hql hqt ht he1 hjlt
  go_enter Tryz.func17, Tryz.ntmps17
  go_wp2_with fail
  refine (records_any HJ.out).mono ?_
  rintro e w1 ⟨v1, rfl, hrows, hb1⟩
  obtain ⟨A1, c1, rfl, _, _, hrd1⟩ := hrows.own.form
  obtain ⟨m, hm⟩ : ∃ m, m = rs.length := ⟨_, rfl⟩
  rw [← hm] at hjfew ⊢
  have hmf := hjfew.1
  have hz1 := hb1.size
  have HB1 := Lib.hid hb1
  have HM := Lib.hid hm
  have HRD1 := Lib.hid hrd1
  have HJ1 := Lib.hid (HJ.out.below hb1)
  clear hrows hb1 hm hrd1 hjfew
  go_wp2_with fail
  refine (base_any HJ1.out).mono ?_
  rintro e w2 ⟨v2, rfl, ho2, hb2⟩
  obtain ⟨A2, c2, rfl, _, _, hrd2, _⟩ := ho2.form
  have d1 := str_of w2 A2 bs.length c2 bs hrd2
  obtain ⟨n2, hn2⟩ : ∃ n2, n2 = bs.length := ⟨_, rfl⟩
  rw [← hn2] at d1 ⊢
  have hb2' : Below w.heap.size w w2 := HB1.out.trans (hb2.mono hz1)
  have HB2 := Lib.hid hb2'
  have hz2 := hb2'.size
  have HJ2 := Lib.hid (HJ1.out.below hb2)
  have HRD2 := Lib.hid (HRD1.out.below hb2)
  clear ho2 hb2 hb2' hrd2 hn2
  cases e1 with
  | false =>
    go_wp2
    go_ret
    refine ⟨?_, HB2.out⟩
    rw [← HT.out]
    have : ¬ (bs = b' ∧ turn = t' ∧ rs = qs) := fun h => of_decide_eq_false HE1.out h.1
    simp [this]
  | true =>
    go_wp2_with fail
    refine (turn_any HJ2.out).mono ?_
    rintro e w3 ⟨rfl, rfl⟩
    by_cases htt : turn = t'
    · by_cases hll : m = len
      · have t0 := eqT htt
        have t1 := eqT (show (m : Int) = (len : Int) by omega)
        have hrl : rs.length = qs.length := by rw [← HM.out, HQL.out]; exact hll
        have HRL := Lib.hid hrl
        clear hrl
        go_wp2
        clear d1
        go_loopw [33] (fun i wr => ∃ k : Nat, k ≤ m ∧ i = .int .i64 (k : Int) ∧ rs.take k = qs.take k ∧ Below w2.heap.size w2 wr) (fun i _ => m - (intOf i).toNat)
        case atStart => exact ⟨0, Nat.zero_le _, rfl, rfl, Below.refl _ _⟩
        case round =>
          obtain ⟨k, hk, rfl, hsame, hbel⟩ := hrel
          by_cases hlt : k < m
          · have hkr : k < rs.length := by rw [← HM.out]; exact hlt
            have hkq : k < qs.length := by rw [← HRL.out]; exact hkr
            obtain ⟨ad, B, c, rfl, hcell, h1, h2, hrd⟩ := (HRD2.out.below hbel).at_ hkr
            obtain ⟨ad', rfl, hcs⟩ := ((HQ.out.below HB2.out).below hbel) (by omega)
            have hcell' := hcs k qs[k] (List.getElem?_eq_getElem hkq)
            have d2 := fun n : Nat => str_of (wr.drewN n) B rs[k].length c rs[k] (hrd.drewN n)
            have hse := strN_beq (HLT.out _ (List.getElem_mem hkr)) (HQT.out _ (List.getElem_mem hkq))
            have hnx := take_snoc_ne HRL.out hkr hkq hsame
            have hne : rs[k] ≠ qs[k] → rs ≠ qs := fun hne e => hne (by simp [e])
            obtain ⟨x, hx⟩ : ∃ x, x = rs[k] := ⟨_, rfl⟩
            obtain ⟨y, hy⟩ : ∃ y, y = qs[k] := ⟨_, rfl⟩
            rw [← hx] at hcell d2 hse hnx hne
            rw [← hy] at hcell' hse hnx hne
            obtain ⟨z, hz⟩ : ∃ z, z = x.length := ⟨_, rfl⟩
            rw [← hz] at hcell d2
            have HNX := Lib.hid hnx
            have HNE := Lib.hid hne
            have HBEL := Lib.hid hbel
            obtain ⟨q, hq⟩ : ∃ q, decide (x = y) = q := ⟨_, rfl⟩
            rw [hq] at hse
            have HQQ := Lib.hid hq
            have hm2 : (k : Int) < (len : Int) := by omega
            clear hkr hkq hcs h1 h2 hrd hnx hne hx hy hz hbel hsame hq
            go_wp2
            go_quiet (fail)
            cases q with
            | true =>
              go_wp2
              go_roundw
              case rel => exact ⟨k + 1, by omega, by go_num, HNX.out (of_decide_eq_true HQQ.out), drewN_below HBEL.out _⟩
              case measure => simp [intOf]; omega
            | false =>
              go_wp2
              go_ret
              refine ⟨?_, HB2.out.trans ((drewN_below HBEL.out _).mono hz2)⟩
              rw [← HT.out]
              have : ¬ (bs = b' ∧ turn = t' ∧ rs = qs) := fun h => HNE.out (of_decide_eq_false HQQ.out) h.2.2
              simp [this]
          · obtain rfl : k = m := by omega
            have hall : rs = qs := by
              rw [List.take_of_length_le (by rw [HM.out]; omega), List.take_of_length_le (by rw [← HRL.out, HM.out]; omega)] at hsame
              exact hsame
            have HBEL := Lib.hid hbel
            have HALL := Lib.hid hall
            clear hbel hall hsame
            go_wp2
            go_ret
            refine ⟨?_, HB2.out.trans (HBEL.out.mono hz2)⟩
            rw [← HT.out]
            have : bs = b' ∧ turn = t' ∧ rs = qs := ⟨of_decide_eq_true HE1.out, htt, HALL.out⟩
            simp [this]
      · have t0 := eqT htt
        have t1 := eqF (show (m : Int) ≠ (len : Int) by omega)
        go_wp2
        go_ret
        refine ⟨?_, HB2.out⟩
        rw [← HT.out]
        have : ¬ (bs = b' ∧ turn = t' ∧ rs = qs) := fun h => hll (by rw [HM.out, h.2.2, HQL.out])
        simp [this]
    · have t0 := eqF htt
      go_wp2
      go_ret
      refine ⟨?_, HB2.out⟩
      rw [← HT.out]
      have : ¬ (bs = b' ∧ turn = t' ∧ rs = qs) := fun h => htt h.2.1
      simp [this]
end
end Go.Proofs.YtlakkhhibdcjaaaGreatDoor

namespace Go.Proofs.YtlakkhhibdcjaaaGreatDoor
open Go Go.RowKit Go.Maps
set_option linter.unusedVariables false

/-- The snapshot's file. -/
def snapF (t : Nat) (b : List Nat) : List PF := if t = 0 then [] else [(0, fmk (snapRec t b), (fmk (snapRec t b)).length)]
/-- The records' file, if there is one. -/
def recF (t : Nat) : Option (List (List Nat)) → List PF
  | none => []
  | some rs => [(2 + (t : Int), flat rs, (flat rs).length)]
/-- A journal's files. -/
def jf (t : Nat) (b : List Nat) (o : Option (List (List Nat))) : List PF := snapF t b ++ recF t o

section
variable (t : Nat) (b : List Nat) (o : Option (List (List Nat)))

theorem jf_len : (jf t b o).length ≤ 2 := by
  unfold jf snapF
  cases o <;> split <;> simp [recF]
theorem jf_rec : pget (jf t b o) (2 + (t : Int)) = o.map fun rs => (flat rs, (flat rs).length) := by
  have h0 : ((0 : Int) == 2 + (t : Int)) = false := by simp; omega
  unfold jf snapF
  cases o <;> split <;> simp [recF, pget, h0]
theorem jf_snap : pget (jf t b o) 0 = if t = 0 then none else some (fmk (snapRec t b), (fmk (snapRec t b)).length) := by
  have h0 : ((2 + (t : Int)) == 0) = false := by simp; omega
  unfold jf snapF
  cases o <;> split <;> simp [recF, pget, h0]
theorem jf_one : pget (jf t b o) 1 = none := by
  have h0 : ((2 + (t : Int)) == 1) = false := by simp; omega
  unfold jf snapF
  cases o <;> split <;> simp [recF, pget, h0]
theorem jf_put (rs : List (List Nat)) : pput (jf t b o) (2 + (t : Int)) (flat rs) (flat rs).length = jf t b (some rs) := by
  have h0 : ¬ (2 + (t : Int) < 0) := by omega
  have h1 : ((0 : Int) == 2 + (t : Int)) = false := by simp; omega
  unfold jf snapF
  cases o <;> split <;> simp [recF, pput, pdel, pins, h0, h1]
theorem jf_kept : (jf t b o).filter (kept (2 + (t : Int))) = jf t b o := by
  rw [List.filter_eq_self]
  intro p hp
  unfold jf snapF at hp
  cases o <;> split at hp <;> simp [recF] at hp <;> simp [kept, hp]
  rcases hp with rfl | rfl <;> simp
theorem jf_total : ptotal (jf t b o) = (if t = 0 then 0 else (fmk (snapRec t b)).length) + (match o with | none => 0 | some rs => (flat rs).length) := by
  unfold jf snapF
  cases o <;> split <;> simp [recF, ptotal]
theorem jf_mem : ∀ p ∈ jf t b o, p.2.1.length ≤ ptotal (jf t b o) ∧ p.2.2 = p.2.1.length ∧ (p.1 = 0 ∨ p.1 = 2 + (t : Int)) := by
  intro p hp
  rw [jf_total]
  unfold jf snapF at hp
  cases o <;> split at hp <;> simp [recF] at hp
  · subst hp; simp [*]
  · subst hp; simp
  · rcases hp with rfl | rfl <;> simp [*]
theorem jf_rst (keep : Int) : (jf t b o).map (rst keep) = jf t b o := by
  conv => rhs; rw [← List.map_id (jf t b o)]
  apply List.map_congr_left
  intro p hp
  have h := (jf_mem t b o p hp).2.1
  obtain ⟨k, zs, n⟩ := p
  simp only at h
  subst h
  simp [rst, Int.emod_one]
theorem jf_nil : jf 0 [] none = [] := rfl
end

theorem snapB_mk {t : Nat} {b : List Nat} (ht : 1 ≤ t) (htm : t ≤ 1000000) (h : (snapRec t b).length ≤ 16384) : snapB (fmk (snapRec (t : Int) b)) = some ((t : Int), b) := by
  have h1 := fone_mk (snapRec (t : Int) b) [] h
  rw [List.append_nil] at h1
  have h2 := rd_enc (pairN_lt (n := (t : Int)) (by omega) (by omega)) b
  unfold snapB
  rw [h1]
  simp only
  rw [if_pos (fmk_length _).symm]
  unfold snapRec
  rw [h2]
  simp only [unp_pair]
  rw [if_neg (by omega), List.drop_left]

theorem turn_wrap (t : Nat) (h : t ≤ 1000000) : IntKind.i64.wrap (2 + (t : Int)) = 2 + (t : Int) := by rw [IntKind.wrap_i64]; omega
theorem turn_wf (t : Nat) (h : t ≤ 1000000) : (Lit.int .i64 (2 + (t : Int))).wf = true := by
  have e1 : IntKind.i64.min = -9223372036854775808 := rfl
  have e2 : IntKind.i64.max = 9223372036854775807 := rfl
  simp only [Lit.wf, Bool.and_eq_true, decide_eq_true_eq]
  omega

/-- A journal that is as it should be, on a calm disk: its snapshot fits a frame, its records too; all fits the disk. -/
structure Jn (w : World) (S T : Nat → Prop) (base jb sb : Nat) (room : Int) (t : Nat) (b : List Nat) (rs : List (List Nat)) (o : Option (List (List Nat))) : Prop where
  jd : JD w S T base jb sb room (jf t b o) calm t b rs false
  recs : o.getD [] = rs
  zero : t = 0 → b = []
  small : t ≤ 100000
  snap : (snapRec t b).length ≤ 16384
  short : ∀ r ∈ rs, r.length ≤ 16384
  fits : (ptotal (jf t b o) : Int) ≤ room
  room_ : 0 ≤ room ∧ room ≤ 262144
  base_ : base ≤ w.heap.size

section
variable {R S T : Nat → Prop} {w w' : World} {base jb sb : Nat} {room : Int} {t : Nat} {b b' : List Nat} {rs ns : List (List Nat)} {o : Option (List (List Nat))}

theorem Jn.below (h : Jn w S T base jb sb room t b rs o) (hb : Below w.heap.size w w') : Jn w' S T base jb sb room t b rs o :=
  ⟨h.jd.below hb, h.recs, h.zero, h.small, h.snap, h.short, h.fits, h.room_, Nat.le_trans h.base_ hb.size⟩
theorem Jn.alloc (h : Jn w S T base jb sb room t b rs o) (ob : Obj) : Jn (w.alloc ob) S T base jb sb room t b rs o := h.below ((Below.refl _ _).alloc (Nat.le_refl _) _)
theorem Jn.recLen (h : Jn w S T base jb sb room t b rs o) : rs.length ≤ 50000 := by
  have h1 := h.fits
  have h2 := h.room_.2
  rw [jf_total] at h1
  have h3 := h.recs
  cases o with
  | none => simp at h3; subst h3; simp
  | some qs => simp at h3; subst h3; have := flat_len qs; simp only at h1; omega

/-- What a call of a journal leaves. -/
def JnStep (S T : Nat → Prop) (w : World) (base jb sb : Nat) (room : Int) (t : Nat) (b : List Nat) (rs : List (List Nat)) (o : Option (List (List Nat))) (w' : World) : Prop :=
  ∃ S' T', Jn w' S' T' base jb sb room t b rs o ∧ Fr (joined S T) w w' ∧ Wider (joined S T) (joined S' T') w

/-- Append, where there is room. -/
theorem append_calm (h : Jn w S T base jb sb room t b rs o) (A : Option Addr) (len cap : Nat) (hrl : ns.length = len) (hr : RdRowsR R w A ns) (hR : ∀ i, R i → i < w.heap.size ∧ ¬ joined S T i) (hlt : ∀ r ∈ ns, ∀ x ∈ r, x < 256) (hlen : len ≤ 10000)
    (hshort : ∀ r ∈ ns, r.length ≤ 16384) (hfit : (ptotal (jf t b o) : Int) + (flat ns).length ≤ room) :
    Calls Tryz.prog 18 #[.pointer (some ⟨jb, 0, none⟩), .slice A len cap] w fun e w' => e = .returned .nilIface ∧ JnStep S T w base jb sb room t b (rs ++ ns) (some (rs ++ ns)) w' := by
  have hrm := h.room_
  have hsm := h.small
  have hrec := h.recs
  have hg : (pget (jf t b o) (2 + (t : Int))).getD ([], 0) = (flat rs, (flat rs).length) := by
    rw [jf_rec]
    cases o with
    | none => simp at hrec; subst hrec; rfl
    | some qs => simp at hrec; subst hrec; rfl
  have hjl := jf_len t b o
  refine (jappend_done h.jd A len cap hrl hr hR hlt hlen (by omega) hshort (by have := h.recLen; omega) h.base_ (turn_wrap t (by omega)) (ps' := jf t b (some (rs ++ ns))) (s' := calm) fun w1 B d hj hz hrd => ?_).mono ?_
  · have hw := write_ok hj rfl rfl rfl (by show 0 ≤ _; omega) (turn_wf t (by omega)) B _ d (flat ns) hrd (flat_lt hlt) hg hrm.2 hfit (by omega) (by have := h.base_; omega)
    rw [← flat_append, jf_put] at hw
    exact hw
  · rintro e w' ⟨rfl, S', T', hj, hf, hw⟩
    refine ⟨rfl, S', T', ⟨hj, rfl, h.zero, h.small, h.snap, ?_, ?_, h.room_, Nat.le_trans h.base_ hf.size⟩, hf, hw⟩
    · intro r hr
      rcases List.mem_append.1 hr with hr | hr
      · exact h.short r hr
      · exact hshort r hr
    · rw [jf_total] at hfit ⊢
      simp only [flat_append, List.length_append]
      cases o with
      | none => simp at hrec; subst hrec; simp only [flat_nil, List.length_nil] at hfit ⊢; omega
      | some qs => simp at hrec; subst hrec; simp only at hfit; omega

/-- Append, where there is no room. -/
theorem append_full_ (h : Jn w S T base jb sb room t b rs o) (A : Option Addr) (len cap : Nat) (hrl : ns.length = len) (hr : RdRows w A ns) (hlt : ∀ r ∈ ns, ∀ x ∈ r, x < 256) (hlen : len ≤ 10000) (hfl : (flat ns).length ≤ 1000000000)
    (hshort : ∀ r ∈ ns, r.length ≤ 16384) (hfit : room < (ptotal (jf t b o) : Int) + (flat ns).length) :
    Calls Tryz.prog 18 #[.pointer (some ⟨jb, 0, none⟩), .slice A len cap] w fun e w' => e = .returned (.iface 39 (.int .i64 8)) ∧ Below w.heap.size w w' := by
  have hsm := h.small
  refine jappend_fail h.jd.jat A len cap hrl hr hlt (by omega) hfl hshort (turn_wrap t (by omega)) fun w1 B d hb hrd => ?_
  refine (write_full (h.jd.below hb) rfl _ B _ d h.room_ h.fits (by omega) hfit).mono ?_
  rintro e w2 ⟨rfl, hb2⟩
  exact ⟨rfl, hb.trans (hb2.mono hb.size)⟩

/-- The files behind a snapshot that is laid, and renamed. -/
theorem jf_saved (t : Nat) (b : List Nat) (o : Option (List (List Nat))) (z : List Nat) (n : Nat) : pput (pdel (pput (jf t b o) 1 z n) 1) 0 z n = (0, z, n) :: recF t o := by
  have h0 : ¬ (1 : Int) < 0 := by omega
  have h1 : (1 : Int) < 2 + (t : Int) := by omega
  have h2 : ((2 + (t : Int)) == 1) = false := by simp; omega
  have h3 : ((2 + (t : Int)) == 0) = false := by simp; omega
  have h4 : (0 : Int) < 2 + (t : Int) := by omega
  unfold jf snapF
  cases o <;> split <;> simp [recF, pput, pdel, pins, h1, h2, h3, h4]
theorem jf_next (t : Nat) (b : List Nat) : jf (t + 1) b none = [(0, fmk (snapRec ((t : Int) + 1) b), (fmk (snapRec ((t : Int) + 1) b)).length)] := by
  simp [jf, snapF, recF]

/-- Save, where there is room. -/
theorem save_calm (h : Jn w S T base jb sb room t b rs o) (ht : t + 1 ≤ 100000) (A : Option Addr) (n c : Nat) (hr : Rd .u8 w A n (ints b')) (hto : RowTo R (.slice A n c)) (hR : ∀ i, R i → i < w.heap.size ∧ ¬ joined S T i) (hlt : ∀ x ∈ b', x < 256) (hn : n ≤ 1000000)
    (hsh : (snapRec ((t : Int) + 1) b').length ≤ 16384) (hfit : (ptotal (jf t b o) : Int) + (6 + (snapRec ((t : Int) + 1) b').length) ≤ room) :
    Calls Tryz.prog 11 #[.pointer (some ⟨jb, 0, none⟩), .slice A n c] w fun e w' => e = .returned .nilIface ∧ JnStep S T w base jb sb room (t + 1) b' [] none w' := by
  have hrm := h.room_
  have hsm := h.small
  have hjl := jf_len t b o
  obtain ⟨x, hx⟩ : ∃ x, x = fmk (snapRec ((t : Int) + 1) b') := ⟨_, rfl⟩
  have hxl : x.length = 6 + (snapRec ((t : Int) + 1) b').length := by rw [hx, fmk_length]
  have hpl := pput_len (jf t b o) 1 x x.length
  have hbz := h.base_
  have hend : ∀ w5 S5 T5, JD w5 S5 T5 base jb sb room (jf (t + 1) b' none) calm ((t : Int) + 1) b' [] false → Fr (joined S T) w w5 → Wider (joined S T) (joined S5 T5) w → JnStep S T w base jb sb room (t + 1) b' [] none w5 := by
    intro w5 S5 T5 hj hf hw
    refine ⟨S5, T5, ⟨?_, rfl, by omega, ht, ?_, by simp, ?_, h.room_, Nat.le_trans h.base_ hf.size⟩, hf, hw⟩
    · have e : ((t + 1 : Nat) : Int) = (t : Int) + 1 := by omega
      rw [e]; exact hj
    · have e : ((t + 1 : Nat) : Int) = (t : Int) + 1 := by omega
      rw [e]; exact hsh
    · rw [jf_next]
      simp only [ptotal, List.map_cons, List.map_nil, List.sum_cons, List.sum_nil, ← hx]
      omega
  refine jsave_go h.jd A n c hr hto hR hlt (by omega) hn h.base_ rfl hsh (turn_wrap t (by omega)) (ps1 := pput (jf t b o) 1 x x.length) (s1 := calm) (z1 := x) (n1 := x.length) ?_ rfl rfl (by show 0 ≤ _; omega) (by rw [pget_pput]; simp) (by omega) ?_
  · intro w1 B d hj hz hrd
    have hw := write_ok hj rfl rfl rfl (by show 0 ≤ _; omega) (wf3 1 (by omega)) B _ d x (by rw [hx]; exact hrd) (by rw [hx]; exact fmk_lt (snapRec_lt hlt)) (zs := []) (n := 0) (by rw [show pget (jf t b o) ((1 : Nat) : Int) = none from jf_one t b o]; rfl) hrm.2 (by omega) (by omega) (by omega)
    rw [List.nil_append] at hw
    exact hw
  · intro w4 S4 T4 hj hf hw hz
    rw [jf_saved] at hj
    have e0 : calm.go = calm := rfl
    rw [e0] at hj
    cases o with
    | none =>
      have hj' : JD w4 S4 T4 base jb sb room (jf (t + 1) b' none) calm ((t : Int) + 1) b' [] false := by rw [jf_next, ← hx]; exact hj
      refine (drop_none hj' (2 + (t : Int)) ?_ (by have := jf_len (t + 1) b' none; omega)).mono ?_
      · rw [jf_next]
        have h3 : ((0 : Int) == 2 + (t : Int)) = false := by simp; omega
        simp [pget, h3]
      · rintro e w5 ⟨rfl, hb5⟩
        exact ⟨rfl, hend w5 S4 T4 (hj'.below hb5) (hf.trans (Fr.of_below (S := joined S4 T4) hb5) hw) hw⟩
    | some qs =>
      have h3 : ((0 : Int) == 2 + (t : Int)) = false := by simp; omega
      refine (drop_some hj rfl rfl (by show 0 ≤ _; omega) (turn_wf t (by omega)) (zs := flat qs) (n := (flat qs).length) (by simp [recF, pget, h3]) (by simp [recF])).mono ?_
      rintro e w5 ⟨rfl, S5, T5, hj5, hf5, hw5⟩
      have e1 : pdel ((0, x, x.length) :: recF t (some qs)) (2 + (t : Int)) = jf (t + 1) b' none := by
        rw [jf_next, ← hx]
        simp [pdel, recF, h3]
      rw [e1] at hj5
      exact ⟨rfl, hend w5 S5 T5 hj5 (hf.trans hf5 hw) (hw.trans hw5 hf.size)⟩

/-- Save, where there is no room. -/
theorem save_full_ (h : Jn w S T base jb sb room t b rs o) (A : Option Addr) (n c : Nat) (hr : Rd .u8 w A n (ints b')) (hlt : ∀ x ∈ b', x < 256) (hn : n ≤ 1000000)
    (hsh : (snapRec ((t : Int) + 1) b').length ≤ 16384) (hfit : room < (ptotal (jf t b o) : Int) + (6 + (snapRec ((t : Int) + 1) b').length)) :
    Calls Tryz.prog 11 #[.pointer (some ⟨jb, 0, none⟩), .slice A n c] w fun e w' => e = .returned (.iface 39 (.int .i64 8)) ∧ Below w.heap.size w w' := by
  have hsm := h.small
  refine jsave_fail h.jd.jat A n c hr hlt (by omega) hn rfl hsh fun w1 B d hb hrd => ?_
  refine (write_full (h.jd.below hb) rfl 1 B _ d h.room_ h.fits (by omega) (by omega)).mono ?_
  rintro e w2 ⟨rfl, hb2⟩
  exact ⟨rfl, hb.trans (hb2.mono hb.size)⟩

/-- Open, of a journal's own files. -/
def OpenJn (S : Nat → Prop) (w : World) (base sb : Nat) (room : Int) (t : Nat) (b : List Nat) (rs : List (List Nat)) (o : Option (List (List Nat))) (e : Ending) (w' : World) : Prop :=
  ∃ jb S' T', e = .returned (.tuple #[.pointer (some ⟨jb, 0, none⟩), .nilIface]) ∧ Jn w' S' T' base jb sb room t b rs o ∧ Fr S w w' ∧ Wider S S' w ∧ ∀ i, T' i → w.heap.size ≤ i
theorem open_calm (hd : DiskQ w S base sb room (jf t b o) calm) (hrec : o.getD [] = rs) (hzero : t = 0 → b = []) (hsm : t ≤ 100000) (hsnap : (snapRec t b).length ≤ 16384) (hshort : ∀ r ∈ rs, r.length ≤ 16384) (hfits : (ptotal (jf t b o) : Int) ≤ room) (hroom : 0 ≤ room ∧ room ≤ 262144) (hbase : base ≤ w.heap.size) :
    Calls Tryz.prog 9 #[.pointer (some ⟨sb, 0, none⟩)] w (OpenJn S w base sb room t b rs o) := by
  have hg : (pget ((jf t b o).filter (kept (2 + (t : Int)))) (2 + (t : Int))).getD ([], 0) = (flat rs, (flat rs).length) := by
    rw [jf_kept, jf_rec]
    cases o with
    | none => simp at hrec; subst hrec; rfl
    | some qs => simp at hrec; subst hrec; rfl
  have hsn : snapOf (pget (jf t b o) 0) = some ((t : Int), b) := by
    rw [jf_snap]
    by_cases h0 : t = 0
    · rw [if_pos h0, hzero h0]; subst h0; rfl
    · rw [if_neg h0]
      exact snapB_mk (by omega) (by omega) hsnap
  refine (open_any hd (fun p hp => ?_) (by have := jf_len t b o; omega) hbase hsn (turn_wrap t (by omega)) (turn_wf t (by omega)) hg).mono ?_
  · have h1 := jf_mem t b o p hp
    refine ⟨by omega, ?_⟩
    rcases h1.2.2 with e | e
    · rw [e]; exact wf0
    · rw [e]; exact turn_wf t (by omega)
  · rintro e w' ⟨rs', jb, S', T', hsc, he, hj, hf, hw, hT⟩
    obtain rfl := scanned_unique hsc (scanned_flat hshort)
    have e1 : opened (jf t b o) (2 + (t : Int)) rs' (flat rs') = jf t b o := by unfold opened; rw [if_pos rfl, jf_kept]
    rw [e1] at hj
    exact ⟨jb, S', T', he, ⟨hj, hrec, hzero, hsm, hsnap, hshort, hfits, hroom, Nat.le_trans hbase hf.size⟩, hf, hw, hT⟩
end
end Go.Proofs.YtlakkhhibdcjaaaGreatDoor

namespace Go.Proofs.YtlakkhhibdcjaaaGreatDoor
open Go Go.RowKit Go.Maps
set_option linter.unusedVariables false
section
variable {R S T : Nat → Prop} {w w' : World} {base jb sb : Nat} {room : Int} {t : Nat} {b b' : List Nat} {rs ns : List (List Nat)} {o : Option (List (List Nat))}

/-- Of a slice of one row that was just made. -/
theorem RdRowsR.lit {ty ty' : TypeId} {fr : Nat × Nat} (xs : List Nat) (c : Nat) (hc : xs.length ≤ c) (hm : c ≤ maxLen) :
    RdRowsR (fun i => w.heap.size ≤ i ∧ i < w.heap.size + 2) ((w.alloc (.cells (xs.map fun x : Nat => Value.int .u8 (x : Int)).toArray ty fr)).alloc (.cells #[.slice (some ⟨w.heap.size, 0, none⟩) xs.length c] ty' (0, 0))) (some ⟨w.heap.size + 1, 0, none⟩) [xs] := by
  intro _
  refine ⟨_, rfl, ⟨by simp, by simp⟩, fun j r hj => ?_⟩
  cases j with
  | zero =>
    simp at hj
    subst hj
    refine ⟨.slice (some ⟨w.heap.size, 0, none⟩) xs.length c, ?_, ⟨_, c, rfl, hc, hm, (rd_row xs).alloc _⟩, fun A n c' ad e hn ha => ?_⟩
    · have h1 : (w.alloc (.cells (xs.map fun x : Nat => Value.int .u8 (x : Int)).toArray ty fr)).heap.size = w.heap.size + 1 := by simp
      have h2 := heap_alloc_new (w.alloc (.cells (xs.map fun x : Nat => Value.int .u8 (x : Int)).toArray ty fr)) (.cells #[.slice (some ⟨w.heap.size, 0, none⟩) xs.length c] ty' (0, 0))
      rw [h1] at h2
      have e : (⟨w.heap.size + 1, 0, none⟩ : Addr).add 0 = ⟨w.heap.size + 1, 0, none⟩ := rfl
      rw [e]
      unfold World.cell?
      simp only [h2]
      rfl
    · injection e with e1
      rw [← e1] at ha
      injection ha with ha
      rw [← ha]
      exact ⟨Nat.le_refl _, by simp⟩
  | succ j => simp at hj
theorem JnStep.base_ (h : JnStep S T w base jb sb room t b rs o w') {t0 : Nat} {b0 : List Nat} {rs0 : List (List Nat)} {o0 : Option (List (List Nat))} (hj : Jn w S T base jb sb room t0 b0 rs0 o0) : ∃ S' T', Jn w' S' T' base jb sb room t b rs o ∧ Below base w w' := by
  obtain ⟨S', T', h1, hf, _⟩ := h
  exact ⟨S', T', h1, hf.below (fun i hi => (hj.jd.low i hi).1) hj.base_⟩
theorem Jn.out (h : Jn w S T base jb sb room t b rs o) : ∀ i, w.heap.size ≤ i → ¬ joined S T i := fun i hi hj => by have := (h.jd.low i hj).2; omega
end

set_option maxRecDepth 100000 in
set_option maxHeartbeats 2000000 in
theorem awake_ok (w : World) : Calls Tryz.prog 7 #[] w fun e w' => e = .returned (.bool true) ∧ Below w.heap.size w w' := by
  have hcv := fun (W : World) (C : Array Value) (n c : Nat) => Lib.run_convert_bytes_const (P := Tryz.prog) W 34 5 C n c Tryz.underlying34 Tryz.underlying5
  go_enter Tryz.func7, Tryz.ntmps7
  go_wp2_with fail
  refine (of_q 1000 1000 1000 w rfl rfl).mono ?_
  rintro e w1 ⟨rfl, hd1, hb1⟩
  have hz1 := hb1.size
  have HD1 := Lib.hid hd1
  have HB1 := Lib.hid hb1
  clear hd1 hb1
  go_wp2_with fail
  refine (open_calm (t := 0) (b := []) (o := none) HD1.out rfl (fun _ => rfl) (by omega) (by decide +kernel) (by simp) (by simp [jf, snapF, recF, ptotal]) (by omega) hz1).mono ?_
  rintro e w2 ⟨jb, S2, T2, rfl, hj2, hf2, _, _⟩
  have hb2 : Below w.heap.size w w2 := HB1.out.trans (hf2.below (fun i hi => (HD1.out.low i hi).1) hz1)
  have hz2 := hb2.size
  have HJ2 := Lib.hid hj2
  have HB2 := Lib.hid hb2
  clear hj2 hf2 hb2
  go_wp2_with fail
  have hj3 := (HJ2.out.alloc (.cells #[.int .u8 120] 5 (1, 2))).alloc (.cells #[.slice (some ⟨w2.heap.size, 0, none⟩) 1 1] 34)
  refine (append_calm hj3 (some ⟨w2.heap.size + 1, 0, none⟩) 1 1 (ns := [[120]]) rfl (RdRowsR.lit [120] 1 (by simp) (by simp [maxLen])) (fun i hi => ⟨by simp; omega, HJ2.out.out i hi.1⟩) (by simp) (by omega) (by simp) (by decide +kernel)).mono ?_
  rintro e w3 ⟨rfl, hs3⟩
  obtain ⟨S3, T3, hn3, hb3⟩ := hs3.base_ hj3
  have hb3' : Below w.heap.size w w3 := ((HB2.out.alloc hz2 _).alloc (by simp; omega) _).trans hb3
  have hz3 := hb3'.size
  have HJ3 := Lib.hid hn3
  have HB3 := Lib.hid hb3'
  clear hj3 hs3 hn3 hb3 hb3'
  go_wp2_with fail
  have hj4 := HJ3.out.alloc (.cells #[.int .u8 121] 5 (1, 2))
  refine (save_calm hj4 (by omega) (some ⟨w3.heap.size, 0, none⟩) 1 1 (b' := [121]) (R := fun i => i = w3.heap.size) (rd_row [121]) (fun A n c ad e hn ha => by injection e with e1; rw [← e1] at ha; injection ha with ha; rw [← ha]) (fun i hi => ⟨by simp; omega, HJ3.out.out i (by omega)⟩) (by simp) (by omega) (by decide +kernel) (by decide +kernel)).mono ?_
  rintro e w4 ⟨rfl, hs4⟩
  obtain ⟨S4, T4, hn4, hb4⟩ := hs4.base_ hj4
  have hb4' : Below w.heap.size w w4 := (HB3.out.alloc hz3 _).trans hb4
  have hz4 := hb4'.size
  have HJ4 := Lib.hid hn4
  have HB4 := Lib.hid hb4'
  clear hj4 hs4 hn4 hb4 hb4'
  go_wp2_with fail
  have hj5 := (HJ4.out.alloc (.cells #[.int .u8 122] 5 (1, 2))).alloc (.cells #[.slice (some ⟨w4.heap.size, 0, none⟩) 1 1] 34)
  refine (append_calm hj5 (some ⟨w4.heap.size + 1, 0, none⟩) 1 1 (ns := [[122]]) rfl (RdRowsR.lit [122] 1 (by simp) (by simp [maxLen])) (fun i hi => ⟨by simp; omega, HJ4.out.out i hi.1⟩) (by simp) (by omega) (by simp) (by decide +kernel)).mono ?_
  rintro e w5 ⟨rfl, hs5⟩
  obtain ⟨S5, T5, hn5, hb5⟩ := hs5.base_ hj5
  have hb5' : Below w.heap.size w w5 := ((HB4.out.alloc hz4 _).alloc (by simp; omega) _).trans hb5
  have hz5 := hb5'.size
  have HJ5 := Lib.hid hn5
  have HB5 := Lib.hid hb5'
  clear hj5 hs5 hn5 hb5 hb5'
  go_wp2_with fail
  refine (restart_q HJ5.out.jd.disk 0 (by omega) (Nat.lt_of_le_of_lt (jf_len _ _ _) (by omega)) (fun p hp => ?_) HJ5.out.base_).mono ?_
  · have h1 := jf_mem _ _ _ p hp
    have h2 := HJ5.out.fits
    refine ⟨by omega, ?_⟩
    rcases h1.2.2 with e | e
    · rw [e]; exact wf0
    · rw [e]; exact turn_wf 1 (by omega)
  rintro e w6 ⟨rfl, S6, hd6, hf6, hw6⟩
  rw [jf_rst] at hd6
  have hb6 : Below w.heap.size w w6 := HB5.out.trans (hf6.below (fun i hi => (HJ5.out.jd.disk.low i hi).1) HJ5.out.base_)
  have hz6 := hb6.size
  have HD6 := Lib.hid hd6
  have HB6 := Lib.hid hb6
  clear hd6 hf6 hw6 hb6
  go_wp2_with fail
  refine (open_calm HD6.out HJ5.out.recs HJ5.out.zero HJ5.out.small HJ5.out.snap HJ5.out.short HJ5.out.fits HJ5.out.room_ hz6).mono ?_
  rintro e w7 ⟨jb7, S7, T7, rfl, hj7, hf7, _, _⟩
  have hb7 : Below w.heap.size w w7 := HB6.out.trans (hf7.below (fun i hi => (HD6.out.low i hi).1) hz6)
  have hz7 := hb7.size
  have HJ7 := Lib.hid hj7.jd.jat
  have HB7 := Lib.hid hb7
  clear hj7 hf7 hb7
  go_wp2_with fail
  refine (base_any HJ7.out).mono ?_
  rintro e w8 ⟨v8, rfl, ho8, hb8⟩
  obtain ⟨A8, c8, rfl, _, _, hr8, _⟩ := ho8.form
  have d8 := str_of w8 A8 1 c8 [121] hr8
  have e8 : strN [121] = ⟨#[121]⟩ := rfl
  rw [e8] at d8
  have HJ8 := Lib.hid (HJ7.out.below hb8)
  have HB8 := Lib.hid (HB7.out.trans (hb8.mono hz7))
  have hz8 := HB8.out.size
  clear ho8 hb8 hr8 e8
  simp only [List.length_cons, List.length_nil, Nat.zero_add]
  go_wp2_with fail
  refine (records_any HJ8.out).mono ?_
  rintro e w9 ⟨v9, rfl, hr9, hb9⟩
  obtain ⟨A9, c9, rfl, _, _, hrd9⟩ := hr9.own.form
  simp only [List.nil_append, List.length_cons, List.length_nil, Nat.zero_add]
  have HJ9 := Lib.hid (HJ8.out.below hb9)
  have HB9 := Lib.hid (HB8.out.trans (hb9.mono hz8))
  have hz9 := HB9.out.size
  clear hr9 hb9 hrd9 d8
  go_wp2_with fail
  refine (records_any HJ9.out).mono ?_
  rintro e w10 ⟨v10, rfl, hr10, hb10⟩
  obtain ⟨A10, c10, rfl, _, _, hrd10⟩ := hr10.own.form
  simp only [List.nil_append, List.length_cons, List.length_nil, Nat.zero_add]
  obtain ⟨ad, B, c, rfl, hcell, _, _, hrd⟩ := hrd10.at_ (j := 0) (by simp)
  simp only [List.nil_append, List.getElem_cons_zero, List.length_cons, List.length_nil, Nat.zero_add] at hcell hrd
  have e0 : ad.add 0 = ad := rfl
  rw [e0] at hcell
  have d10 := str_of w10 B 1 c [122] hrd
  have e10 : strN [122] = ⟨#[122]⟩ := rfl
  rw [e10] at d10
  have HJ10 := Lib.hid (HJ9.out.below hb10)
  have HB10 := Lib.hid (HB9.out.trans (hb10.mono hz9))
  clear hr10 hb10 hrd10 hrd e10 e0
  go_wp2_with fail
  refine (turn_any HJ10.out).mono ?_
  rintro e w11 ⟨rfl, rfl⟩
  go_wp2
  go_ret
  exact ⟨rfl, HB10.out⟩
end Go.Proofs.YtlakkhhibdcjaaaGreatDoor

namespace Go.Proofs.YtlakkhhibdcjaaaGreatDoor
open Go Go.RowKit Go.Maps
set_option linter.unusedVariables false
section
variable {R S T : Nat → Prop} {w w' : World} {base jb sb : Nat} {room : Int} {t : Nat} {b b' : List Nat} {rs ns : List (List Nat)} {o : Option (List (List Nat))}

/-- Where bytes that are read lie. -/
theorem Rd.to {A : Option Addr} {n c : Nat} {k : IntKind} {zs : List Int} (h : Rd k w A n zs) : RowTo (fun i => i < w.heap.size) (.slice A n c) := fun A' n' c' ad e hn ha => by
  injection e with e1 e2 e3
  subst e1 e2
  obtain ⟨ad', ha', hc⟩ := h.2 hn
  rw [ha] at ha'
  injection ha' with ha'
  subst ha'
  have := World.block_lt_of_cell? w _ (hc 0 hn)
  rwa [add_block] at this
/-- A slice of rows that was just made. -/
theorem RdRowsR.made {ty : TypeId} {fr : Nat × Nat} (us : List Value) (h : ∀ (j : Nat) u r, us[j]? = some u → ns[j]? = some r → RowAt w u r ∧ RowTo R u) (hl : us.length = ns.length) (hR : R w.heap.size) :
    RdRowsR R (w.alloc (.cells us.toArray ty fr)) (some ⟨w.heap.size, 0, none⟩) ns := by
  intro _
  refine ⟨_, rfl, hR, fun j r hj => ?_⟩
  have hjl : j < us.length := by rw [hl]; exact (List.getElem?_eq_some_iff.1 hj).1
  obtain ⟨h1, h2⟩ := h j us[j] r (List.getElem?_eq_getElem hjl) hj
  refine ⟨us[j], ?_, h1.below ((Below.refl _ _).alloc (Nat.le_refl _) _), h2⟩
  have e : (⟨w.heap.size, 0, none⟩ : Addr).add j = ⟨w.heap.size, j, none⟩ := by unfold Addr.add; split <;> simp_all
  rw [e]
  have hh := heap_alloc_new w (.cells us.toArray ty fr)
  unfold World.cell?
  simp only [hh]
  simp [hjl]
/-- A slice of strings that was just made. -/
theorem RdStrs.made {ty : TypeId} {fr : Nat × Nat} (qs : List (List Nat)) : RdStrs (w.alloc (.cells (qs.map fun r => Value.string (strN r)).toArray ty fr)) (some ⟨w.heap.size, 0, none⟩) qs := by
  intro _
  refine ⟨_, rfl, fun j r hj => ?_⟩
  have hjl : j < qs.length := (List.getElem?_eq_some_iff.1 hj).1
  have e : (⟨w.heap.size, 0, none⟩ : Addr).add j = ⟨w.heap.size, j, none⟩ := by unfold Addr.add; split <;> simp_all
  rw [e]
  have hh := heap_alloc_new w (.cells (qs.map fun r => Value.string (strN r)).toArray ty fr)
  unfold World.cell?
  simp only [hh]
  simp [hj]
theorem strN_none : strN [] = ⟨#[]⟩ := rfl
theorem RowAt.of_rd {A : Option Addr} {n c : Nat} {xs : List Nat} (h : Rd .u8 w A n (ints xs)) (hc : n ≤ c) (hm : c ≤ maxLen) : RowAt w (.slice A n c) xs := by
  have hl : xs.length = n := by have := h.1; rwa [ints_length] at this
  exact ⟨A, c, by rw [hl], by rw [hl]; exact hc, hm, by rw [hl]; exact h⟩
theorem Rd.made_ (w : World) (n : Nat) (hn : n ≤ maxLen) : Rd .u8 (w.alloc (.cells (madeCells #[.int .u8 0] n) 5)) (some ⟨w.heap.size, 0, none⟩) n (ints (List.replicate n 0)) := by
  obtain ⟨A, c, e, _, _, h, _⟩ := (own_made w n w.heap.size hn (Nat.le_refl _)).form
  injection e with e1
  rw [e1]; exact h
/-- A journal on a disk that has nothing. -/
theorem open_new (hd : DiskQ w S base sb room [] calm) (hroom : 0 ≤ room ∧ room ≤ 262144) (hbase : base ≤ w.heap.size) : Calls Tryz.prog 9 #[.pointer (some ⟨sb, 0, none⟩)] w (OpenJn S w base sb room 0 [] [] none) :=
  open_calm (t := 0) (b := []) (o := none) hd rfl (fun _ => rfl) (by omega) (by decide +kernel) (by simp) (by simp [jf, snapF, recF, ptotal]; omega) hroom hbase
/-- What is written of one snapshot's number. -/
theorem snapRec_one (b : List Nat) : (snapRec 1 b).length = 1 + b.length := by
  have : enc (pairN 1) = [2] := by decide +kernel
  rw [snapRec, this]; simp; omega
end
end Go.Proofs.YtlakkhhibdcjaaaGreatDoor
