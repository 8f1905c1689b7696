/-
  Few by its contract, with where its rows lie; an Act's records.
-/
import Derived.Test.YtlakkhhibdcjaaaGreatDoorActArg
import Derived.Test.YtlakkhhibdcjaaaGreatDoorJourB
import Derived.LoopTactic
namespace Go.Proofs.YtlakkhhibdcjaaaGreatDoor
open Go Go.RowKit
set_option linter.unusedVariables false

theorem RdRowsR.at_ {R : Nat → Prop} {w : World} {A : Option Addr} {rs : List (List Nat)} (h : RdRowsR R w A rs) {j : Nat} (hj : j < rs.length) : ∃ ad B c, A = some ad ∧ w.cell? (ad.add j) = some (.slice B rs[j].length c) ∧ rs[j].length ≤ c ∧ c ≤ maxLen ∧ Rd .u8 w B rs[j].length (ints rs[j]) ∧ RowTo R (.slice B rs[j].length c) := by
  obtain ⟨ad, he, _, hc⟩ := h (by omega)
  obtain ⟨u, hu, ⟨B, c, rfl, h1, h2, h3⟩, h4⟩ := hc j rs[j] (List.getElem?_eq_getElem hj)
  exact ⟨ad, B, c, he, hu, h1, h2, h3, h4⟩
theorem RowsT.rdR {w : World} {base : Nat} {T : Nat → Prop} {v : Value} {rs : List (List Nat)} (h : RowsT w base T v rs) : ∃ A c, v = .slice A rs.length c ∧ rs.length ≤ c ∧ c ≤ maxLen ∧ RdRowsR T w A rs := by
  obtain ⟨vs, ho, hv, hr⟩ := h
  have hl : vs.length = rs.length := by have := ho.1; omega
  have ho0 := ho
  rcases ho.2 with ⟨rfl, h0⟩ | ⟨g, cap, cur, rfl, _, hg, hnc, hcm, _, htake⟩
  · exact ⟨none, 0, by rw [h0], by omega, Nat.zero_le _, fun hn => by omega⟩
  · refine ⟨some ⟨g, 0, none⟩, cap, rfl, hnc, hcm, fun hn => ⟨_, rfl, hv g rfl, fun j r hj => ?_⟩⟩
    have hjl : j < rs.length := (List.getElem?_eq_some_iff.1 hj).1
    obtain ⟨u, hu⟩ : ∃ u, vs[j]? = some u := ⟨vs[j]'(by omega), List.getElem?_eq_getElem (by omega)⟩
    exact ⟨u, World.ownsRow.cells ho0 (g := g) rfl j u hu, (hr j u r hu hj).1.at_, (hr j u r hu hj).2⟩
/-- Rows that are read lie in blocks that there are. -/
theorem RdRows.toR {w : World} {A : Option Addr} {rs : List (List Nat)} (h : RdRows w A rs) : RdRowsR (fun i => i < w.heap.size) w A rs := fun hn0 => by
  obtain ⟨ad, e, hc⟩ := h hn0
  obtain ⟨u0, hu0, _⟩ := hc 0 rs[0] (List.getElem?_eq_getElem hn0)
  have hlt := World.block_lt_of_cell? w _ hu0
  rw [add_block] at hlt
  refine ⟨ad, e, hlt, fun j r hj => ?_⟩
  obtain ⟨u, hu, A', c', e', h1, h2, h3⟩ := hc j r hj
  refine ⟨u, hu, ⟨A', c', e', h1, h2, h3⟩, ?_⟩
  rw [e']
  exact h3.to
theorem RdRowsR.front {R : Nat → Prop} {w : World} {A : Option Addr} {rs : List (List Nat)} (h : RdRowsR R w A rs) (k : Nat) : RdRowsR R w A (rs.take k) := fun hn => by
  obtain ⟨ad, e, hR, hc⟩ := h (by rw [List.length_take] at hn; omega)
  refine ⟨ad, e, hR, fun j r hj => hc j r ?_⟩
  rw [List.getElem?_take] at hj
  split at hj
  · exact hj
  · cases hj

/-- The rows that Few hands back lie where those lay that it was handed. -/
def FewResR (R : Nat → Prop) (w : World) (rs : List (List Nat)) (e : Ending) (w' : World) : Prop := ∃ v, e = .returned v ∧ RowsT w' w.heap.size (fun i => R i ∨ w.heap.size ≤ i) v (few rs) ∧ Below w.heap.size w w'

set_option maxRecDepth 100000 in
set_option maxHeartbeats 2000000 in
theorem few_r {R : Nat → Prop} (A : Option Addr) (len cap : Nat) (rs : List (List Nat)) (w : World) (hrl : rs.length = len) (hr : RdRowsR R w A rs) (hlen : len ≤ 9223372036854775807) :
    Calls Tryz.prog 20 #[.slice A len cap] w (FewResR R w rs) := by
  have HR := Lib.hid hr
  have HRL := Lib.hid hrl
  clear hr hrl
  go_enter Tryz.func20, Tryz.ntmps20
  go_wp2
  go_loopw [3, 8] (fun v i wr => ∃ k : Nat, k ≤ len ∧ i = .int .i64 k ∧ RowsT wr w.heap.size (fun i => R i ∨ w.heap.size ≤ i) v (few (rs.take k)) ∧ Below w.heap.size w wr) (fun _ i _ => len - (intOf i).toNat)
  case atStart => exact ⟨0, Nat.zero_le _, rfl, RowsT.nil, Below.refl _ _⟩
  case round =>
    obtain ⟨k, hk, rfl, hown, hbel⟩ := hrel
    by_cases hlt : k < len
    · have hlt' : k < rs.length := by rw [HRL.out]; exact hlt
      obtain ⟨ad, B, c, rfl, hcell0, h1, h2, hrd, hto⟩ := HR.out.at_ hlt'
      have hcell : wr.cell? (ad.add k) = some (.slice B rs[k].length c) := by rw [hbel.cell (World.block_lt_of_cell? w _ hcell0)]; exact hcell0
      by_cases h12 : k < 12
      · obtain ⟨hnext, hlk⟩ := few_next rs k hlt' h12
        have hrow := hown.own.rowLt
        have hsz := hbel.size
        obtain ⟨vs, hov, hvb, hin⟩ := hown
        rw [hlk] at hov
        have hvl : vs.length = k := by have := hov.1; omega
        obtain ⟨r, hre⟩ : ∃ r, r = rs[k] := ⟨_, rfl⟩
        rw [← hre] at hcell h1 hrd hnext hto
        obtain ⟨z, hz⟩ : ∃ z, z = r.length := ⟨_, rfl⟩
        rw [← hz] at hcell h1 hrd hto
        obtain ⟨n, hn⟩ : ∃ n, n = min z 500 := ⟨_, rfl⟩
        have hmin := min2_ok (P := Tryz.prog) z 500 n (z : Int) 500 rfl rfl hn
        have hnz : n ≤ z := by omega
        have hfr := fun W => run_front W B z c n (by omega)
        have hfront := hrd.front hnz
        rw [ints_take] at hfront
        have htk : r.take n = r.take 500 := by
          rw [hn]
          by_cases h5 : z ≤ 500
          · rw [Nat.min_eq_left h5, List.take_of_length_le (by omega), List.take_of_length_le (by omega)]
          · rw [Nat.min_eq_right (by omega)]
        have htl : (r.take n).length = n := by rw [List.length_take]; omega
        rw [← htk] at hnext
        obtain ⟨y, hy⟩ : ∃ y, y = r.take n := ⟨_, rfl⟩
        rw [← hy] at hnext hfront htl
        have HNEXT := Lib.hid hnext
        have HLK := Lib.hid hlk
        have HOV := Lib.hid hov
        have HIN := Lib.hid hin
        have HVB := Lib.hid hvb
        have HTO := Lib.hid (show RowTo (fun i => R i ∨ w.heap.size ≤ i) (.slice B n c) from fun A' n' c' ad' e hn' ha' => by injection e with e1 e2 e3; subst e1; exact .inl (hto _ _ _ ad' rfl (by omega) ha'))
        have HROW := Lib.hid hrow
        have HVL := Lib.hid hvl
        have HFR := Lib.hid hfront
        have HTL := Lib.hid htl
        have HBEL := Lib.hid hbel
        clear hnext hlk hov hin hvb hto hrow hvl hfront htl hbel hcell0 hrd hre hz hn htk hy hlt'
        unfold maxLen at h2
        go_wp2_with (first
          | (at_builtin
             refine wpList_append_one _ rfl (.tmp 15) (.tmp 21) 33 rfl 24 w.heap.size 34 (.slice none 0 0) Tryz.underlying33 info_row rfl u3 k vs rfl (World.ownsRow.alloc HOV.out _) ⟨wr.heap.size, 0, none⟩ 1 (.slice B n c) rfl (by simp) rfl (by omega) (by omega) (by simp; omega) (by simp only [maxLen]; omega) ?_
             intro v2 w2 ho2 hg2))
        have hb2 : Below w.heap.size w w2 := hg2.below (HBEL.out.alloc hsz _) (by simp; omega) (fun g hg => (HROW.out g hg).1)
        have hrows : ∀ (j : Nat) u r, vs[j]? = some u → (few (rs.take k))[j]? = some r → RowIn (wr.alloc (.cells #[.slice B n c] 34)) u3 u r ∧ RowTo (fun i => R i ∨ w.heap.size ≤ i) u :=
          fun j u r h1 h2 => ⟨(HIN.out j u r h1 h2).1.below ((Below.refl _ _).alloc (Nat.le_refl _) _), (HIN.out j u r h1 h2).2⟩
        have hthis : RowIn (wr.alloc (.cells #[.slice B n c] 34)) u3 (.slice B n c) y := by
          refine ⟨B, c, by rw [HTL.out], by rw [HTL.out]; omega, by unfold maxLen; omega, by rw [HTL.out]; exact (HFR.out.below HBEL.out).alloc _, fun hp ad he hc => ?_⟩
          rw [HTL.out] at hp
          obtain ⟨ad', he', hc'⟩ := HFR.out.2 hp
          obtain rfl : ad = ad' := by rw [he] at he'; injection he'
          have h3 := World.block_lt_of_cell? w _ (hc' 0 hp)
          rw [add_block] at h3
          have h4 := (HROW.out _ hc).1
          omega
        have hpush := RowsT.push (rs := few (rs.take k)) (by rw [HLK.out]; exact ho2) hg2 (by rw [HLK.out]; exact HVL.out) HVB.out hrows hthis HTO.out (fun g hge _ => .inr (by simp at hge; omega))
        rw [← HNEXT.out] at hpush
        refine ⟨⟨k + 1, by omega, by go_num, hpush, hb2⟩, ?_⟩
        simp [intOf]
        omega
      · have hsame := few_same rs k (by omega)
        rw [← hsame] at hown
        have HOWN := Lib.hid hown
        have HBEL := Lib.hid hbel
        obtain ⟨z, hz⟩ : ∃ z, z = rs[k].length := ⟨_, rfl⟩
        rw [← hz] at hcell
        clear hown hbel hsame hcell0 hrd hto h1 hz hlt'
        go_wp2
        go_roundw
        case rel => exact ⟨k + 1, by omega, by go_num, HOWN.out, HBEL.out⟩
        case measure => simp [intOf]; omega
    · obtain rfl : k = len := by omega
      rw [List.take_of_length_le (by rw [HRL.out]; omega)] at hown
      have HOWN := Lib.hid hown
      have HBEL := Lib.hid hbel
      clear hown hbel
      go_wp2
      go_ret
      exact ⟨u3, rfl, HOWN.out, HBEL.out⟩

set_option maxRecDepth 100000 in
theorem afew_any {R : Nat → Prop} (w : World) (op : Value) (BV : Value) (RA : Option Addr) (rl RC : Nat) (rows : List (List Nat)) (hr : RdRowsR R w RA rows) (hR : ∀ i, R i → i < w.heap.size) (hrl : rows.length = rl) (hc : rl ≤ RC) :
    Calls Tryz.prog 19 #[.agg #[op, .slice RA rl RC, BV]] w fun e w' => ∃ v, e = .returned v ∧ RowsT w' w.heap.size (fun i => R i ∨ w.heap.size ≤ i) v (few (rows.take 4)) ∧ Below w.heap.size w w' := by
  obtain ⟨m, hm⟩ : ∃ m, m = min rl 4 := ⟨_, rfl⟩
  have hmin := min2_ok (P := Tryz.prog) rl 4 m (rl : Int) 4 rfl rfl hm
  have hf1 := fun W => run_frontR W RA rl RC m (by omega)
  have hml : (rows.take 4).length = m := by rw [List.length_take, hrl]; omega
  have HR := Lib.hid hr
  have HRR := Lib.hid hR
  have HML := Lib.hid hml
  have hm4 : m ≤ 4 := by omega
  clear hm hr hml hrl hR
  go_enter Tryz.func19, Tryz.ntmps19
  go_wp2_with fail
  refine (few_r (R := R) RA m RC (rows.take 4) _ HML.out ((HR.out.front 4).below ((Below.refl _ _).alloc (Nat.le_refl _) _) HRR.out) (by omega)).mono ?_
  rintro e w1 ⟨v, rfl, ho, hb⟩
  have HO := Lib.hid ho
  have HB := Lib.hid (((Below.refl _ w).alloc (Nat.le_refl _) (.cells #[op, .slice RA rl RC, BV] 36)).trans (hb.mono (by simp)))
  clear ho hb hmin hf1
  go_wp2
  go_ret
  refine ⟨v, rfl, ?_, HB.out⟩
  obtain ⟨vs, h1, h2, h3⟩ := HO.out.wide (T' := fun i => R i ∨ w.heap.size ≤ i) (fun i hi => hi.imp id (fun h => by simp at h; omega))
  refine ⟨vs, ⟨h1.1, ?_⟩, h2, h3⟩
  rcases h1.2 with h | ⟨g, cap, cur, hv, hg, r⟩
  · exact .inl h
  · exact .inr ⟨g, cap, cur, hv, by simp at hg; omega, r⟩
end Go.Proofs.YtlakkhhibdcjaaaGreatDoor
