/-
  Few by its contract; a string's front.
-/
import Derived.Test.YtopogffoiofgbaaRowsOf
import Derived.Test.YtopogffoiofgbaaBytes
import Derived.Test.YtopogffoiofgbaaArgNat
import Derived.LoopTactic
namespace Go.Proofs.Ytopogffoiofgbaa
open Go.RowKit
set_option linter.unusedVariables false

/-- Up to twelve rows, each of up to 500 bytes. -/
def few (rs : List (List Nat)) : List (List Nat) := (rs.take 12).map (·.take 500)
theorem few_len (rs : List (List Nat)) : (few rs).length ≤ 12 := by simp [few]; omega
theorem few_row (rs : List (List Nat)) : ∀ r ∈ few rs, r.length ≤ 500 := by
  intro r hr
  obtain ⟨x, _, rfl⟩ := List.mem_map.1 hr
  rw [List.length_take]; omega
theorem few_lt {rs : List (List Nat)} (h : ∀ r ∈ rs, ∀ x ∈ r, x < 256) : ∀ r ∈ few rs, ∀ x ∈ r, x < 256 := by
  intro r hr x hx
  obtain ⟨y, hy, rfl⟩ := List.mem_map.1 hr
  exact h y (List.mem_of_mem_take hy) x (List.mem_of_mem_take hx)
theorem few_next (rs : List (List Nat)) (k : Nat) (hk : k < rs.length) (h12 : k < 12) : few (rs.take (k + 1)) = few (rs.take k) ++ [rs[k].take 500] ∧ (few (rs.take k)).length = k := by
  have e1 : ∀ j, j ≤ 12 → (rs.take j).take 12 = rs.take j := fun j hj => by rw [List.take_take]; congr 1; omega
  constructor
  · unfold few
    rw [e1 _ (by omega), e1 _ (by omega), List.take_succ_eq_append_getElem hk, List.map_append]
    rfl
  · unfold few
    rw [e1 _ (by omega), List.length_map, List.length_take]; omega
theorem few_same (rs : List (List Nat)) (k : Nat) (h12 : 12 ≤ k) : few (rs.take (k + 1)) = few (rs.take k) := by
  unfold few
  rw [List.take_take, List.take_take]; congr 2; omega

theorem run_strFront (W : World) (xs : List Nat) (k : Nat) (hk : k ≤ xs.length) : (Instr.sliceAt 9 (.string (strN xs)) none (some (.int .i64 (k : Int))) none).run Try.prog W = .ok (.string (strN (xs.take k))) W := by
  rw [run_sliceAt_string _ _ _ _ _ _ Try.underlying9, run_slice_string_h W _ _ Try.underlying9 _ _ (by omega) (by rw [strN_size]; omega)]
  congr 2
  apply ByteArray.ext
  have e : ((k : Int)).toNat = k := by omega
  rw [e, ByteArray.data_extract]
  apply Array.ext'
  simp [strN, strOfNums, ints, List.map_take]

def FewRes (w : World) (rs : List (List Nat)) (e : Ending) (w' : World) : Prop := ∃ v, e = .returned v ∧ OwnRows w' w.heap.size v (few rs) ∧ Below w.heap.size w w'

set_option maxRecDepth 100000 in
set_option maxHeartbeats 2000000 in
theorem few_any (A : Option Addr) (len cap : Nat) (rs : List (List Nat)) (w : World) (hrl : rs.length = len) (hr : RdRows w A rs) (hlen : len ≤ 9223372036854775807) :
    Calls Try.prog 5 #[.slice A len cap] w (FewRes w rs) := by
  have HR := Lib.hid hr
  have HRL := Lib.hid hrl
  clear hr hrl
  go_enter Try.func5, Try.ntmps5
  go_wp2
  go_loopw [3, 8] (fun v i wr => ∃ k : Nat, k ≤ len ∧ i = .int .i64 k ∧ OwnRows wr w.heap.size v (few (rs.take k)) ∧ Below w.heap.size w wr) (fun _ i _ => len - (intOf i).toNat)
  case atStart => exact ⟨0, Nat.zero_le _, rfl, OwnRows.nil, Below.refl _ _⟩
  case round =>
    obtain ⟨k, hk, rfl, hown, hbel⟩ := hrel
    by_cases hlt : k < len
    · have hlt' : k < rs.length := by rw [HRL.out]; exact hlt
      obtain ⟨ad, B, c, rfl, hcell0, h1, h2, hrd⟩ := HR.out.at_ hlt'
      have hcell : wr.cell? (ad.add k) = some (.slice B rs[k].length c) := by rw [hbel.cell (World.block_lt_of_cell? w _ hcell0)]; exact hcell0
      by_cases h12 : k < 12
      · obtain ⟨hnext, hlk⟩ := few_next rs k hlt' h12
        have hrow := hown.rowLt
        have hsz := hbel.size
        obtain ⟨vs, hov, hin⟩ := hown
        rw [hlk] at hov
        have hvl : vs.length = k := by have := hov.1; omega
        obtain ⟨r, hre⟩ : ∃ r, r = rs[k] := ⟨_, rfl⟩
        rw [← hre] at hcell h1 hrd hnext
        obtain ⟨z, hz⟩ : ∃ z, z = r.length := ⟨_, rfl⟩
        rw [← hz] at hcell h1 hrd
        obtain ⟨n, hn⟩ : ∃ n, n = min z 500 := ⟨_, rfl⟩
        have hmin := min2_ok (P := Try.prog) z 500 n (z : Int) 500 rfl rfl hn
        have hnz : n ≤ z := by omega
        have hfr := fun W => run_front W B z c n (by omega)
        have hfront := hrd.front hnz
        rw [ints_take] at hfront
        have htk : r.take n = r.take 500 := by
          rw [hn]
          by_cases h5 : z ≤ 500
          · rw [Nat.min_eq_left h5, List.take_of_length_le (by omega), List.take_of_length_le (by omega)]
          · rw [Nat.min_eq_right (by omega)]
        have htl : (r.take n).length = n := by rw [List.length_take]; omega
        rw [← htk] at hnext
        obtain ⟨y, hy⟩ : ∃ y, y = r.take n := ⟨_, rfl⟩
        rw [← hy] at hnext hfront htl
        have HNEXT := Lib.hid hnext
        have HLK := Lib.hid hlk
        have HOV := Lib.hid hov
        have HIN := Lib.hid hin
        have HROW := Lib.hid hrow
        have HVL := Lib.hid hvl
        have HFR := Lib.hid hfront
        have HTL := Lib.hid htl
        have HBEL := Lib.hid hbel
        clear hnext hlk hov hin hrow hvl hfront htl hbel hcell0 hrd hre hz hn htk hy hlt'
        unfold maxLen at h2
        go_wp2_with (first
          | (at_builtin
             refine wpList_append_one _ rfl (.tmp 15) (.tmp 21) 22 rfl 24 w.heap.size 29 (.slice none 0 0) Try.underlying22 info_row rfl u3 k vs rfl (World.ownsRow.alloc HOV.out _) ⟨wr.heap.size, 0, none⟩ 1 (.slice B n c) rfl (by simp) rfl (by omega) (by omega) (by simp; omega) (by simp only [maxLen]; omega) ?_
             intro v2 w2 ho2 hg2))
        have hb2 : Below w.heap.size w w2 := hg2.below (HBEL.out.alloc hsz _) (by simp; omega) (fun g hg => (HROW.out g hg).1)
        have hrows : ∀ (j : Nat) u r, vs[j]? = some u → (few (rs.take k))[j]? = some r → RowIn (wr.alloc (.cells #[.slice B n c] 29)) u3 u r :=
          fun j u r h1 h2 => (HIN.out j u r h1 h2).below ((Below.refl _ _).alloc (Nat.le_refl _) _)
        have hthis : RowIn (wr.alloc (.cells #[.slice B n c] 29)) u3 (.slice B n c) y := by
          refine ⟨B, c, by rw [HTL.out], by rw [HTL.out]; omega, by unfold maxLen; omega, by rw [HTL.out]; exact (HFR.out.below HBEL.out).alloc _, fun hp ad he hc => ?_⟩
          rw [HTL.out] at hp
          obtain ⟨ad', he', hc'⟩ := HFR.out.2 hp
          obtain rfl : ad = ad' := by rw [he] at he'; injection he'
          have h3 := World.block_lt_of_cell? w _ (hc' 0 hp)
          rw [add_block] at h3
          have h4 := (HROW.out _ hc).1
          omega
        have hpush := OwnRows.push (rs := few (rs.take k)) (by rw [HLK.out]; exact ho2) hg2 (by rw [HLK.out]; exact HVL.out) hrows hthis
        rw [← HNEXT.out] at hpush
        refine ⟨⟨k + 1, by omega, by go_num, hpush, hb2⟩, ?_⟩
        simp [intOf]
        omega
      · have hsame := few_same rs k (by omega)
        rw [← hsame] at hown
        have HOWN := Lib.hid hown
        have HBEL := Lib.hid hbel
        obtain ⟨z, hz⟩ : ∃ z, z = rs[k].length := ⟨_, rfl⟩
        rw [← hz] at hcell
        clear hown hbel hsame hcell0 hrd h1 hz hlt'
        go_wp2
        go_roundw
        case rel => exact ⟨k + 1, by omega, by go_num, HOWN.out, HBEL.out⟩
        case measure => simp [intOf]; omega
    · obtain rfl : k = len := by omega
      rw [List.take_of_length_le (by rw [HRL.out]; omega)] at hown
      have HOWN := Lib.hid hown
      have HBEL := Lib.hid hbel
      clear hown hbel
      go_wp2
      go_ret
      exact ⟨u3, rfl, HOWN.out, HBEL.out⟩
end Go.Proofs.Ytopogffoiofgbaa
