/-
  varint.Get and varint.Put by their contracts.
-/
import Derived.Test.YtmmgnppgabohhaaVarRead
import Derived.Laws.CopyOwn
namespace Go.Proofs.Ytmmgnppgabohhaa
open Go.RowKit
set_option linter.unusedVariables false

set_option maxHeartbeats 1000000 in
theorem get_none (A : Option Addr) (n c : Nat) (xs : List Nat) (w : World) (hr : Rd .u8 w A n (ints xs)) (hw : ∀ x ∈ xs, x < 256) (hnc : n ≤ c) (hl : c ≤ maxLen) (h : rd xs = none) :
    Calls Try.prog 10 #[.slice A n c] w fun e w' => e = .returned (.tuple #[.int .i64 0, .slice none 0 0, .bool false]) ∧ w = w' := by
  have hp := read_any A n c xs w hr hw hnc hl
  rw [h] at hp
  have HP := Lib.hid hp
  clear h hp hw hr
  go_enter Try.func10, Try.ntmps10
  go_wp2_with fail
  refine HP.out.mono ?_
  rintro e w' ⟨rfl, rfl⟩
  have hr : rdRes none = .tuple #[.int .i64 0, .int .i64 0] := rfl
  rw [hr]
  clear hr
  go_wp2
  go_ret3
  exact ⟨rfl, rfl⟩

/-- It hands back a number, bytes of its own, and true. -/
def GetRes (w : World) (n : Int) (xs : List Nat) (e : Ending) (w' : World) : Prop :=
  ∃ v, e = .returned (.tuple #[.int .i64 n, v, .bool true]) ∧ Own 5 .u8 w' w.heap.size v xs.length (ints xs) ∧ Below w.heap.size w w'

set_option maxHeartbeats 1000000 in
theorem get_some (A : Option Addr) (n c : Nat) (xs : List Nat) (w : World) (u s : Nat) (hr : Rd .u8 w A n (ints xs)) (hw : ∀ x ∈ xs, x < 256) (hnc : n ≤ c) (hl : c ≤ maxLen) (hn : n ≤ 200000000000000) (h : rd xs = some (u, s)) :
    Calls Try.prog 10 #[.slice A n c] w (GetRes w (unp u) (xs.drop s)) := by
  obtain ⟨s1, s2, s3⟩ := rd_size hw h
  have hx : xs.length = n := by have := hr.1; rwa [ints_length] at this
  rw [hx] at s3
  have hp := read_any A n c xs w hr hw hnc hl
  rw [h] at hp
  have HP := Lib.hid hp
  have HR := Lib.hid hr
  unfold maxLen at hl
  clear h hp hw hr hx
  have b0 := eqF (show (s : Int) ≠ 0 by omega)
  go_enter Try.func10, Try.ntmps10
  go_wp2_with fail
  refine HP.out.mono ?_
  rintro e w' ⟨rfl, rfl⟩
  have hr : rdRes (some (u, s)) = .tuple #[.int .i64 (unp u), .int .i64 (s : Int)] := rfl
  rw [hr]
  clear hr
  have hcut := HR.out.cut (j := s) (cap := c) s3 hnc
  rw [ints_drop] at hcut
  have HC := Lib.hid hcut
  clear hcut
  go_wp2_with fail
  all_goals
    refine (clone_any _ (n - s) _ (xs.drop s) _ (by
      have hcut := HC.out
      first
        | (rw [if_pos (by assumption)] at hcut; exact hcut)
        | (rw [if_neg (by assumption)] at hcut; exact hcut)) (by omega)).mono ?_
    rintro e w1 ⟨v, rfl, ho, hb⟩
    have HO := Lib.hid ho
    have HB := Lib.hid hb
    clear ho hb
    go_wp2
    go_ret3
    exact ⟨v, rfl, HO.out, HB.out⟩

/-- What is laid and read back. -/
theorem get_enc (A : Option Addr) (n c : Nat) (m : Int) (r : List Nat) (w : World) (hr : Rd .u8 w A n (ints (enc (pairN m) ++ r))) (hw : ∀ x ∈ r, x < 256) (hnc : n ≤ c) (hl : c ≤ maxLen) (hn : n ≤ 200000000000000)
    (m1 : -9223372036854775808 ≤ m) (m2 : m ≤ 9223372036854775807) : Calls Try.prog 10 #[.slice A n c] w (GetRes w m r) := by
  have h := get_some A n c _ w _ _ hr (fun x hx => (List.mem_append.1 hx).elim (enc_bytes _ x) (hw x)) hnc hl hn (rd_enc (pairN_lt m1 m2) r)
  rw [unp_pair, List.drop_left] at h
  exact h

theorem splice_front {α : Type} (a b : List α) (h : a.length ≤ b.length) : splice b 0 a = a ++ b.drop a.length := by simp [splice]

theorem info_one : (Try.prog.info? 5).map (·.size) = some 1 := by kernel_rfl

set_option maxHeartbeats 1000000 in
theorem put_any (A : Option Addr) (n c : Nat) (xs : List Nat) (m : Int) (w : World) (hr : Rd .u8 w A n (ints xs)) (hn : n ≤ 200000000000000)
    (m1 : -9223372036854775808 ≤ m) (m2 : m ≤ 9223372036854775807) :
    Calls Try.prog 9 #[.slice A n c, .int .i64 m] w (OwnRes w w.heap.size (xs ++ enc (pairN m))) := by
  have hx : xs.length = n := by have := hr.1; rwa [ints_length] at this
  have HR := Lib.hid hr
  have HX := Lib.hid hx
  obtain ⟨i0, hi, hz0, hz1, hz2⟩ := info_parts info_byte
  have hmk : ∀ W : World, (Instr.makeSlice 22 (.int .i64 (n : Int)) (.int .i64 ((n : Int) + 10))).run Try.prog W = .ok (.slice (some ⟨W.heap.size, 0, none⟩) n (n + 10)) (W.alloc (.cells (madeCells (Value.int .u8 0).cells (n + 10)) 5)) := by
    intro W
    have h := run_make (P := Try.prog) W 22 5 i0 (.int .u8 0) Try.underlying22 hi hz0 .i64 .i64 (n : Int) ((n : Int) + 10) (by omega) (by omega) (by rw [hz2]; omega) (by omega)
    rw [hz1] at h
    have e1 : ((n : Int)).toNat = n := by omega
    have e2 : ((n : Int) + 10).toNat = n + 10 := by omega
    rw [e1, e2, Nat.mul_one] at h
    exact h
  clear hi hz0 hz1 hz2 hr hx
  go_enter Try.func9, Try.ntmps9
  have hcur : (w.alloc (.cells (madeCells #[Value.int .u8 0] (n + 10)) 5)).heap[w.heap.size]? = some (.cells (List.replicate (n + 10) (Value.int .u8 0)).toArray 5 (0, 0)) := by
    rw [heap_alloc_new, ← toList_madeCells_one]
  have HCUR := Lib.hid hcur
  obtain ⟨cs, hcs⟩ : ∃ cs, cs = (ints xs).map (Value.int .u8) := ⟨_, rfl⟩
  have hlen : cs.length = n := by rw [hcs, List.length_map, ints_length, HX.out]
  have hpos : 0 < cs.length → some (⟨w.heap.size, 0, none⟩ : Addr) = some ⟨w.heap.size, 0, none⟩ ∧ ∃ ad, A = some ad ∧ ∀ j v, cs[j]? = some v → (w.alloc (.cells (madeCells #[Value.int .u8 0] (n + 10)) 5)).cell? (ad.add j) = some v := by
    intro hp
    refine ⟨rfl, ?_⟩
    obtain ⟨ad, rfl, hcell⟩ := (HR.out.alloc (.cells (madeCells #[Value.int .u8 0] (n + 10)) 5)).2 (by omega)
    refine ⟨ad, rfl, fun j v hj => ?_⟩
    have hj' : j < n := by have := (List.getElem?_eq_some_iff.1 hj).1; omega
    rw [hcell j hj']
    have hj2 : j < (ints xs).length := by rw [ints_length, HX.out]; exact hj'
    rw [hcs, List.getElem?_map, List.getElem?_eq_getElem hj2] at hj
    simp [List.getD, List.getElem?_eq_getElem hj2] at hj ⊢
    exact hj
  have h1c : ∀ v ∈ cs, v.oneCell' = true := by rw [hcs]; exact ints_oneCell .u8 _
  have HCS := Lib.hid hcs
  have HLEN := Lib.hid hlen
  have HPOS := Lib.hid hpos
  have H1C := Lib.hid h1c
  have HBEL : Hid (Below w.heap.size w (w.alloc (.cells (madeCells #[Value.int .u8 0] (n + 10)) 5))) := Lib.hid ((Below.refl _ _).alloc (Nat.le_refl _) _)
  clear hcur hcs hlen hpos h1c
  go_wp2_with (with_reducible refine wpList_copy_splice rfl (.tmp 12) (.tmp 13) 22 22 rfl 5 Try.underlying22 info_one _ _ n (n + 10) n c rfl rfl w.heap.size 0 _ 5 HCUR.out cs (by rw [HLEN.out]; exact (Nat.min_self n).symm) HPOS.out (by rw [HLEN.out, List.length_replicate]; omega) H1C.out w.heap.size w HBEL.out (Nat.le_refl _) ?_; intro w2 HG2 hb2)
  have ho : Own 5 .u8 w2 w.heap.size (.slice (some ⟨w.heap.size, 0, none⟩) n (n + 10)) xs.length (ints xs) := by
    rw [HX.out]
    have hg := HG2.out
    rw [splice_front _ _ (by rw [HLEN.out, List.length_replicate]; omega), HCS.out] at hg
    refine ⟨by rw [List.length_map, ints_length, HX.out]; omega, .inr ⟨w.heap.size, n + 10, _, rfl, Nat.le_refl _, hg, by omega, by unfold maxLen; omega, ?_, ?_⟩⟩
    · simp [ints_length, HX.out]
    · show List.take (n * 1) (_ ++ _) = _
      rw [List.take_left']
      rw [List.length_map, ints_length, HX.out, Nat.mul_one]
  refine (lay_any w.heap.size _ xs m w2 m1 m2 ho hb2.size (by rw [HX.out]; exact hn)).mono ?_
  rintro e w3 ⟨v, rfl, ho3, hb3⟩
  have HO := Lib.hid ho3
  have HB := Lib.hid (hb2.trans hb3)
  clear ho3 hb3 hb2 ho HG2 HPOS hmk
  go_wp2
  go_ret
  exact ⟨v, rfl, HO.out, HB.out⟩
end Go.Proofs.Ytmmgnppgabohhaa
