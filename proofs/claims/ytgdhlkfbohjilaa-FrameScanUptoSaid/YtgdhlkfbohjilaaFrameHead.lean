/-
  frame.head and frame.Make by their contracts.
-/
import Derived.Test.YtgdhlkfbohjilaaFramePlain
import Derived.Test.YtgdhlkfbohjilaaCrcWrite
import Derived.Test.YtgdhlkfbohjilaaBytes
import Derived.OwnWalk
import Derived.Laws.CopyOwn
namespace Go.Proofs.Ytgdhlkfbohjilaa
open Go.RowKit
set_option linter.unusedVariables false

theorem Rd.six {k : IntKind} {w : World} {t : TypeId} (a b c d e f : Int) : Rd k (w.alloc (.cells #[.int k a, .int k b, .int k c, .int k d, .int k e, .int k f] t)) (some ⟨w.heap.size, 0, none⟩) 6 [a, b, c, d, e, f] :=
  ⟨rfl, fun _ => ⟨_, rfl, fun j hj => by
    rcases (show j = 0 ∨ j = 1 ∨ j = 2 ∨ j = 3 ∨ j = 4 ∨ j = 5 by omega) with rfl | rfl | rfl | rfl | rfl | rfl <;> simp [Addr.add]⟩⟩

theorem ints_hd (n s : Nat) (hn : n < 65536) (hs : s < 4294967296) :
    ints (hdOf n s) = [(n : Int) / 256, (n : Int) % 256, (s : Int) / 16777216, (s : Int) / 65536 % 256, (s : Int) / 256 % 256, (s : Int) % 256] := by
  simp only [ints, hdOf, List.map_cons, List.map_nil, List.cons.injEq, and_true]
  omega

/-- It hands back bytes that are there, in memory of its own. -/
def NewRes (w : World) (xs : List Nat) (e : Ending) (w' : World) : Prop :=
  ∃ A c, e = .returned (.slice A xs.length c) ∧ xs.length ≤ c ∧ c ≤ maxLen ∧ Rd .u8 w' A xs.length (ints xs) ∧ Below w.heap.size w w'

set_option maxRecDepth 100000 in
set_option maxHeartbeats 2000000 in
theorem head_any (A : Option Addr) (n c : Nat) (xs : List Nat) (w : World) (hr : Rd .u8 w A n (ints xs)) (hx : ∀ x ∈ xs, x < 256) (hn : n ≤ 16384) :
    Calls Try.prog 16 #[.slice A n c] w (NewRes w (fhd xs)) := by
  have hl : xs.length = n := by have := hr.1; rwa [ints_length] at this
  have HL := Lib.hid hl
  have HR := Lib.hid hr
  have HX := Lib.hid hx
  have hs := csum_lt32 xs
  obtain ⟨s, hse⟩ : ∃ s, s = csum xs := ⟨_, rfl⟩
  rw [← hse] at hs
  have HS := Lib.hid hse
  clear hl hr hx hse
  go_enter Try.func16, Try.ntmps16
  go_wp2_with fail
  refine (sum_any A n c xs w HR.out HX.out (by omega)).mono ?_
  rintro e w1 ⟨rfl, hb⟩
  rw [← HS.out]
  have HB := Lib.hid hb
  clear hb
  go_wp2
  go_ret
  refine ⟨some ⟨w1.heap.size, 0, none⟩, 6, rfl, Nat.le_refl _, by simp [maxLen], ?_, HB.out.alloc HB.out.size _⟩
  have h := Rd.six (k := .u8) (w := w1) (t := 5) ((n : Int) / 256) ((n : Int) % 256) ((s : Int) / 16777216) ((s : Int) / 65536 % 256) ((s : Int) / 256 % 256) ((s : Int) % 256)
  rw [← ints_hd n s (by omega) hs] at h
  unfold fhd
  rw [HL.out, ← HS.out]
  exact h

/-- Make's answer to a record that is not too long. -/
def MadeRes (w : World) (xs : List Nat) (e : Ending) (w' : World) : Prop :=
  ∃ A c, e = .returned (.tuple #[.slice A xs.length c, .bool true]) ∧ xs.length ≤ c ∧ c ≤ maxLen ∧ Rd .u8 w' A xs.length (ints xs) ∧ Below w.heap.size w w'

theorem make_long (A : Option Addr) (n c : Nat) (w : World) (hn : 16384 < n) (hn' : n ≤ 9223372036854775807) :
    Calls Try.prog 11 #[.slice A n c] w fun e w' => e = .returned (.tuple #[.slice none 0 0, .bool false]) ∧ w = w' := by
  go_enter Try.func11, Try.ntmps11
  go_wp2
  go_ret2
  exact ⟨rfl, rfl⟩

theorem own_room (w : World) (n : Nat) (hn : n ≤ maxLen) : Own 5 .u8 (w.alloc (.cells (madeCells #[.int .u8 0] n) 5)) w.heap.size (.slice (some ⟨w.heap.size, 0, none⟩) 0 n) 0 (ints []) :=
  ⟨rfl, .inr ⟨w.heap.size, n, _, rfl, Nat.le_refl _, heap_alloc_new w _, Nat.zero_le _, hn, by simp [madeCells], by simp [ints]⟩⟩

set_option maxRecDepth 100000 in
set_option maxHeartbeats 2000000 in
theorem make_any (A : Option Addr) (n c : Nat) (xs : List Nat) (w : World) (hr : Rd .u8 w A n (ints xs)) (hx : ∀ x ∈ xs, x < 256) (hn : n ≤ 16384) :
    Calls Try.prog 11 #[.slice A n c] w (MadeRes w (fmk xs)) := by
  have hl : xs.length = n := by have := hr.1; rwa [ints_length] at this
  have HL := Lib.hid hl
  have HR := Lib.hid hr
  have HX := Lib.hid hx
  have hmk : ∀ W : World, (Instr.makeSlice 22 (.int .i64 0) (.int .i64 (6 + (n : Int)))).run Try.prog W = .ok (.slice (some ⟨W.heap.size, 0, none⟩) 0 (6 + n)) (W.alloc (.cells (madeCells #[.int .u8 0] (6 + n)) 5)) := by
    intro W
    obtain ⟨i0, hi, hz0, hz1, hz2⟩ := info_parts info_byte
    have h := run_make (P := Try.prog) W 22 5 i0 (.int .u8 0) Try.underlying22 hi hz0 .i64 .i64 0 (6 + (n : Int)) (by omega) (by omega) (by rw [hz2]; omega) (by omega)
    rw [hz1] at h
    have e2 : (6 + (n : Int)).toNat = 6 + n := by omega
    rw [e2, Nat.mul_one] at h
    exact h
  clear hl hr hx
  go_enter Try.func11, Try.ntmps11
  go_wp2_with fail
  refine (head_any A n c xs _ (HR.out.alloc _) HX.out hn).mono ?_
  rintro e w1 ⟨B, d, rfl, _, _, hrb, hb⟩
  have hsz : w.heap.size ≤ w1.heap.size := by have := hb.size; simp at this; omega
  have hb0 : Below w.heap.size w w1 := ((Below.refl _ _).alloc (Nat.le_refl _) _).trans (hb.mono (by simp))
  have ho := (own_room w (6 + n) (by simp only [maxLen]; omega)).below hb
  have HB := Lib.hid hb0
  have HO := Lib.hid ho
  have HRB := Lib.hid hrb
  rw [fhd_length] at *
  clear hb hb0 ho hrb hmk
  go_wp2_with (first
    | (at_builtin
       refine wpList_append_ints _ rfl (.tmp 12) (.tmp 14) 22 rfl .u8 1 w.heap.size 5 Try.underlying22 info_byte _ 0 _ rfl HO.out B 6 d _ rfl HRB.out (by omega) (by omega) hsz ?_
       intro v2 w2 ho2 hg2
       have hb2 : Below w.heap.size w w2 := HB.out.grown hg2 hsz (fun g he => by have he' : some w.heap.size = some g := he; injection he' with he'; omega)
       have HB2 := Lib.hid hb2
       have hsz2 := hb2.size
       rw [Nat.zero_add] at ho2
       have hrow := ho2.rowLt
       have HO2 := Lib.hid ho2
       have HROW := Lib.hid hrow
       clear ho2 hg2 hb2 HO HRB HB hsz hrow)
    | (at_builtin
       refine wpList_append_ints _ rfl (.tmp 16) (.tmp 17) 22 rfl .u8 1 w.heap.size 5 Try.underlying22 info_byte _ 6 _ rfl HO2.out A n c _ rfl (HR.out.below HB2.out) (by omega) (by omega) hsz2 ?_
       intro v3 w3 ho3 hg3))
  have hb3 : Below w.heap.size w w3 := HB2.out.grown hg3 hsz2 HROW.out
  have he : ints [] ++ ints (fhd xs) ++ ints xs = ints (fmk xs) := by rw [fmk, ints_append]; rfl
  rw [he] at ho3
  have hlen : 6 + n = (fmk xs).length := by rw [fmk_length, HL.out]
  rw [hlen] at ho3
  obtain ⟨A3, c3, rfl, h1, h2, hr3, _⟩ := ho3.form
  have HR3 := Lib.hid hr3
  have HB3 := Lib.hid hb3
  clear ho3 hg3 hb3 hr3 he hlen HO2 HROW
  go_wp2
  go_ret2
  exact ⟨A3, c3, rfl, h1, h2, HR3.out, HB3.out⟩
end Go.Proofs.Ytgdhlkfbohjilaa
