/-
  What the statements of layer 4 say of frames in their own words (made), and the document's examples (awake).
-/
import Derived.Test.YtgdhlkfbohjilaaFrameScan
namespace Go.Proofs.Ytgdhlkfbohjilaa
open Go.RowKit
set_option linter.unusedVariables false

/-- It hands back a string, and makes memory alone. -/
def StrRes (w : World) (xs : List Nat) (e : Ending) (w' : World) : Prop := e = .returned (.string (strN xs)) ∧ Below w.heap.size w w'

theorem Rd.seven {k : IntKind} {w : World} {t : TypeId} (a b c d e f g : Int) : Rd k (w.alloc (.cells #[.int k a, .int k b, .int k c, .int k d, .int k e, .int k f, .int k g] t)) (some ⟨w.heap.size, 0, none⟩) 7 [a, b, c, d, e, f, g] :=
  ⟨rfl, fun _ => ⟨_, rfl, fun j hj => by
    rcases (show j = 0 ∨ j = 1 ∨ j = 2 ∨ j = 3 ∨ j = 4 ∨ j = 5 ∨ j = 6 by omega) with rfl | rfl | rfl | rfl | rfl | rfl | rfl <;> simp [Addr.add]⟩⟩

set_option maxRecDepth 100000 in
set_option maxHeartbeats 1000000 in
theorem made_any (A : Option Addr) (n c : Nat) (xs : List Nat) (w : World) (hr : Rd .u8 w A n (ints xs)) (hx : ∀ x ∈ xs, x < 256) (hn : n ≤ 16384) :
    Calls Try.prog 13 #[.slice A n c] w (StrRes w (fmk xs)) := by
  have hl : xs.length = n := by have := hr.1; rwa [ints_length] at this
  have HL := Lib.hid hl
  have HR := Lib.hid hr
  have HX := Lib.hid hx
  have hs := csum_lt32 xs
  obtain ⟨s, hse⟩ : ∃ s, s = csum xs := ⟨_, rfl⟩
  rw [← hse] at hs
  have HS := Lib.hid hse
  clear hl hr hx hse
  go_enter Try.func13, Try.ntmps13
  go_wp2_with fail
  refine (sum_any A n c xs w HR.out HX.out (by omega)).mono ?_
  rintro e w1 ⟨rfl, hb⟩
  rw [← HS.out]
  have HB := Lib.hid hb
  have h6 := Rd.six (k := .u8) (w := w1) (t := 5) ((n : Int) / 256) ((n : Int) % 256) ((s : Int) / 16777216) ((s : Int) / 65536 % 256) ((s : Int) / 256 % 256) ((s : Int) % 256)
  have hra := ((HR.out.below hb).alloc (.cells #[.int .u8 ((n : Int) / 256), .int .u8 ((n : Int) % 256), .int .u8 ((s : Int) / 16777216), .int .u8 ((s : Int) / 65536 % 256), .int .u8 ((s : Int) / 256 % 256), .int .u8 ((s : Int) % 256)] 5))
  rw [← ints_hd n s (by omega) hs] at h6
  have c1 := str_of _ _ 6 6 _ h6
  have c2 := str_of _ A n c xs hra
  have hcc : ¬ 9223372036854775807 < (strN (hdOf n s)).size + (strN xs).size := by
    rw [strN_size, strN_size, HL.out]
    have : (hdOf n s).length = 6 := rfl
    omega
  clear hb h6 hra
  go_wp2
  go_ret
  refine ⟨?_, HB.out.alloc HB.out.size _⟩
  rw [strN_append, fmk, fhd, HL.out, ← HS.out]
  rfl

theorem zeros_scan {rs : List (List Nat)} (h : Scanned [0, 0, 0, 0, 0, 0, 1] rs) : rs = [[]] := by
  have e : [0, 0, 0, 0, 0, 0, 1] = fmk [] ++ [1] := by decide +kernel
  rw [e] at h
  obtain ⟨rs', rfl, h'⟩ := Scanned.some_ (by simp) h
  rw [h'.none_ (fone_short (by simp))]

theorem zeros_make : fmk [] = [0, 0, 0, 0, 0, 0] := by decide +kernel
theorem zeros_str : (strN [0, 0, 0, 0, 0, 0] : ByteArray) = { data := #[0, 0, 0, 0, 0, 0] } := by rfl

set_option maxRecDepth 100000 in
set_option maxHeartbeats 1000000 in
theorem awake_any (w : World) : Calls Try.prog 9 #[] w fun e w' => e = .returned (.bool true) ∧ Below w.heap.size w w' := by
  go_enter Try.func9, Try.ntmps9
  go_wp2_with fail
  refine (make_any none 0 0 [] w Rd.nil (by simp) (by omega)).mono ?_
  rintro e w1 ⟨A1, c1, rfl, h1, h2, hr1, hb1⟩
  rw [zeros_make] at *
  have HR1 := Lib.hid hr1
  have HB1 := Lib.hid hb1
  simp only [List.length_cons, List.length_nil, Nat.zero_add, Nat.reduceAdd] at h1 ⊢
  clear hr1 hb1
  go_wp2_with fail
  have h7 := Rd.seven (k := .u8) (w := w1) (t := 5) 0 0 0 0 0 0 1
  refine (scan_any _ 7 7 [0, 0, 0, 0, 0, 0, 1] _ h7 (by simp) (by omega) (by omega) (by omega)).mono ?_
  rintro e w2 ⟨rs, v, hsc, rfl, hown, hb2⟩
  obtain rfl := zeros_scan hsc
  obtain ⟨A2, c2, rfl, h3, h4, hrows⟩ := hown.form
  rw [flat_one, zeros_make]
  simp only [List.length_cons, List.length_nil, Nat.zero_add, Nat.reduceAdd]
  have hb3 : Below w.heap.size w w2 := (HB1.out.alloc HB1.out.size _).trans (hb2.mono (by have := HB1.out.size; simp; omega))
  have hb4 : Below w1.heap.size w1 w2 := ((Below.refl _ _).alloc (Nat.le_refl _) _).trans (hb2.mono (by simp))
  have hstr := str_of w2 A1 6 c1 [0, 0, 0, 0, 0, 0] (HR1.out.below hb4)
  rw [zeros_str] at hstr
  have HB3 := Lib.hid hb3
  clear hb2 hb3 hb4 hsc hown h7 hrows HR1 HB1
  go_wp2
  go_ret
  exact ⟨rfl, HB3.out⟩
end Go.Proofs.Ytgdhlkfbohjilaa
