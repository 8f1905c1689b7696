/-
  request.Bytes and request.Reply by their contracts.
-/
import Derived.Test.YtenepkhglgfpaaaReqMay
import Derived.Test.YtenepkhglgfpaaaVarAll
namespace Go.Proofs.Ytenepkhglgfpaaa
open Go Go.RowKit
set_option linter.unusedVariables false

theorem Rd.seven {w : World} {t : TypeId} (a b c d e f g : Int) : Rd .i64 (w.alloc (.cells #[.int .i64 a, .int .i64 b, .int .i64 c, .int .i64 d, .int .i64 e, .int .i64 f, .int .i64 g] t)) (some ⟨w.heap.size, 0, none⟩) 7 [a, b, c, d, e, f, g] :=
  ⟨rfl, fun _ => ⟨_, rfl, fun j hj => by
    rcases (show j = 0 ∨ j = 1 ∨ j = 2 ∨ j = 3 ∨ j = 4 ∨ j = 5 ∨ j = 6 by omega) with rfl | rfl | rfl | rfl | rfl | rfl | rfl <;> simp [Addr.add]⟩⟩
theorem Rd.two {w : World} {t : TypeId} (a b : Int) : Rd .i64 (w.alloc (.cells #[.int .i64 a, .int .i64 b] t)) (some ⟨w.heap.size, 0, none⟩) 2 [a, b] :=
  ⟨rfl, fun _ => ⟨_, rfl, fun j hj => by
    rcases (show j = 0 ∨ j = 1 by omega) with rfl | rfl <;> simp [Addr.add]⟩⟩

/-- All of seven numbers. -/
theorem all_seven (a b c d e f g : Int) (t : TypeId) (w0 w : World) (k : Nat) (hk : k = w.heap.size) (hb : Below w0.heap.size w0 w) (h : ∀ x ∈ [a, b, c, d, e, f, g], inI x) :
    Calls Try.prog 15 #[.slice (some ⟨k, 0, none⟩) 7 7] (w.alloc (.cells #[.int .i64 a, .int .i64 b, .int .i64 c, .int .i64 d, .int .i64 e, .int .i64 f, .int .i64 g] t)) (OwnRes w0 w0.heap.size (encs [a, b, c, d, e, f, g])) := by
  subst hk
  have h0 := hb.size
  have hb0 := hb.alloc h0 (.cells #[.int .i64 a, .int .i64 b, .int .i64 c, .int .i64 d, .int .i64 e, .int .i64 f, .int .i64 g] t)
  have h1 := hb0.size
  refine (all_any _ 7 7 [a, b, c, d, e, f, g] _ (Rd.seven a b c d e f g) h (by omega)).mono ?_
  rintro _ w' ⟨v, rfl, ho, hb1⟩
  exact ⟨v, rfl, ho.less h1, hb0.trans (hb1.mono h1)⟩
theorem all_two (a b : Int) (t : TypeId) (w0 w : World) (k : Nat) (hk : k = w.heap.size) (hb : Below w0.heap.size w0 w) (h : ∀ x ∈ [a, b], inI x) :
    Calls Try.prog 15 #[.slice (some ⟨k, 0, none⟩) 2 2] (w.alloc (.cells #[.int .i64 a, .int .i64 b] t)) (OwnRes w0 w0.heap.size (encs [a, b])) := by
  subst hk
  have h0 := hb.size
  have hb0 := hb.alloc h0 (.cells #[.int .i64 a, .int .i64 b] t)
  have h1 := hb0.size
  refine (all_any _ 2 2 [a, b] _ (Rd.two a b) h (by omega)).mono ?_
  rintro _ w' ⟨v, rfl, ho, hb1⟩
  exact ⟨v, rfl, ho.less h1, hb0.trans (hb1.mono h1)⟩

set_option maxRecDepth 100000 in
theorem rbytes_any (r : Rq) (w : World) (hf : r.fits) : Calls Try.prog 14 #[r.val] w (OwnRes w w.heap.size (encs r.nums)) := by
  have HF := Lib.hid hf
  obtain ⟨key, op, a, b, amt, legs, til⟩ := r
  unfold Rq.val
  dsimp only
  clear hf
  have HB0 := Lib.hid ((Below.refl w.heap.size w).alloc (Nat.le_refl _) (.cells #[.int .i64 key, .int .i64 op, .int .i64 a, .int .i64 b, .int .i64 amt, .int .i64 legs, .int .i64 til] 24))
  have HA := Lib.hid (fun (W : World) (k : Nat) (hk : k = W.heap.size) (hb : Below w.heap.size w W) => all_seven key op a b amt legs til 3 w W k hk hb HF.out)
  go_enter Try.func14, Try.ntmps14
  go_wp2_with fail
  refine (HA.out _ _ (by simp) HB0.out).mono ?_
  rintro _ w2 ⟨v, rfl, ho, hb⟩
  have HO := Lib.hid ho
  have HB := Lib.hid hb
  clear ho hb HA HB0
  go_wp2
  go_ret
  exact ⟨v, rfl, HO.out, HB.out⟩

set_option maxRecDepth 100000 in
theorem rreply_any (e i : Int) (w : World) (he : inI e) (hi : inI i) : Calls Try.prog 17 #[.agg #[.int .i64 e, .int .i64 i]] w (OwnRes w w.heap.size (encs [e, i])) := by
  have HF : Hid (∀ x ∈ [e, i], inI x) := Lib.hid (by intro x hx; rcases List.mem_cons.1 hx with rfl | hx; exact he; rw [List.mem_singleton] at hx; rw [hx]; exact hi)
  have HB0 := Lib.hid ((Below.refl w.heap.size w).alloc (Nat.le_refl _) (.cells #[.int .i64 e, .int .i64 i] 43))
  have HA := Lib.hid (fun (W : World) (k : Nat) (hk : k = W.heap.size) (hb : Below w.heap.size w W) => all_two e i 3 w W k hk hb HF.out)
  clear he hi
  go_enter Try.func17, Try.ntmps17
  go_wp2_with fail
  refine (HA.out _ _ (by simp) HB0.out).mono ?_
  rintro _ w2 ⟨v, rfl, ho, hb⟩
  have HO := Lib.hid ho
  have HB := Lib.hid hb
  clear ho hb HA HB0
  go_wp2
  go_ret
  exact ⟨v, rfl, HO.out, HB.out⟩
end Go.Proofs.Ytenepkhglgfpaaa
