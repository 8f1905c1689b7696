/-
  The statement VarintSmall by its walk.
-/
import Derived.Test.YtmmgnppgabohhaaVarBytes
import Derived.Test.YtmmgnppgabohhaaRowArg
namespace Go.Proofs.Ytmmgnppgabohhaa
open Go.RowKit
set_option linter.unusedVariables false

theorem small_out {n : Int} (h : -128 ≤ n) (h' : n ≤ 127) (ho : n < -64 ∨ 63 < n) : (encs [n]).length = 2 := by
  have hp : 128 ≤ pairN n ∧ pairN n / 128 < 128 := by unfold pairN; split <;> omega
  rw [encs_one, enc_big hp.1, enc_small hp.2]
  rfl
theorem small_in {n : Int} (h : -64 ≤ n) (h' : n ≤ 63) : (encs [n]).length = 1 := by
  have hp : pairN n < 128 := by unfold pairN; split <;> omega
  rw [encs_one, enc_small hp]
  rfl

set_option maxRecDepth 100000 in
set_option maxHeartbeats 2000000 in
theorem small_far (n : Int) (a : Option Addr) (len cap : Nat) (w : World) (n1 : -128 ≤ n) (n2 : n ≤ 127) (ho : n < -64 ∨ 63 < n) :
    Calls Try.prog 7 #[.int .i8 n, .slice a len cap] w fun e w' => e = .returned (.bool true) ∧ Below w.heap.size w w' := by
  have hl := small_out n1 n2 ho
  have HL := Lib.hid hl
  clear hl
  rcases ho with ho | ho
  all_goals
    go_enter Try.func7, Try.ntmps7
    go_wp2_with fail
    refine (awake_ok w).mono ?_
    rintro e w1 ⟨rfl, hb⟩
    have HB := Lib.hid hb
    clear hb
    go_wp2_with fail
    refine (all_any _ 1 1 [n] _ (Rd.one _) (by intro x hx; simp at hx; omega) (by omega)).mono ?_
    rintro e w2 ⟨v, rfl, ho2, hb2⟩
    rw [HL.out] at ho2
    obtain ⟨A, cp, rfl, _, _, _, _⟩ := ho2.form
    have HB2 := Lib.hid hb2
    clear ho2 hb2
    go_wp2
    go_ret
    exact ⟨rfl, HB.out.trans ((((Below.refl _ _).alloc (Nat.le_refl _) _).trans (HB2.out.mono (by simp))).mono HB.out.size)⟩

set_option maxRecDepth 100000 in
set_option maxHeartbeats 2000000 in
theorem small_near (n : Int) (a : Option Addr) (len cap : Nat) (xs : List Nat) (w : World) (n1 : -64 ≤ n) (n2 : n ≤ 63) (hr : Rd .u8 w a len (ints xs)) (hw : ∀ x ∈ xs, x < 256) (hl : len ≤ 140737488351232) :
    Calls Try.prog 7 #[.int .i8 n, .slice a len cap] w fun e w' => e = .returned (.bool true) ∧ Below w.heap.size w w' := by
  have hle := small_in n1 n2
  have HL := Lib.hid hle
  have HW := Lib.hid hw
  have HR := Lib.hid hr
  clear hle hw hr
  go_enter Try.func7, Try.ntmps7
  go_wp2_with fail
  refine (awake_ok w).mono ?_
  rintro e w1 ⟨rfl, hb⟩
  have HR1 := Lib.hid (HR.out.below hb)
  have HB := Lib.hid hb
  clear hb
  go_wp2_with fail
  refine (all_any _ 1 1 [n] _ (Rd.one _) (by intro x hx; simp at hx; omega) (by omega)).mono ?_
  rintro e w2 ⟨v, rfl, ho2, hb2⟩
  have HB2 := Lib.hid (HB.out.trans ((((Below.refl _ _).alloc (Nat.le_refl _) _).trans (hb2.mono (by simp))).mono HB.out.size))
  have HR2 := Lib.hid ((HR1.out.alloc _).below hb2)
  rw [HL.out, encs_one] at ho2
  obtain ⟨A, cp, rfl, _, _, _, _⟩ := ho2.form
  have HO := Lib.hid (ho2.less (show w.heap.size ≤ _ by have := HB.out.size; simp; omega))
  clear ho2 hb2 HR1 HB
  go_wp2_with (at_builtin; refine wpList_append_ints _ rfl (.tmp 25) (.tmp 26) 22 rfl .u8 1 w.heap.size 5 Try.underlying22 info_byte _ 1 _ rfl HO.out a len cap _ rfl HR2.out (by omega) (by omega) HB2.out.size ?_; intro v' w3 ho3 hg3)
  have hb3 : Below w.heap.size w w3 := HB2.out.grown hg3 HB2.out.size HO.out.rowLt
  rw [← ints_append] at ho3
  obtain ⟨A3, c3, rfl, h31, h32, hr3, _⟩ := ho3.form
  clear hg3 ho3 HB2 HR2 HO
  refine (get_enc A3 (1 + len) c3 n xs w3 hr3 HW.out h31 h32 (by omega) (by omega) (by omega)).mono ?_
  rintro e w4 ⟨v4, rfl, ho4, hb4⟩
  obtain ⟨A4, c4, rfl, _, _, hr4, _⟩ := ho4.form
  have hb5 : Below w.heap.size w w4 := hb3.trans (hb4.mono hb3.size)
  have hcv4 := run_str (P := Try.prog) w4 22 9 5 Try.underlying22 Try.underlying5 Try.underlying9 A4 _ c4 _ hr4
  have hcvb := run_str (P := Try.prog) w4 22 9 5 Try.underlying22 Try.underlying5 Try.underlying9 a _ cap _ (HR.out.below hb5)
  have HB5 := Lib.hid hb5
  clear hr3 hr4 ho4 hb4 hb3 hb5 h31 h32
  go_wp2
  go_ret
  exact ⟨rfl, HB5.out⟩

theorem varintSmall_walk (w : World) (n : Int) (hn : (Lit.int .i8 n).wf = true) (a : Option Addr) (len cap : Nat) (zs : List Int) (h : IsRow .u8 w a len cap zs) (hr : cap * 1 ≤ 140737488351232) :
    Calls Try.prog 7 #[.int .i8 n, .slice a len cap] w fun e w' => e = .returned (.bool true) ∧ Below w.heap.size w w' := by
  have hb : -128 ≤ n ∧ n ≤ 127 := by
    simp only [Lit.wf, Bool.and_eq_true, decide_eq_true_eq] at hn
    have e1 : IntKind.i8.min = -128 := rfl
    have e2 : IntKind.i8.max = 127 := rfl
    omega
  by_cases ho : n < -64 ∨ 63 < n
  · exact small_far n a len cap w hb.1 hb.2 ho
  · obtain ⟨xs, h1, _, h3, h4, _⟩ := row_bytes h
    exact small_near n a len cap xs w (by omega) (by omega) h1 h3 (by omega)
end Go.Proofs.Ytmmgnppgabohhaa
