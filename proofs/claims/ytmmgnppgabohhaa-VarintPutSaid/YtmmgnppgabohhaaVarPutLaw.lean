/-
  The statement VarintPut by its walk.
-/
import Derived.Test.YtmmgnppgabohhaaVarGetLaw
import Derived.Test.YtmmgnppgabohhaaAfter
namespace Go.Proofs.Ytmmgnppgabohhaa
open Go.RowKit
set_option linter.unusedVariables false

theorem five : encs [5] = [10] := by
  rw [encs_one, pairN_pos (by omega), enc_small (by decide)]
  rfl

set_option maxRecDepth 100000 in
set_option maxHeartbeats 8000000 in
theorem varintPut_walk (w : World) (a : Option Addr) (len cap : Nat) (zs : List Int) (h : IsRow .u8 w a len cap zs) (hr : cap * 1 ≤ 140737488351232) (n : Int) (hn : (Lit.int .i64 n).wf = true) :
    Calls Try.prog 3 #[.slice a len cap, .int .i64 n] w fun e w' => e = .returned (.bool true) ∧ Below w.heap.size w w' := by
  obtain ⟨n1, n2⟩ : -9223372036854775808 ≤ n ∧ n ≤ 9223372036854775807 := by
    simp only [Lit.wf, Bool.and_eq_true, decide_eq_true_eq] at hn
    have e1 : IntKind.i64.min = -9223372036854775808 := rfl
    have e2 : IntKind.i64.max = 9223372036854775807 := rfl
    omega
  obtain ⟨xs, hrd, hxl, hw, hnc, _⟩ := row_bytes h
  have hl : len ≤ 140737488351232 := by omega
  have hel := enc_len_ten (pairN_lt n1 n2)
  have hq0 : strOfNums (ints xs) ++ strN (enc (pairN n)) = strOfNums (ints (xs ++ enc (pairN n))) := strN_append xs (enc (pairN n))
  have hq : ((strOfNums (ints (xs ++ enc (pairN n)))).toList == (strOfNums (ints xs) ++ strN (enc (pairN n))).toList) = true := by rw [hq0]; exact beq_self_eq_true _
  have hss : ¬ 9223372036854775807 < (strOfNums (ints xs)).size + (strN (enc (pairN n))).size := by rw [strN_size, strOfNums_size, ints_length, hxl]; omega
  obtain ⟨ys, hys⟩ : ∃ ys, ys = xs ++ enc (pairN n) := ⟨_, rfl⟩
  rw [← hys] at hq
  have hyl : ys.length ≤ 140737488351300 := by rw [hys, List.length_append, hxl]; omega
  have HR := Lib.hid hrd
  have HXL := Lib.hid hxl
  have HY := Lib.hid hys
  have hnn := eqT (show n = n from rfl)
  clear h hrd hxl hys hq0 hn hel
  go_enter Try.func3, Try.ntmps3
  go_wp2_with fail
  refine (awake_ok w).mono ?_
  rintro e w1 ⟨rfl, hb⟩
  have HB := Lib.hid hb
  have HR1 := Lib.hid (HR.out.below hb)
  clear hb
  go_wp2_with (at_builtin; refine wpList_append_ints _ rfl (.const (.slice none 0 0)) (.tmp 11) 22 rfl .u8 1 w1.heap.size 5 Try.underlying22 info_byte _ 0 [] rfl Own.nil a len cap _ rfl HR1.out (by omega) (by omega) (Nat.le_refl _) ?_; intro v2 w2 ho2 hg2)
  have hb2 : Below w1.heap.size w1 w2 := (Below.refl _ _).grown hg2 (Nat.le_refl _) (fun g he => by have he' : none = some g := he; cases he')
  rw [Nat.zero_add, List.nil_append] at ho2
  obtain ⟨A2, c2, rfl, _, _, hr2, _⟩ := ho2.form
  have HB2 := Lib.hid (HB.out.trans (hb2.mono HB.out.size))
  have HR2 := Lib.hid hr2
  clear ho2 hg2 hb2 hr2 HB HR1
  refine (put_any A2 len c2 xs n w2 HR2.out (by omega) n1 n2).mono ?_
  rintro e w3 ⟨v3, rfl, ho3, hb3⟩
  rw [← HY.out] at ho3
  obtain ⟨A3, c3, rfl, _, _, hr3, _⟩ := ho3.form
  have HB3 := Lib.hid (HB2.out.trans (hb3.mono HB2.out.size))
  have HR3 := Lib.hid hr3
  clear ho3 hb3 hr3 HB2 HR2
  go_wp2_with fail
  refine (all_any _ 2 2 [n, 5] _ (Rd.two _ _) (by intro x hx; simp at hx; omega) (by omega)).mono ?_
  rintro e w4 ⟨v4, rfl, ho4, hb4⟩
  have HB4 := Lib.hid (HB3.out.trans ((((Below.refl _ _).alloc (Nat.le_refl _) _).trans (hb4.mono (by simp))).mono HB3.out.size))
  have HR4 := Lib.hid ((HR3.out.alloc _).below hb4)
  rw [encs_cons, five] at ho4
  obtain ⟨q, hq4⟩ : ∃ q, q = enc (pairN n) ++ [10] := ⟨_, rfl⟩
  rw [← hq4] at ho4
  obtain ⟨A4, c4, rfl, h41, h42, hr4, _⟩ := ho4.form
  have hlen4 : q.length ≤ 11 := by rw [hq4, List.length_append]; have := enc_len_ten (pairN_lt n1 n2); simp; omega
  have HGET := Lib.hid (get_enc A4 q.length c4 n [10] w4 (by rw [← hq4]; exact hr4) (by simp) h41 h42 (by omega) n1 n2)
  clear hq4
  go_wp2_with fail
  refine HGET.out.mono ?_
  rintro e w5 ⟨v5, rfl, ho5, hb5⟩
  obtain ⟨A5, c5, rfl, _, _, hr5, _⟩ := ho5.form
  have HB5 := Lib.hid (HB4.out.trans (hb5.mono HB4.out.size))
  have HR5 := Lib.hid (HR4.out.below hb5)
  have HR6 := Lib.hid hr5
  have HR0 := Lib.hid (HR.out.below HB5.out)
  clear HB3 HB4 HR3 HR4 ho4 ho5 hb4 hb5 hr4 hr5 h41 h42 hlen4
  have d1 := fun p : After w5 => str_of p.world A3 _ c3 _ (HR5.out.below p.below)
  have d2 := fun p : After w5 => str_of p.world a _ cap _ (HR0.out.below p.below)
  have d3 : ∀ p : After w5, (convert 22 9 (.slice A5 1 c5)).run Try.prog p.world = .ok (.string ⟨#[10]⟩) p.world := fun p => str_of p.world A5 _ c5 _ (HR6.out.below p.below)
  go_wp2
  refine wp_region_after (by kernel_rfl) (by kernel_rfl) ?_
  repeat (go_big_quiet_step ((go_at_call 12; exact after_call _ (bytes_any n _ n1 n2))))
  refine wpQuiet_nil ?_
  intro _ hw'
  obtain ⟨p, rfl⟩ := hw'
  have HB6 := Lib.hid (HB5.out.trans (p.below.mono HB5.out.size))
  clear d1 d2 d3
  go_wp2
  go_ret
  exact ⟨rfl, HB6.out⟩
end Go.Proofs.Ytmmgnppgabohhaa
