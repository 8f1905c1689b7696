/-
  The statements' own 'bytes' and 'awake' by their contracts.
-/
import Derived.Test.YtmmgnppgabohhaaVarGet
namespace Go.Proofs.Ytmmgnppgabohhaa
open Go.RowKit
set_option linter.unusedVariables false

/-- Bytes as a string. -/
def strN (xs : List Nat) : ByteArray := strOfNums (ints xs)
theorem strN_append (a b : List Nat) : strN a ++ strN b = strN (a ++ b) := by
  apply ByteArray.ext
  simp [strN, strOfNums, ints_append, ByteArray.data_append]
theorem strN_size (a : List Nat) : (strN a).size = a.length := by rw [strN, strOfNums_size, ints_length]
theorem strN_nil : strN [] = ByteArray.empty := rfl

def StrRes (w : World) (s : ByteArray) (e : Ending) (w' : World) : Prop := e = .returned (.string s) ∧ Below w.heap.size w w'

theorem run_byte_str (w : World) (x : Int) : (convert 22 9 (.slice (some ⟨w.heap.size, 0, none⟩) 1 1)).run Try.prog (w.alloc (.cells #[.int .u8 x] 5)) = .ok (.string (strOfNums [x])) (w.alloc (.cells #[.int .u8 x] 5)) :=
  run_str _ _ _ 5 Try.underlying22 Try.underlying5 Try.underlying9 _ 1 1 [x] (Rd.one _)
theorem str_one {x : Int} {q : Nat} (hx : x = (q : Int)) : strOfNums [x] = strN [q] := by subst hx; rfl
theorem str_small (ys : List Nat) (x : Int) (h : ys.length ≤ 1000) : ¬ 9223372036854775807 < (strN ys).size + (strOfNums [x]).size := by
  rw [strN_size, strOfNums_size]; simp; omega

theorem enc_front_len {u : Nat} (h : u < 18446744073709551616) {ys : List Nat} {q : Nat} (he : enc u = ys ++ enc q) : ys.length ≤ 10 := by
  have h1 := enc_len_ten h
  rw [he, List.length_append] at h1
  omega

set_option maxRecDepth 100000 in
set_option maxHeartbeats 2000000 in
theorem bytes_any (n : Int) (w : World) (h1 : -9223372036854775808 ≤ n) (h2 : n ≤ 9223372036854775807) :
    Calls Try.prog 12 #[.int .i64 n] w (StrRes w (strN (enc (pairN n)))) := by
  have hlt := pairN_lt h1 h2
  have hp : (n < 0 ∧ ((pairN n : Nat) : Int) = 2 * (-1 - n) + 1) ∨ (0 ≤ n ∧ ((pairN n : Nat) : Int) = 2 * n) := by unfold pairN; split <;> omega
  obtain ⟨u, hu⟩ : ∃ u, u = pairN n := ⟨_, rfl⟩
  rw [← hu] at hlt hp ⊢
  clear hu
  have HLT := Lib.hid hlt
  rcases hp with ⟨h, hp⟩ | ⟨h, hp⟩
  all_goals
    have HP := Lib.hid hp
    clear hp
    go_enter Try.func12, Try.ntmps12
    go_wp2
    go_loopw [3, 4] (fun t b wr => ∃ (q : Nat) (ys : List Nat), t = .int .u64 (q : Int) ∧ b = .string (strN ys) ∧ q < 18446744073709551616 ∧ enc u = ys ++ enc q ∧ Below w.heap.size w wr) (fun t _ _ => (intOf t).toNat)
    case atStart => exact ⟨u, [], by rw [HP.out], rfl, HLT.out, rfl, Below.refl _ _⟩
    case round =>
      obtain ⟨q, ys, rfl, rfl, hq, he, hb⟩ := hrel
      have hyl := enc_front_len HLT.out he
      have HE := Lib.hid he
      have hsz := hb.size
      clear he
      by_cases hs : 128 ≤ q
      · have hcv := run_byte_str wr ((q : Int) % 128 + 128)
        have hss := str_small ys ((q : Int) % 128 + 128) (by omega)
        go_wp2
        go_roundw
        case rel => exact ⟨q / 128, ys ++ [q % 128 + 128], by go_num, by rw [str_one (show (q : Int) % 128 + 128 = ((q % 128 + 128 : Nat) : Int) by omega), strN_append], by omega, by rw [HE.out, enc_big hs]; simp, hb.alloc hsz _⟩
        case measure => simp [intOf]; omega
      · have hcv := run_byte_str wr (q : Int)
        have hss := str_small ys (q : Int) (by omega)
        go_wp2
        go_ret
        exact ⟨by rw [HE.out, enc_small (by omega), ← strN_append, ← str_one rfl]; rfl, hb.alloc hsz _⟩

theorem encs_awake : encs [-1, 64] = [1, 128, 1] := by
  rw [encs_cons, encs_one, pairN_neg (by omega), pairN_pos (by omega), enc_small (by decide), enc_big (by decide), enc_small (by decide)]
  rfl

/-- Two numbers in a new block. -/
theorem Rd.two {k : IntKind} {w : World} {t : TypeId} (x y : Int) : Rd k (w.alloc (.cells #[.int k x, .int k y] t)) (some ⟨w.heap.size, 0, none⟩) 2 [x, y] :=
  ⟨rfl, fun _ => ⟨_, rfl, fun j hj => by
    rcases (show j = 0 ∨ j = 1 by omega) with rfl | rfl <;> simp [Addr.add]⟩⟩

set_option maxHeartbeats 1000000 in
theorem awake_ok (w : World) : Calls Try.prog 8 #[] w fun e w' => e = .returned (.bool true) ∧ Below w.heap.size w w' := by
  go_enter Try.func8, Try.ntmps8
  go_wp2_with fail
  refine (all_any _ 2 2 [-1, 64] _ (Rd.two _ _) (by intro x hx; simp at hx; omega) (by omega)).mono ?_
  rintro e w1 ⟨v, rfl, ho, hb⟩
  rw [encs_awake] at ho
  obtain ⟨A, cap, rfl, _, _, hr, _⟩ := ho.form
  have hcv : (convert 22 9 (.slice A 3 cap)).run Try.prog w1 = .ok (.string ⟨#[1, 128, 1]⟩) w1 :=
    run_str (P := Try.prog) w1 22 9 5 Try.underlying22 Try.underlying5 Try.underlying9 A _ cap _ hr
  have HB := Lib.hid hb
  clear ho hr hb
  go_wp2
  go_ret
  exact ⟨rfl, ((Below.refl _ _).alloc (Nat.le_refl _) _).trans (HB.out.mono (by simp))⟩
end Go.Proofs.Ytmmgnppgabohhaa
