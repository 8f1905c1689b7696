/-
  varint.lay by its contract: behind bytes that are the call's own it lays a number's encoding.
-/
import Derived.Test.YtenepkhglgfpaaaVarPair
import Derived.Test.YtenepkhglgfpaaaInts
namespace Go.Proofs.Ytenepkhglgfpaaa
open Go.RowKit

set_option maxRecDepth 100000 in
set_option maxHeartbeats 2000000 in
theorem vlay_any (base : Nat) (v : Value) (xs : List Nat) (n : Int) (w : World) (h1 : -9223372036854775808 ≤ n) (h2 : n ≤ 9223372036854775807)
    (hown : Own 5 .u8 w base v xs.length (ints xs)) (hb : base ≤ w.heap.size) (hl : xs.length ≤ 200000000000000) :
    Calls Try.prog 22 #[v, .int .i64 n] w (OwnRes w base (xs ++ enc (pairN n))) := by
  have hlt := pairN_lt h1 h2
  have ht := enc_len_ten hlt
  go_enter Try.func22, Try.ntmps22
  go_wp2_with fail
  refine (pair_any n _ h1 h2).mono ?_
  rintro e w' ⟨rfl, rfl⟩
  obtain ⟨u, hu⟩ : ∃ u, u = pairN n := ⟨_, rfl⟩
  rw [← hu] at hlt ht ⊢
  have HU := Lib.hid hu
  clear hu
  go_wp2
  go_loopw [0, 5] (fun b t wr => ∃ (q : Nat) (ys : List Nat), t = .int .u64 (q : Int) ∧ q < 18446744073709551616 ∧ xs ++ enc u = ys ++ enc q ∧ Own 5 .u8 wr base b ys.length (ints ys) ∧ Below base w wr) (fun _ t _ => (intOf t).toNat)
  case atStart => exact ⟨u, xs, rfl, hlt, rfl, hown, Below.refl _ _⟩
  case round =>
    obtain ⟨q, ys, rfl, hq, he, ho, hbl⟩ := hrel
    have hyl : ys.length ≤ 200000000000010 := by
      have := congrArg List.length he
      simp only [List.length_append] at this
      omega
    have HE := Lib.hid he
    clear he
    have hsz := hbl.size
    by_cases hs : 128 ≤ q
    · go_wp2_with (at_builtin; refine wpList_append_ints _ rfl (.tmp 10) (.tmp 15) 32 rfl .u8 1 base 5 Try.underlying32 info_byte _ ys.length (ints ys) rfl (ho.alloc _) (some ⟨wr.heap.size, 0, none⟩) 1 1 _ rfl (Rd.one _) (by omega) (by omega) (by simp; omega) ?_; intro v' w1 ho' hg)
      have hb1 : Below base w w1 := (hbl.alloc (by omega) _).grown hg (by simp; omega) ho.rowLt
      have ho1 := own_more ho' (show ((q : Int) % 128 + 128) = ((q % 128 + 128 : Nat) : Int) by omega)
      clear ho' hg
      go_roundw
      case rel => exact ⟨q / 128, ys ++ [q % 128 + 128], by go_num, by omega, by rw [HE.out, enc_big hs]; simp, ho1, hb1⟩
      case measure => simp [intOf]; omega
    · go_wp2_with (at_builtin; refine wpList_append_ints _ rfl (.tmp 19) (.tmp 22) 32 rfl .u8 1 base 5 Try.underlying32 info_byte _ ys.length (ints ys) rfl (ho.alloc _) (some ⟨wr.heap.size, 0, none⟩) 1 1 _ rfl (Rd.one _) (by omega) (by omega) (by simp; omega) ?_; intro v' w1 ho' hg)
      have hb1 : Below base w w1 := (hbl.alloc (by omega) _).grown hg (by simp; omega) ho.rowLt
      have ho1 := own_more ho' rfl
      clear ho' hg
      go_ret
      refine ⟨v', rfl, ?_, hb1⟩
      rw [← HU.out, HE.out, enc_small (by omega)]
      exact ho1
end Go.Proofs.Ytenepkhglgfpaaa
