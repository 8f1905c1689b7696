/-
  varint.All and bytes.Clone by their contracts.
-/
import Derived.Test.YtenepkhglgfpaaaVarLay
import Derived.Lib.SliceRun
namespace Go.Proofs.Ytenepkhglgfpaaa
open Go.RowKit

theorem take_succ_getD (ns : List Int) (k : Nat) (h : k < ns.length) : ns.take (k + 1) = ns.take k ++ [ns.getD k 0] := by
  rw [List.take_succ_eq_append_getElem h]
  simp [List.getD, h]

theorem encs_take_len (ns : List Int) (hw : ∀ x ∈ ns, -9223372036854775808 ≤ x ∧ x ≤ 9223372036854775807) (k : Nat) : (encs (ns.take k)).length ≤ 10 * k := by
  have := encs_len (ns.take k) (fun x hx => pairN_lt (hw x (List.mem_of_mem_take hx)).1 (hw x (List.mem_of_mem_take hx)).2)
  have h2 := List.length_take_le k ns
  omega

set_option maxRecDepth 100000 in
set_option maxHeartbeats 2000000 in
theorem all_any (A : Option Addr) (n c : Nat) (ns : List Int) (w : World) (hr : Rd .i64 w A n ns) (hw : ∀ x ∈ ns, -9223372036854775808 ≤ x ∧ x ≤ 9223372036854775807) (hl : n ≤ 17592186044416) :
    Calls Try.prog 15 #[.slice A n c] w (OwnRes w w.heap.size (encs ns)) := by
  have HW := Lib.hid hw
  have HR := Lib.hid hr
  clear hw hr
  go_enter Try.func15, Try.ntmps15
  go_wp2
  go_loopw [3, 8] (fun b i wr => ∃ k : Nat, k ≤ n ∧ i = .int .i64 k ∧ Own 5 .u8 wr w.heap.size b (encs (ns.take k)).length (ints (encs (ns.take k))) ∧ Below w.heap.size w wr) (fun _ i _ => n - (intOf i).toNat)
  case atStart => exact ⟨0, Nat.zero_le _, rfl, Own.nil, Below.refl _ _⟩
  case round =>
    obtain ⟨k, hk, rfl, ho, hb⟩ := hrel
    have hsz := hb.size
    by_cases hlt : k < n
    · obtain ⟨ad, rfl, hcell⟩ := (HR.out.below hb).at_ hlt
      have hkl : k < ns.length := by rw [HR.out.1]; exact hlt
      obtain ⟨x, hx⟩ : ∃ x, x = ns.getD k 0 := ⟨_, rfl⟩
      rw [← hx] at hcell
      have hxm : x ∈ ns := by rw [hx]; simp [List.getD, hkl]
      obtain ⟨x1, x2⟩ := HW.out x hxm
      have hle := encs_take_len ns HW.out k
      have HX := Lib.hid hx
      have HK := Lib.hid hkl
      clear hx hxm hkl
      go_wp2_with fail
      refine (vlay_any _ _ _ x _ x1 x2 ho hsz (by omega)).mono ?_
      rintro e w2 ⟨v, rfl, ho2, hb2⟩
      have e : encs (ns.take (k + 1)) = encs (ns.take k) ++ enc (pairN x) := by
        rw [take_succ_getD ns k HK.out, encs_append, encs_one, HX.out]
      rw [← e] at ho2
      clear e ho hcell
      have hb3 := hb.trans hb2
      clear hb2 hb
      go_wp2
      go_roundw
      case rel => exact ⟨k + 1, by omega, by go_num, ho2, hb3⟩
      case measure => simp [intOf]; omega
    · have hkn : k = n := by omega
      have he : ns.take k = ns := List.take_of_length_le (by rw [HR.out.1]; omega)
      rw [he] at ho
      clear he hkn
      go_wp2
      go_ret
      exact ⟨_, rfl, ho, hb⟩

/-- The bytes of a slice, in new memory (nil stays nil). -/
theorem vclone_any (A : Option Addr) (n c : Nat) (xs : List Nat) (w : World) (hr : Rd .u8 w A n (ints xs)) (hl : n ≤ 200000000000000) :
    Calls Try.prog 27 #[.slice A n c] w (OwnRes w w.heap.size xs) := by
  have hx : xs.length = n := by have := hr.1; rwa [ints_length] at this
  have HR := Lib.hid hr
  have HX := Lib.hid hx
  clear hr hx
  cases A with
  | none =>
    have hn : n = 0 := by
      rcases Nat.eq_zero_or_pos n with h | h
      · exact h
      · obtain ⟨_, h', _⟩ := HR.out.2 h; cases h'
    have hxn : xs = [] := List.eq_nil_of_length_eq_zero (by rw [HX.out]; exact hn)
    subst hxn
    subst hn
    have heq := Lib.run_eql_slice_nil (P := Try.prog) w 32 5 none 0 c 0 0 Try.underlying32
    go_enter Try.func27, Try.ntmps27
    go_wp2
    go_ret
    exact ⟨_, rfl, Own.nil, Below.refl _ _⟩
  | some ad =>
    have heq := Lib.run_eql_slice_nil (P := Try.prog) w 32 5 (some ad) n c 0 0 Try.underlying32
    go_enter Try.func27, Try.ntmps27
    go_wp2_with (at_builtin; refine wpList_append_ints _ rfl (.tmp 5) (.tmp 6) 32 rfl .u8 1 w.heap.size 5 Try.underlying32 info_byte _ 0 [] rfl (World.ownsRow_made w _ 0 (Nat.le_refl _) (by simp [maxLen]) rfl) (some ad) n c _ rfl (HR.out.alloc _) (by omega) (by omega) (by simp) ?_; intro v' w1 ho' hg)
    have hb1 : Below w.heap.size w w1 := ((Below.refl _ _).alloc (Nat.le_refl _) _).grown hg (by simp) (fun g he => by have he' : some w.heap.size = some g := he; injection he' with he'; omega)
    rw [Nat.zero_add, List.nil_append] at ho'
    clear hg heq
    go_ret
    exact ⟨v', rfl, by rw [HX.out]; exact ho', hb1⟩
end Go.Proofs.Ytenepkhglgfpaaa
