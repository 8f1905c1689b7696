/-
  Bytes as strings; bytes.Clone by its contract.
-/
import Derived.Test.YtenepkhglgfpaaaCutRun
import Derived.Lib.SliceRun
import Derived.Lib.Hide
import Derived.Laws.ShiftsVar
import Derived.Laws.Strings
namespace Go.Proofs.Ytenepkhglgfpaaa
open Go.RowKit

theorem eqT {a b : Int} (h : a = b) : (a == b) = true := by simp [h]
theorem eqF {a b : Int} (h : a ≠ b) : (a == b) = false := by simp [h]

/-- Bytes as a string. -/
def strN (xs : List Nat) : ByteArray := strOfNums (ints xs)
theorem strN_append (a b : List Nat) : strN a ++ strN b = strN (a ++ b) := by
  apply ByteArray.ext
  simp [strN, strOfNums, ints_append, ByteArray.data_append]
theorem strN_size (a : List Nat) : (strN a).size = a.length := by rw [strN, strOfNums_size, ints_length]
theorem strN_nil : strN [] = ByteArray.empty := rfl
theorem ints_take (a : List Nat) (j : Nat) : (ints a).take j = ints (a.take j) := by simp [ints, List.map_take]

theorem strN_inj {a b : List Nat} (ha : ∀ x ∈ a, x < 256) (hb : ∀ x ∈ b, x < 256) (h : strN a = strN b) : a = b := by
  have h1 := congrArg (fun s => s.data.toList.map UInt8.toNat) h
  have key : ∀ l : List Nat, (∀ x ∈ l, x < 256) → ((strN l).data.toList.map UInt8.toNat) = l := by
    intro l hl
    simp only [strN, strOfNums, ints]
    rw [List.map_map, List.map_map]
    conv => rhs; rw [← List.map_id l]
    apply List.map_congr_left
    intro x hx
    have := hl x hx
    simp
    omega
  rw [key a ha, key b hb] at h1
  exact h1
theorem strN_beq {a b : List Nat} (ha : ∀ x ∈ a, x < 256) (hb : ∀ x ∈ b, x < 256) : ((strN a).toList == (strN b).toList) = decide (a = b) := by
  by_cases h : a = b
  · subst h; simp
  · simp only [h, decide_false]
    exact beq_eq_false_iff_ne.2 fun he => h (strN_inj ha hb (by rw [Go.ByteArray.toList_eq, Go.ByteArray.toList_eq] at he; exact ByteArray.ext (Array.ext' he)))

theorem str_of (w : World) (A : Option Addr) (n c : Nat) (xs : List Nat) (hr : Rd .u8 w A n (ints xs)) : (convert 32 9 (.slice A n c)).run Try.prog w = .ok (.string (strN xs)) w :=
  run_str (P := Try.prog) w 32 9 5 Try.underlying32 Try.underlying5 Try.underlying9 A n c _ hr

/-- The bytes of a slice, in new memory (nil stays nil). -/
theorem clone_any (A : Option Addr) (n c : Nat) (xs : List Nat) (w : World) (hr : Rd .u8 w A n (ints xs)) (hl : n ≤ 200000000000000) :
    Calls Try.prog 27 #[.slice A n c] w (OwnRes w w.heap.size xs) := by
  have hx : xs.length = n := by have := hr.1; rwa [ints_length] at this
  have HR := Lib.hid hr
  have HX := Lib.hid hx
  clear hr hx
  cases A with
  | none =>
    have hn : n = 0 := by
      rcases Nat.eq_zero_or_pos n with h | h
      · exact h
      · obtain ⟨_, h', _⟩ := HR.out.2 h; cases h'
    have hxn : xs = [] := List.eq_nil_of_length_eq_zero (by rw [HX.out]; exact hn)
    subst hxn
    subst hn
    have heq := Lib.run_eql_slice_nil (P := Try.prog) w 32 5 none 0 c 0 0 Try.underlying32
    go_enter Try.func27, Try.ntmps27
    go_wp2
    go_ret
    exact ⟨_, rfl, Own.nil, Below.refl _ _⟩
  | some ad =>
    have heq := Lib.run_eql_slice_nil (P := Try.prog) w 32 5 (some ad) n c 0 0 Try.underlying32
    go_enter Try.func27, Try.ntmps27
    go_wp2_with (at_builtin; refine wpList_append_ints _ rfl (.tmp 5) (.tmp 6) 32 rfl .u8 1 w.heap.size 5 Try.underlying32 info_byte _ 0 [] rfl (World.ownsRow_made w _ 0 (Nat.le_refl _) (by simp [maxLen]) rfl) (some ad) n c _ rfl (HR.out.alloc _) (by omega) (by omega) (by simp) ?_; intro v' w1 ho' hg)
    have hb1 : Below w.heap.size w w1 := ((Below.refl _ _).alloc (Nat.le_refl _) _).grown hg (by simp) (fun g he => by have he' : some w.heap.size = some g := he; injection he' with he'; omega)
    rw [Nat.zero_add, List.nil_append] at ho'
    clear hg heq
    go_ret
    exact ⟨v', rfl, by rw [HX.out]; exact ho', hb1⟩
end Go.Proofs.Ytenepkhglgfpaaa
