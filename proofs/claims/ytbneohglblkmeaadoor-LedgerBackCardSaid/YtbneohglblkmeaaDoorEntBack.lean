/-
  entry.Back by its contract.
-/
import Derived.Test.YtbneohglblkmeaaDoorEntPlain
import Derived.WalkKit
import Derived.LoopTactic
import Derived.BigQuiet
import Derived.Deep.QuietTactic
import Derived.IntWalk
import Derived.WalkSpells
namespace Go.Proofs.YtbneohglblkmeaaDoor
open Go Go.RowKit
set_option linter.unusedVariables false

/-- What is there behind k rounds. -/
def backTo (m k : Nat) (es : List En) : List En := List.replicate (m - k) ⟨0, 0⟩ ++ backE (es.take k)
theorem backTo_len {m k : Nat} {es : List En} (hk : k ≤ m) (hl : es.length = m) : (backTo m k es).length = m := by
  simp [backTo, backE_len, hl]; omega
theorem backTo_next {m k j : Nat} {es : List En} {e : En} (he : es[k]? = some e) (hj : j + k + 1 = m) : (backTo m k es).set j (negE e) = backTo m (k + 1) es := by
  obtain ⟨hk, rfl⟩ := List.getElem?_eq_some_iff.1 he
  unfold backTo
  rw [List.take_succ_eq_append_getElem hk, backE_snoc, show m - k = j + 1 by omega, show m - (k + 1) = j by omega, List.replicate_succ', List.append_assoc]
  rw [List.set_append_right _ _ (by simp)]
  simp

set_option maxRecDepth 100000 in
set_option maxHeartbeats 4000000 in
theorem back_any (B : Option Addr) (m capb : Nat) (es : List En) (w : World) (hle : es.length = m) (hre : RdE w B es) (hm : m ≤ 8796093022207) :
    Calls Tryd.prog 21 #[.slice B m capb] w fun e w' => e = .returned (.slice (some ⟨w.heap.size, 0, none⟩) m m) ∧ OwnE w' w.heap.size (.slice (some ⟨w.heap.size, 0, none⟩) m m) (backE es) ∧ Below w.heap.size w w' := by
  have hmk := run_make_ent m hm
  have HRE := Lib.hid hre
  have HLE := Lib.hid hle
  have HO := Lib.hid (own_made_ent w m w.heap.size (by simp only [maxLen]; omega) (Nat.le_refl _))
  have HB := Lib.hid ((Below.refl w.heap.size w).alloc (Nat.le_refl _) (.cells (madeCells #[.int .i64 0, .int .i64 0] (m * 2)) 33))
  have hz : (w.alloc (.cells (madeCells #[.int .i64 0, .int .i64 0] (m * 2)) 33)).heap.size = w.heap.size + 1 := by simp
  clear hre hle
  go_enter Tryd.func21, Tryd.ntmps21
  go_wp2
  clear hmk
  generalize (w.alloc (.cells (madeCells #[.int .i64 0, .int .i64 0] (m * 2)) 33)) = w0 at *
  go_loopw [4, 11] (fun _ i wr => ∃ k : Nat, k ≤ m ∧ i = .int .i64 (k : Int) ∧ OwnE wr w.heap.size (.slice (some ⟨w.heap.size, 0, none⟩) m m) (backTo m k es) ∧ Below w.heap.size w wr) (fun _ i _ => m - (intOf i).toNat)
  case atStart => exact ⟨0, Nat.zero_le _, rfl, by simpa [backTo, backE] using HO.out, HB.out⟩
  case round =>
    obtain ⟨k, hk, rfl, hown, hbel⟩ := hrel
    by_cases hlt : k < m
    · have hsz := hbel.size
      have hlen := backTo_len hk HLE.out
      obtain ⟨e, he⟩ : ∃ e, es[k]? = some e := ⟨_, List.getElem?_eq_getElem (by rw [HLE.out]; exact hlt)⟩
      obtain ⟨ae, rfl, hae⟩ := (HRE.out.below hbel).at_ he
      obtain ⟨j, hj⟩ : ∃ j : Nat, (m : Int) - 1 - (k : Int) = (j : Int) := ⟨m - 1 - k, by omega⟩
      have hjm : j < m := by omega
      obtain ⟨y, hy⟩ : ∃ y, (backTo m k es)[j]? = some y := ⟨_, List.getElem?_eq_getElem (by omega)⟩
      obtain ⟨c0, c1⟩ := hown.at_ hy
      have f0 := hown.unfrozen hlen.symm (j * 2)
      have f1 := hown.unfrozen hlen.symm (j * 2 + 1)
      have hg : w.heap.size < wr.heap.size := World.block_lt_of_cell? _ _ c0
      have hg2 : ¬ w.heap.size = wr.heap.size := by omega
      obtain ⟨q, hq⟩ : ∃ q, wrap64 (-e.amt) = q := ⟨_, rfl⟩
      have hset := hown.put hlen.symm hjm e.acct q
      rw [show (⟨e.acct, q⟩ : En) = negE e by rw [negE, hq], backTo_next he (by omega)] at hset
      obtain ⟨e0, e1⟩ := hae
      rw [add_next ae (k * 2) 1 (by omega)] at e1
      obtain ⟨P, x⟩ := e
      dsimp only at e0 e1 hq hset
      have HSET := Lib.hid hset
      have HBEL := Lib.hid hbel
      clear hown hbel hset he hy hlen
      go_wp2
      go_roundw
      case rel => exact ⟨k + 1, by omega, by go_num, HSET.out.alloc _, ((HBEL.out.setCell (Nat.le_refl _) _).setCell (Nat.le_refl _) _).alloc (by simp; omega) _⟩
      case measure => simp [intOf]; omega
    · obtain rfl : k = m := by omega
      have HOWN := Lib.hid hown
      have HBEL := Lib.hid hbel
      clear hown hbel
      go_wp2
      go_ret
      refine ⟨rfl, ?_, HBEL.out⟩
      have := HOWN.out
      unfold backTo at this
      rw [Nat.sub_self, List.replicate_zero, List.nil_append, List.take_of_length_le (by rw [HLE.out]; omega)] at this
      exact this
end Go.Proofs.YtbneohglblkmeaaDoor
