/-
  keys.Open by its contract.
-/
import Derived.Test.YteifgmdaggiaaaaGreatDoorQGrB
import Derived.Test.YteifgmdaggiaaaaGreatDoorQGrA
import Derived.LoopTactic
import Derived.IntWalk
import Derived.WalkSpells
namespace Go.Proofs.YteifgmdaggiaaaaGreatDoor
open Go Go.RowKit
set_option linter.unusedVariables false
theorem info_num : (Tryz.prog.info? 3).map (fun i => (i.zero, i.size, i.bytes)) = some (some (.int .i64 0), 1, 8) := by kernel_rfl
set_option maxRecDepth 100000 in
set_option maxHeartbeats 1000000 in
theorem kopen_any (A : Option Addr) (n cap : Nat) (ks : List Kn) (w : World) (hl : ks.length = n) (hr : RdS known w A ks) (hn : n ≤ 17592186044416) :
  Calls Tryz.prog 19 #[.slice A n cap] w fun e w' => ∃ v, e = .returned v ∧ Own 3 .i64 w' w.heap.size v (openL ks).length (openL ks) ∧ Below w.heap.size w w' := by
 have HR := Lib.hid hr
 have HL := Lib.hid hl
 clear hr hl
 go_enter Tryz.func19, Tryz.ntmps19
 go_wp2
 go_loopw [3, 9] (fun v i wr => ∃ k : Nat, k ≤ n ∧ i = .int .i64 (k : Int) ∧ Own 3 .i64 wr w.heap.size v (openL (ks.take k)).length (openL (ks.take k)) ∧ Below w.heap.size w wr) (fun _ i _ => n - (intOf i).toNat)
 case atStart => exact ⟨0, Nat.zero_le _, rfl, World.ownsRow_lit _ _ _ (Nat.le_refl _) (by simp [maxLen]) rfl, (Below.refl _ _).alloc (Nat.le_refl _) _⟩
 case round =>
  obtain ⟨k, hk, rfl, hown, hbel⟩ := hrel
  have HOWN := Lib.hid hown
  have HBEL := Lib.hid hbel
  have hsz := hbel.size
  clear hown hbel
  by_cases hlt : k < n
  · obtain ⟨a, ha⟩ : ∃ a, ks[k]? = some a := ⟨_, List.getElem?_eq_getElem (by rw [HL.out]; exact hlt)⟩
    obtain ⟨ad, rfl, hat⟩ := (HR.out.below HBEL.out).at_ ha
    obtain ⟨c0, c1, c2, c3, c4, c5, c6, c7, c8, c9⟩ := kn_cells hat
    have hnx : openL (ks.take (k + 1)) = openL (ks.take k) ++ (if a.told = true then [] else [a.rq.key]) := by rw [ktake_next ha, openL_snoc]
    have HNX := Lib.hid hnx
    have hol : (openL (ks.take k)).length ≤ k := Nat.le_trans (openL_len _) (by rw [List.length_take]; omega)
    clear hat ha hnx
    obtain ⟨⟨key', op, ra, rb, amt, legs, til⟩, er, id, told⟩ := a
    dsimp only at c0 c1 c2 c3 c4 c5 c6 c7 c8 c9 HNX
    obtain ⟨m, hm⟩ : ∃ m, (openL (ks.take k)).length = m := ⟨_, rfl⟩
    rw [hm] at HOWN hol
    cases told with
    | true =>
      rw [if_pos rfl, List.append_nil] at HNX
      go_wp2
      go_roundw
      case rel => exact ⟨k + 1, by omega, by go_num, by rw [HNX.out, hm]; exact HOWN.out.alloc _, HBEL.out.alloc hsz _⟩
      case measure => simp [intOf]; omega
    | false =>
      rw [if_neg (by simp)] at HNX
      have HM := Lib.hid hm
      clear hm
      go_wp2_with (at_builtin; refine wpList_append_ints _ rfl (.tmp 16) (.tmp 20) 64 rfl .i64 8 w.heap.size 3 Tryz.underlying64 info_num _ m _ rfl ((HOWN.out.alloc _).alloc _) (some ⟨wr.heap.size + 1, 0, none⟩) 1 1 [key'] rfl (by first | exact Rd.one _ | (have h := Rd.one (k := .i64) (w := wr.alloc (.cells #[.int .i64 key', .int .i64 op, .int .i64 ra, .int .i64 rb, .int .i64 amt, .int .i64 legs, .int .i64 til, .int .i64 er, .int .i64 id, .bool false] 124)) (t := 3) key'; simpa using h)) (by omega) (by omega) (by simp; omega) ?_; intro v' w2 ho2 hg2)
      have HO2 := Lib.hid ho2
      have HB2 := Lib.hid (((HBEL.out.alloc hsz _).alloc (by simp; omega) _).grown hg2 (by simp; omega) HOWN.out.rowLt)
      clear ho2 hg2
      go_wp2
      go_roundw
      case rel => exact ⟨k + 1, by omega, by go_num, by rw [HNX.out, List.length_append, HM.out]; exact HO2.out, HB2.out⟩
      case measure => simp [intOf]; omega
  · obtain rfl : k = n := by omega
    go_wp2
    go_ret
    exact ⟨_, rfl, by rw [List.take_of_length_le (by rw [HL.out]; exact Nat.le_refl _)] at HOWN; exact HOWN.out, HBEL.out⟩
end Go.Proofs.YteifgmdaggiaaaaGreatDoor
