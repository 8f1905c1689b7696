/-
  keys.clone by its contract; what a change hands back.
-/
import Derived.Test.YtjphkpohcgkcmaaGreatDoorGrB
import Derived.Test.YtjphkpohcgkcmaaGreatDoorGrA
import Derived.IntWalk
import Derived.WalkSpells
namespace Go.Proofs.YtjphkpohcgkcmaaGreatDoor
open Go Go.RowKit
set_option linter.unusedVariables false

set_option maxRecDepth 100000 in
set_option maxHeartbeats 1000000 in
theorem kclone_any (A : Option Addr) (n cap m : Nat) (ks : List Kn) (w : World) (hl : ks.length = n) (hr : RdS known w A ks) (hnm : n ≤ m) (hm : m ≤ 1000000000000) (hnil : A = none → n = 0 ∧ cap = 0) :
    Calls Tryz.prog 54 #[.slice A n cap, .int .i64 (m : Int)] w fun e w' => ∃ g, e = .returned (.slice (some ⟨g, 0, none⟩) n m) ∧ w.heap.size ≤ g ∧ OwnS known w' w.heap.size (.slice (some ⟨g, 0, none⟩) n m) ks ∧ Below w.heap.size w w' := by
  obtain ⟨i0, hi, hz0, hz1, hz2⟩ := info_parts info_known
  have hmk := run_make (P := Tryz.prog) w 32 120 i0 _ Tryz.underlying32 hi hz0 .i64 .i64 (n : Int) (m : Int) (by omega) (by omega) (by rw [hz2]; omega) (by omega)
  rw [hz1] at hmk
  rw [Int.toNat_natCast, Int.toNat_natCast] at hmk
  obtain ⟨cur, hcur⟩ : ∃ cur, madeCells (Value.agg #[.int .i64 0, .int .i64 0, .int .i64 0, .int .i64 0, .int .i64 0, .int .i64 0, .int .i64 0, .int .i64 0, .int .i64 0, .bool false]).cells (m * 10) = cur := ⟨_, rfl⟩
  have hsz : cur.size = m * 10 := by rw [← hcur]; exact size_madeCells _ _
  rw [hcur] at hmk
  have HR := Lib.hid hr
  have HL := Lib.hid hl
  have HN := Lib.hid hnil
  have hcp := run_copy_rec known (P := Tryz.prog) 32 Tryz.underlying32 size_known (w.alloc (.cells cur 120)) 3 w.heap.size n m A cap cur _ ks (heap_alloc_new w _) hl (hr.alloc _) (show n * 10 ≤ cur.size by rw [hsz]; omega) hnil
  have HOWN := Lib.hid (OwnS.copied known (w := w.alloc (.cells cur 120)) (base := w.heap.size) (heap_alloc_new w _) hl hnm (show m ≤ maxLen by simp only [maxLen]; omega) hsz (Nat.le_refl _))
  have HB := Lib.hid (show Below w.heap.size w ((w.alloc (.cells cur 120)).setRow w.heap.size (known.flat ks ++ cur.toList.drop (n * known.size)).toArray) from
    ((Below.refl w.heap.size w).alloc (Nat.le_refl _) _).trans ⟨rfl, rfl, rfl, by simp [World.setRow], fun k hk => setRow_other _ _ _ _ (by omega)⟩)
  obtain ⟨cs, hcs⟩ : ∃ cs, (known.flat ks ++ cur.toList.drop (n * known.size)).toArray = cs := ⟨_, rfl⟩
  rw [hcs] at hcp HOWN HB
  clear hr hl hnil hcs hcur hi hz0 hz1 hz2 hsz
  go_enter Tryz.func54, Tryz.ntmps54
  go_wp2
  go_ret
  exact ⟨_, rfl, Nat.le_refl _, HOWN.out, HB.out⟩

/-- What a change hands back: elements, and an error by its number. -/
def KeyRes (E : Int) (L : List Kn) (w : World) (e : Ending) (w' : World) : Prop :=
  ∃ v, e = .returned (.tuple #[v, errV E]) ∧ OwnS known w' w.heap.size v L ∧ Below w.heap.size w w'
theorem keyRes_no {E F : Int} {L : List Kn} {w w' : World} (hE : E = F) (h0 : F ≠ 0) (hL : L = []) (hb : Below w.heap.size w w') : KeyRes E L w (.returned (.tuple #[.slice none 0 0, eno F])) w' := by
  subst hL hE
  refine ⟨.slice none 0 0, ?_, OwnS.nil, hb⟩
  rw [errV, if_neg h0]
theorem keyRes_ok {E : Int} {L : List Kn} {w w' : World} {v : Value} (hE : E = 0) (ho : OwnS known w' w.heap.size v L) (hb : Below w.heap.size w w') : KeyRes E L w (.returned (.tuple #[v, .nilIface])) w' := by
  subst hE
  exact ⟨v, rfl, ho, hb⟩
end Go.Proofs.YtjphkpohcgkcmaaGreatDoor
