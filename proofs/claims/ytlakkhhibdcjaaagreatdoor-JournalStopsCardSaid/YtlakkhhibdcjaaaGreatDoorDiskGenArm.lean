/-
  Arm and Stopped by their contracts.
-/
import Derived.Test.YtlakkhhibdcjaaaGreatDoorDiskB
namespace Go.Proofs.YtlakkhhibdcjaaaGreatDoor
open Go Go.RowKit Go.Maps
set_option linter.unusedVariables false
section
variable {S : Nat → Prop} {w w' : World} {base sb : Nat} {room : Int} {ps : List PF} {s : DS}
theorem stopped_q (h : DiskQ w S base sb room ps s) :
    Calls Tryz.prog 15 #[.pointer (some ⟨sb, 0, none⟩)] w fun e w' => e = .returned (.bool s.stopped) ∧ w = w' := by
  obtain ⟨mv, fs, hd, rfl⟩ := h
  have c4 := hd.c4
  clear hd
  go_enter Tryz.func15, Tryz.ntmps15
  go_wp2
  go_ret
  exact ⟨rfl, rfl⟩
set_option maxRecDepth 100000 in
theorem arm_q (h : DiskQ w S base sb room ps s) (n : Nat) (hn : n ≤ 4611686018427387904) :
    Calls Tryz.prog 10 #[.pointer (some ⟨sb, 0, none⟩), .int .i64 (n : Int)] w fun e w' => e = .returned (.tuple #[]) ∧ StepQ S w base sb room ps ⟨true, n, s.stopped⟩ w' := by
  obtain ⟨mv, fs, hd, rfl⟩ := h
  have c2 := hd.c2
  have c3 := hd.c3
  have cf := hd.fz
  have hc : Chg sb w ((w.setCell ⟨sb, 2, none⟩ (.bool true)).setCell ⟨sb, 3, none⟩ (.int .i64 (n : Int))) := by
    have h1 := chg_set sb 2 w (.bool true)
    have h2 := chg_set sb 3 (w.setCell ⟨sb, 2, none⟩ (.bool true)) (.int .i64 (n : Int))
    exact ⟨h2.os.trans h1.os, h2.tape.trans h1.tape, h2.output.trans h1.output, h2.size.trans h1.size, fun i hi => (h2.block i hi).trans (h1.block i hi)⟩
  have hb : ((w.setCell ⟨sb, 2, none⟩ (.bool true)).setCell ⟨sb, 3, none⟩ (.int .i64 (n : Int))).heap[sb]? = some (.cells #[.int .i64 room, .map mv, .bool true, .int .i64 (n : Int), .bool s.stopped] 61 (0, 0)) := by
    simp [World.setCell, Array.getElem?_modify, hd.blk]
  have HD := Lib.hid (hd.turn hc hb)
  have HC := Lib.hid hc
  have HS := Lib.hid hd.inS
  have hmx := fun (W : World) (ts : Array TypeId) (t : TypeId) => show (Builtin.max_ ts t #[.int .i64 (n : Int), .int .i64 0]).run Tryz.prog W = .ok (.int .i64 (n : Int)) W by
    simp [Builtin.max_, Builtin.max2]; omega
  clear hd hc hb
  go_enter Tryz.func10, Tryz.ntmps10
  go_wp2
  go_end0
  exact ⟨rfl, S, ⟨mv, fs, HD.out, rfl⟩, HC.out.fr HS.out, Wider.refl _ _⟩
end
end Go.Proofs.YtlakkhhibdcjaaaGreatDoor
