/-
  Append by its contract, on a disk that is neither armed nor stopped.
-/
import Derived.Test.YtopogffoiofgbaaDoorDiskLayNone
import Derived.Test.YtopogffoiofgbaaDoorAfter
namespace Go.Proofs.YtopogffoiofgbaaDoor
open Go Go.RowKit Go.Maps
set_option linter.unusedVariables false
section
variable {S : Nat → Prop} {w : World} {base sb b : Nat} {mv : Option Nat} {room left : Int} {fs : List (Int × FV)}

theorem lay_any (h : DiskAt w S base sb mv room fs false left false) {k : Int} (hk : (Lit.int .i64 k).wf = true) (B : Option Addr) (m d : Nat) (ys : List Nat) (hr : Rd .u8 w B m (ints ys)) (hy : ∀ x ∈ ys, x < 256)
    {f : FV} (hf : (fget fs k).getD FV.zero = f) (hn : f.zs.length + m ≤ 200000000000000) (hlen : fs.length < 4611686018427387904) (hbase : base ≤ w.heap.size) :
    Calls Tryd.prog 18 #[.pointer (some ⟨sb, 0, none⟩), .int .i64 k, .slice B m d] w fun e w' => e = .returned (.tuple #[]) ∧ LayRes S w base sb room fs false left false k (f.zs ++ ys) f.safe w' := by
  cases mv with
  | none =>
    have hfs : fs = [] := by
      rcases h.map with ⟨_, h0⟩ | ⟨b, h0, _⟩
      · exact h0
      · cases h0
    subst hfs
    have hz : f = FV.zero := hf.symm
    subst hz
    exact lay_none h hk B m d ys hr hy (by omega) hbase
  | some b => exact lay_some h hk B m d ys hr hy hf hn hlen hbase

/-- The disk behind w, whatever was made since. -/
theorem used_after (h : DiskAt w S base sb mv room fs false left false) (ht : total fs ≤ 4611686018427387904) (p : After w) :
    Calls Tryd.prog 11 #[.pointer (some ⟨sb, 0, none⟩)] p.world fun e w'' => e = .returned (.int .i64 (total fs : Int)) ∧ ∃ q : After w, w'' = q.world :=
  after_call p (used_any (h.below p.below) ht)

def AppendRes (S : Nat → Prop) (w : World) (base sb : Nat) (room : Int) (fs : List (Int × FV)) (left : Int) (k : Int) (zs : List Nat) (s : Nat) (e : Ending) (w' : World) : Prop :=
  e = .returned .nilIface ∧ LayRes S w base sb room fs false left false k zs s w'

set_option maxRecDepth 100000 in
set_option maxHeartbeats 1000000 in
theorem append_fits (h : DiskAt w S base sb mv room fs false left false) {k : Int} (hk : (Lit.int .i64 k).wf = true) (B : Option Addr) (m d : Nat) (ys : List Nat) (hr : Rd .u8 w B m (ints ys)) (hy : ∀ x ∈ ys, x < 256)
    {f : FV} (hf : (fget fs k).getD FV.zero = f) (hroom : room ≤ 262144) (hfit : (total fs : Int) + m ≤ room) (hlen : fs.length < 4611686018427387904) (hbase : base ≤ w.heap.size) :
    Calls Tryd.prog 8 #[.pointer (some ⟨sb, 0, none⟩), .int .i64 k, .slice B m d] w (AppendRes S w base sb room fs left k (f.zs ++ ys) f.safe) := by
  have hfl : f.zs.length ≤ 262144 := by
    cases hfk : fget fs k with
    | none => rw [hfk] at hf; rw [← hf]; simp [FV.zero]
    | some f0 => rw [hfk] at hf; have := total_le (mem_fget hfk); rw [show f = f0 from hf.symm]; simp only at this; omega
  have c4 := h.c4
  have c0 : ∀ p : After w, p.world.cell? ⟨sb, 0, none⟩ = some (.int .i64 room) := fun p => (h.below p.below).c0
  have hu := used_after h (by omega)
  obtain ⟨u, hue⟩ : ∃ u : Int, u = room - (total fs : Int) := ⟨_, rfl⟩
  have hle : ¬ u < (m : Int) := by omega
  have hu0 : 0 ≤ u := by omega
  have hu1 : u ≤ 262144 := by omega
  obtain ⟨t, hte⟩ : ∃ t : Nat, t = total fs := ⟨_, rfl⟩
  rw [← hte] at hu hue
  have hue' : room - (t : Int) = u := hue.symm
  have HD := Lib.hid h
  have HR := Lib.hid hr
  clear h hr hfit hte hue
  go_enter Tryd.func8, Tryd.ntmps8
  go_wp2
  refine wp_region_after (by kernel_rfl) (by kernel_rfl) ?_
  repeat (go_big_quiet_step ((go_at_call 11; exact hu _)))
  refine wpQuiet_nil ?_
  intro _ hw'
  obtain ⟨p, rfl⟩ := hw'
  have c2 := (HD.out.below p.below).c2
  have hz := p.below.size
  go_wp2_with fail
  refine (change_calm sb _ c2).mono ?_
  rintro e w1 ⟨rfl, rfl⟩
  go_wp2_with fail
  refine (lay_any (HD.out.below p.below) hk B m d ys (HR.out.below p.below) hy hf (by omega) hlen (by omega)).mono ?_
  rintro e w2 ⟨rfl, S', mv', f', hd', e1, e2, hfr, hwd⟩
  go_wp2
  go_ret
  exact ⟨rfl, S', mv', f', hd', e1, e2, (Fr.of_below p.below).trans hfr (Wider.refl _ _), fun i hi => (hwd i hi).imp id (fun h => by omega)⟩

set_option maxRecDepth 100000 in
set_option maxHeartbeats 1000000 in
theorem append_full (h : DiskAt w S base sb mv room fs false left false) (k : Int) (B : Option Addr) (m d : Nat)
    (hroom : 0 ≤ room ∧ room ≤ 262144) (ht : (total fs : Int) ≤ room) (hm : m ≤ 9223372036854775807) (hfit : room < (total fs : Int) + m) :
    Calls Tryd.prog 8 #[.pointer (some ⟨sb, 0, none⟩), .int .i64 k, .slice B m d] w fun e w' => e = .returned (.iface 29 (.int .i64 8)) ∧ Below w.heap.size w w' := by
  have c4 := h.c4
  have c0 : ∀ p : After w, p.world.cell? ⟨sb, 0, none⟩ = some (.int .i64 room) := fun p => (h.below p.below).c0
  have hu := used_after h (by omega)
  obtain ⟨u, hue⟩ : ∃ u : Int, u = room - (total fs : Int) := ⟨_, rfl⟩
  have hle : u < (m : Int) := by omega
  have hu0 : 0 ≤ u := by omega
  have hu1 : u ≤ 262144 := by omega
  obtain ⟨t, hte⟩ : ∃ t : Nat, t = total fs := ⟨_, rfl⟩
  rw [← hte] at hu hue
  have hue' : room - (t : Int) = u := hue.symm
  clear h hfit hte hue ht
  go_enter Tryd.func8, Tryd.ntmps8
  go_wp2
  refine wp_region_after (by kernel_rfl) (by kernel_rfl) ?_
  repeat (go_big_quiet_step ((go_at_call 11; exact hu _)))
  refine wpQuiet_nil ?_
  intro _ hw'
  obtain ⟨p, rfl⟩ := hw'
  have HB := Lib.hid p.below
  go_wp2
  go_ret
  exact ⟨rfl, HB.out⟩
end
end Go.Proofs.YtopogffoiofgbaaDoor
