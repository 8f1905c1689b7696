/-
  lay on a disk without files.
-/
import Derived.Test.YtopogffoiofgbaaDoorDiskLay
import Derived.Deep.RegionLaw
namespace Go.Proofs.YtopogffoiofgbaaDoor
open Go Go.RowKit Go.Maps
set_option linter.unusedVariables false
section
variable {S : Nat → Prop} {w : World} {base sb b : Nat} {mv : Option Nat} {room left : Int} {fs : List (Int × FV)} {armed stopped : Bool}

/-- The disk's struct with a new map. -/
theorem disk_mapped (h : DiskAt w S base sb none room fs armed left stopped) :
    DiskAt ((w.setCell ⟨sb, 1, none⟩ (.map (some w.heap.size))).alloc (.map #[] 0)) (fun i => S i ∨ i = w.heap.size) base sb (some w.heap.size) room [] armed left stopped ∧
      Fr S w ((w.setCell ⟨sb, 1, none⟩ (.map (some w.heap.size))).alloc (.map #[] 0)) := by
  have hz : (w.setCell ⟨sb, 1, none⟩ (.map (some w.heap.size))).heap.size = w.heap.size := by simp [World.setCell]
  have hlt := h.lt
  refine ⟨⟨?_, .inr ⟨_, rfl, ?_, .inr rfl⟩, .nil, fun _ h => by simp at h, fun _ h => by simp at h, .inl h.inS, fun i hi => ?_⟩, ⟨rfl, rfl, rfl, ?_, fun i hi hn => ?_⟩⟩
  · rw [Below.heap_alloc _ _ _ (by rw [hz]; exact hlt)]
    simp [World.setCell, Array.getElem?_modify, h.blk]
  · have := World.ownsMap_made (w.setCell ⟨sb, 1, none⟩ (.map (some w.heap.size))) Tryd.prog 3 heldE
    rw [hz] at this
    exact this
  · have := h.low sb h.inS
    rcases hi with hi | hi
    · have := h.low i hi
      simp [hz]; omega
    · subst hi
      simp [hz]; omega
  · simp [hz]
  · rw [Below.heap_alloc _ _ _ (by rw [hz]; exact hi)]
    exact Below.heap_setCell _ _ _ _ (fun e => hn (by simp only at e; rw [e]; exact h.inS))

/-- Bytes that come in are none of the struct's cells. -/
theorem DiskAt.ne_u8 (h : DiskAt w S base sb mv room fs armed left stopped) {p : Addr} {x : Int} (hp : w.cell? p = some (.int .u8 x)) : p.block ≠ sb := fun e => by
  simp only [World.cell?, e, h.blk] at hp
  split at hp
  · cases hp
  · rcases ho : p.off with _ | _ | _ | _ | _ | n <;> simp [ho] at hp
theorem Rd.mapped (h : DiskAt w S base sb mv room fs armed left stopped) {B : Option Addr} {m : Nat} {zs : List Int} (hr : Rd .u8 w B m zs) (u : Value) (o : Obj) : Rd .u8 ((w.setCell ⟨sb, 1, none⟩ u).alloc o) B m zs := by
  refine Rd.alloc ⟨hr.1, fun hm => ?_⟩ o
  obtain ⟨ad, e, hc⟩ := hr.2 hm
  refine ⟨ad, e, fun j hj => ?_⟩
  have := hc j hj
  rw [World.cell?_of_block (w := w) (Below.heap_setCell _ _ _ _ (h.ne_u8 this))]
  exact this

set_option maxRecDepth 100000 in
set_option maxHeartbeats 1000000 in
theorem lay_none (h : DiskAt w S base sb none room fs armed left stopped) {k : Int} (hk : (Lit.int .i64 k).wf = true) (B : Option Addr) (m d : Nat) (ys : List Nat) (hr : Rd .u8 w B m (ints ys)) (hy : ∀ x ∈ ys, x < 256)
    (hn : m ≤ 200000000000000) (hbase : base ≤ w.heap.size) :
    Calls Tryd.prog 18 #[.pointer (some ⟨sb, 0, none⟩), .int .i64 k, .slice B m d] w fun e w' => e = .returned (.tuple #[]) ∧ LayRes S w base sb room [] armed left stopped k ys 0 w' := by
  have hfs : fs = [] := by
    rcases h.map with ⟨_, h0⟩ | ⟨b, h0, _⟩
    · exact h0
    · cases h0
  subst hfs
  have c1 : w.cell? ⟨sb, 1, none⟩ = some (.map none) := h.c1
  have cf := h.fz 1
  have hsl := h.lt
  have q := eql_map
  have hmk := @run_makeMap Tryd.prog
  obtain ⟨hD1, hFr⟩ := disk_mapped h
  have hR1 := hr.mapped h (.map (some w.heap.size)) (.map #[] 0)
  have c1' := hD1.c1
  have hl := hD1.look hk (f := FV.zero) rfl
  simp only [FV.zero] at hl
  have HD1 := Lib.hid hD1
  have HFR := Lib.hid hFr
  have HR := Lib.hid hR1
  clear hr hR1 hD1 hFr h
  go_enter Tryd.func18, Tryd.ntmps18
  go_wp2
  have hb0 : Below ((w.setCell ⟨sb, 1, none⟩ (.map (some w.heap.size))).alloc (.map #[] 0)).heap.size ((w.setCell ⟨sb, 1, none⟩ (.map (some w.heap.size))).alloc (.map #[] 0)) (((w.setCell ⟨sb, 1, none⟩ (.map (some w.heap.size))).alloc (.map #[] 0)).alloc (.cells #[.slice none 0 0, .int .i64 0] 55)) := (Below.refl _ _).alloc (Nat.le_refl _) _
  have hz1 : ((w.setCell ⟨sb, 1, none⟩ (.map (some w.heap.size))).alloc (.map #[] 0)).heap.size = w.heap.size + 1 := by simp
  have hzA : (((w.setCell ⟨sb, 1, none⟩ (.map (some w.heap.size))).alloc (.map #[] 0)).alloc (.cells #[.slice none 0 0, .int .i64 0] 55)).heap.size = w.heap.size + 2 := by simp
  have hA0 : (((w.setCell ⟨sb, 1, none⟩ (.map (some w.heap.size))).alloc (.map #[] 0)).alloc (.cells #[.slice none 0 0, .int .i64 0] 55)).cell? ⟨w.heap.size + 1, 0, none⟩ = some (.slice none 0 0) := by
    have := heap_alloc_new ((w.setCell ⟨sb, 1, none⟩ (.map (some w.heap.size))).alloc (.map #[] 0)) (.cells #[.slice none 0 0, .int .i64 0] 55)
    rw [hz1] at this
    simp only [World.cell?, this]; rfl
  have hA1 : (((w.setCell ⟨sb, 1, none⟩ (.map (some w.heap.size))).alloc (.map #[] 0)).alloc (.cells #[.slice none 0 0, .int .i64 0] 55)).cell? ⟨w.heap.size + 1, 1, none⟩ = some (.int .i64 0) := by
    have := heap_alloc_new ((w.setCell ⟨sb, 1, none⟩ (.map (some w.heap.size))).alloc (.map #[] 0)) (.cells #[.slice none 0 0, .int .i64 0] 55)
    rw [hz1] at this
    simp only [World.cell?, this]; rfl
  generalize (((w.setCell ⟨sb, 1, none⟩ (.map (some w.heap.size))).alloc (.map #[] 0)).alloc (.cells #[.slice none 0 0, .int .i64 0] 55)) = wA at *
  generalize ((w.setCell ⟨sb, 1, none⟩ (.map (some w.heap.size))).alloc (.map #[] 0)) = W1 at *
  have HB0 := Lib.hid hb0
  have HZ1 := Lib.hid hz1
  have HZA := Lib.hid hzA
  have HD := Lib.hid (HD1.out.below hb0)
  have hcA : wA.cell? ⟨sb, 1, none⟩ = some (.map (some w.heap.size)) := HD.out.c1
  have HR1 := Lib.hid (HR.out.below hb0)
  obtain ⟨b', e, hob, hSb⟩ : ∃ b', some w.heap.size = some b' ∧ OwnsM wA b' 0 [] ∧ (S b' ∨ b' = w.heap.size) := by
    rcases HD.out.map with ⟨h0, _⟩ | h0
    · cases h0
    · exact h0
  injection e with e
  subst e
  have HOB := Lib.hid hob
  clear hl hb0 hzA hz1 c1 c1' q hob cf hmk
  go_region_law (
                 refine step_append_at rfl (.tmp 28) (.tmp 29) 22 rfl .u8 1 base 5 Tryd.underlying22 info_byte (.slice none 0 0) 0 [] (by simp [Act.eval]) Own.nil B m d _ (by simp [Act.eval]) HR1.out.drew (by omega) (by omega) (by have := HZA.out; simp; omega) ?_; intro v' w1 ho' hg1 hloc
                 have hw0 : w1.cell? ⟨w.heap.size + 1, 0, none⟩ = some (.slice none 0 0) := hg1.cell hA0 (fun e => by cases e)
                 have hw1 : w1.cell? ⟨w.heap.size + 1, 1, none⟩ = some (.int .i64 0) := hg1.cell hA1 (fun e => by cases e)
                 have hw2 : w1.cell? ⟨sb, 1, none⟩ = some (.map (some w.heap.size)) := hg1.cell hcA (fun e => by cases e)
                 rw [Nat.zero_add, List.nil_append] at ho'
                 obtain ⟨A', c', rfl, _⟩ := ho'.form
                 have hob1 : OwnsM w1 w.heap.size 0 [] := OwnsM.same HOB.out (hg1.block w.heap.size HOB.out.lt (fun e => by cases e))
                 obtain ⟨w2, hst, hown2, hturn⟩ := OwnsM.store (fs := []) hob1 (by simp) hk ⟨.slice A' m c', ys, 0⟩
                 dsimp only at hst
                 rw [show ((0 : Nat) : Int) = 0 from rfl] at hst
                 have HO' := Lib.hid ho'
                 have HG1 := Lib.hid hg1
                 have HL := Lib.hid hloc
                 have HOB1 := Lib.hid hob1
                 have HW2 := Lib.hid hown2
                 have HT := Lib.hid hturn
                 clear ho' hg1 hloc hob1 hown2 hturn)
  all_goals
    go_wp2
    go_end0
    refine ⟨rfl, ?_⟩
    have hyl : ys.length = m := by have := HR.out.1; rwa [ints_length] at this
    have hown : Own 5 .u8 w1 base (.slice A' m c') ys.length (ints ys) := by rw [hyl]; exact HO'.out
    obtain ⟨S', hd', hfr, hwd⟩ := HD.out.drew.stored (k := k) (f := ⟨.slice A' m c', ys, 0⟩) HOB1.out HG1.out hown (Nat.zero_le _) hy (by
        rcases HL.out with hl | ⟨g, hl, hg⟩
        · exact .inl hl
        · exact .inr fun g' hg' => by rw [hl] at hg'; injection hg' with hg'; omega) HW2.out (.inr rfl) HT.out (by have e : wA.drew.heap.size = wA.heap.size := rfl; have := HZA.out; omega)
    have hfr' : Fr (fun i => S i ∨ i = w.heap.size) wA w2 := ⟨hfr.os, hfr.tape, hfr.output, hfr.size, hfr.block⟩
    have hfr2 : Fr (fun i => S i ∨ i = w.heap.size) W1 w2 := (Fr.of_below HB0.out).trans hfr' (Wider.refl _ _)
    refine ⟨S', some w.heap.size, _, hd', rfl, rfl, HFR.out.trans hfr2 (fun i hi => hi.imp id (fun h => by omega)), fun i hi => ?_⟩
    have e : wA.drew.heap.size = wA.heap.size := rfl
    have := HZA.out
    rcases hwd i hi with (h | h) | h
    · exact .inl h
    · exact .inr (by omega)
    · exact .inr (by omega)
end
end Go.Proofs.YtopogffoiofgbaaDoor
