/-
  lay and Append by their contracts.
-/
import Derived.Test.YtopogffoiofgbaaDoorDiskPut
import Derived.Deep.RegionLaw
namespace Go.Proofs.YtopogffoiofgbaaDoor
open Go Go.RowKit Go.Maps
set_option linter.unusedVariables false
section
variable {S : Nat → Prop} {w : World} {base sb b : Nat} {mv : Option Nat} {room left : Int} {fs : List (Int × FV)} {armed stopped : Bool}

theorem eql_map (w : World) (r : Option Nat) : (binOp .eql 43 (.map r) (.map none)).run Tryd.prog w = .ok (.bool r.isNone) w := run_eql_map_nil w _ _ _ r Tryd.underlying43

/-- An append to bytes of one's own, as one step of a region that draws. -/
theorem step_append_at {P : Program} {ops : Array Oper} {o : Oper} {a : Act} {w : World} {K : Act → World → Prop} {Q : Exit → Act → World → Prop} {E : Prop} (hg : o.guard = none) (s x : Operand) (t : TypeId)
    (ho : o.op = .call { callee := .builtin .append, args := #[s, x], argTypes := #[t, t] })
    (k : IntKind) (bytes base : Nat) (e : TypeId) (ht : P.underlying t = some (.slice e))
    (hinfo : (P.info? e).map (fun i => (i.zero, i.size, i.bytes)) = some (some (.int k 0), 1, bytes))
    (v : Value) (n : Nat) (xs : List Int) (hs : a.eval s = v) (hown : Own e k w base v n xs) (A : Option Addr) (m c : Nat) (zs : List Int) (hx : a.eval x = .slice A m c) (hr : Rd k w A m zs)
    (h63 : n + m ≤ 9223372036854775807) (hfit : (5 * (n + m) + 768) * bytes ≤ 1125899906842624) (hbase : base ≤ w.heap.size)
    (h : ∀ v' w', Own e k w' base v' (n + m) (xs ++ zs) → w.grownBy w' v.ownBlock → (v'.ownBlock = v.ownBlock ∨ ∃ g, v'.ownBlock = some g ∧ w.heap.size ≤ g) → K (a.put o.dst v') w') :
    if Region.wanted o (yielded ops a.tmps) = true then Oper.wp P o a w K Q else E := by
  have hw : Region.wanted o (yielded ops a.tmps) = true := by simp [Region.wanted, hg]
  rw [if_pos hw]
  exact wp_append_at w s x t ho k bytes base e ht hinfo v n xs hs hown A m c zs hx hr h63 hfit hbase h

/-- What lay leaves: the bytes behind those of the file. -/
def LayRes (S : Nat → Prop) (w : World) (base sb : Nat) (room : Int) (fs : List (Int × FV)) (armed : Bool) (left : Int) (stopped : Bool) (k : Int) (zs : List Nat) (s : Nat) (w' : World) : Prop :=
  ∃ S' mv' f', DiskAt w' S' base sb mv' room (fput fs k f') armed left stopped ∧ f'.zs = zs ∧ f'.safe = s ∧ Fr S w w' ∧ Wider S S' w

set_option maxRecDepth 100000 in
set_option maxHeartbeats 1000000 in
theorem lay_some (h : DiskAt w S base sb (some b) room fs armed left stopped) {k : Int} (hk : (Lit.int .i64 k).wf = true) (B : Option Addr) (m d : Nat) (ys : List Nat) (hr : Rd .u8 w B m (ints ys)) (hy : ∀ x ∈ ys, x < 256)
    {f : FV} (hf : (fget fs k).getD FV.zero = f) (hn : f.zs.length + m ≤ 200000000000000) (hlen : fs.length < 4611686018427387904) (hbase : base ≤ w.heap.size) :
    Calls Tryd.prog 18 #[.pointer (some ⟨sb, 0, none⟩), .int .i64 k, .slice B m d] w fun e w' => e = .returned (.tuple #[]) ∧ LayRes S w base sb room fs armed left stopped k (f.zs ++ ys) f.safe w' := by
  have c1 : w.cell? ⟨sb, 1, none⟩ = some (.map (some b)) := h.c1
  have c1' : ∀ o, (w.alloc o).cell? ⟨sb, 1, none⟩ = some (.map (some b)) := fun o => (h.alloc o).c1
  have q := eql_map
  have hl := h.look hk hf
  have hok := h.found k
  rw [hf] at hok
  obtain ⟨v, zs, s⟩ := f
  obtain ⟨A, c, hv, hnc, _, _, _⟩ := hok.own.form
  have ho := hok.own
  dsimp only at hl hv hnc hn ho ⊢
  subst hv
  have HO := Lib.hid ho
  have HR := Lib.hid hr
  clear hr ho
  go_enter Tryd.func18, Tryd.ntmps18
  go_wp2
  have hb0 : Below w.heap.size w (w.alloc (.cells #[.slice A zs.length c, .int .i64 (s : Int)] 55)) := (Below.refl _ _).alloc (Nat.le_refl _) _
  have hzA : (w.alloc (.cells #[.slice A zs.length c, .int .i64 (s : Int)] 55)).heap.size = w.heap.size + 1 := by simp
  have hA0 : (w.alloc (.cells #[.slice A zs.length c, .int .i64 (s : Int)] 55)).cell? ⟨w.heap.size, 0, none⟩ = some (.slice A zs.length c) := by simp
  have hA1 : (w.alloc (.cells #[.slice A zs.length c, .int .i64 (s : Int)] 55)).cell? ⟨w.heap.size, 1, none⟩ = some (.int .i64 (s : Int)) := by simp
  generalize (w.alloc (.cells #[.slice A zs.length c, .int .i64 (s : Int)] 55)) = wA at *
  have HB0 := Lib.hid hb0
  have HZA := Lib.hid hzA
  have HD := Lib.hid (h.below hb0)
  have hcA : wA.cell? ⟨sb, 1, none⟩ = some (.map (some b)) := HD.out.c1
  have HF := Lib.hid hf
  have HR1 := Lib.hid (HR.out.below hb0)
  have HO1 := Lib.hid (HO.out.below hb0)
  have hne : (Value.slice A zs.length c).ownBlock ≠ some w.heap.size := fun e => by
    have := (World.ownsRow.lt HO.out _ e).2
    omega
  have hnsb : (Value.slice A zs.length c).ownBlock ≠ some sb := hok.ne_sb h
  obtain ⟨b', e, hob, hSb⟩ : ∃ b', some b = some b' ∧ OwnsM wA b' fs.length fs ∧ S b' := by
    rcases HD.out.map with ⟨h0, _⟩ | h0
    · cases h0
    · exact h0
  injection e with e
  subst e
  have hnb : (Value.slice A zs.length c).ownBlock ≠ some b := hok.ne_map (fs := fs) (n := fs.length) (by
    rcases h.map with ⟨h0, _⟩ | ⟨b', e, h0, _⟩
    · cases h0
    · injection e with e; subst e; exact h0)
  have HOK := Lib.hid hok
  have HOB := Lib.hid hob
  clear h hok hl hb0 hzA hf c1 c1' q hob
  go_region_law (refine step_append_at rfl (.tmp 28) (.tmp 29) 22 rfl .u8 1 base 5 Tryd.underlying22 info_byte (.slice A zs.length c) zs.length (ints zs) (by simp [Act.eval]) HO1.out.drew B m d _ (by simp [Act.eval]) HR1.out.drew (by omega) (by omega) (by have := HZA.out; simp; omega) ?_; intro v' w1 ho' hg1 hloc
                 have hw0 : w1.cell? ⟨w.heap.size, 0, none⟩ = some (.slice A zs.length c) := hg1.cell hA0 (fun e => hne e.symm)
                 have hw1 : w1.cell? ⟨w.heap.size, 1, none⟩ = some (.int .i64 (s : Int)) := hg1.cell hA1 (fun e => hne e.symm)
                 have hw2 : w1.cell? ⟨sb, 1, none⟩ = some (.map (some b)) := hg1.cell hcA (fun e => hnsb e.symm)
                 obtain ⟨A', c', rfl, _⟩ := ho'.form
                 have hob1 : OwnsM w1 b fs.length fs := OwnsM.same HOB.out (hg1.block b HOB.out.lt (fun e => hnb e.symm))
                 obtain ⟨w2, hst, hown2, hturn⟩ := OwnsM.store hob1 hlen hk ⟨.slice A' (zs.length + m) c', zs ++ ys, s⟩
                 dsimp only at hst
                 have HO' := Lib.hid ho'
                 have HG1 := Lib.hid hg1
                 have HL := Lib.hid hloc
                 have HOB1 := Lib.hid hob1
                 have HW2 := Lib.hid hown2
                 have HT := Lib.hid hturn
                 clear ho' hg1 hloc hob1 hown2 hturn)
  all_goals
    go_wp2
    go_end0
    refine ⟨rfl, ?_⟩
    have hyl : ys.length = m := by have := HR.out.1; rwa [ints_length] at this
    have hown : Own 5 .u8 w1 base (.slice A' (zs.length + m) c') (zs ++ ys).length (ints (zs ++ ys)) := by rw [List.length_append, hyl, ints_append]; exact HO'.out
    obtain ⟨S', hd', hfr, hwd⟩ := HD.out.drew.stored (k := k) (f := ⟨.slice A' (zs.length + m) c', zs ++ ys, s⟩) HOB1.out (by rw [HF.out]; exact HG1.out) hown (by have := HOK.out.safe; simp only [List.length_append] at *; omega)
      (fun x hx => (List.mem_append.1 hx).elim (HOK.out.lt x) (hy x)) (by
        rw [HF.out]
        rcases HL.out with hl | ⟨g, hl, hg⟩
        · exact .inl hl
        · exact .inr fun g' hg' => by rw [hl] at hg'; injection hg' with hg'; omega) HW2.out hSb HT.out (by have e : wA.drew.heap.size = wA.heap.size := rfl; have := HZA.out; omega)
    have hfr' : Fr S wA w2 := ⟨hfr.os, hfr.tape, hfr.output, hfr.size, hfr.block⟩
    exact ⟨S', some b, _, hd', rfl, rfl, (Fr.of_below HB0.out).trans hfr' (Wider.refl _ _), fun i hi => (hwd i hi).imp id (fun h => by have e : wA.drew.heap.size = wA.heap.size := rfl; have := HZA.out; omega)⟩
end
end Go.Proofs.YtopogffoiofgbaaDoor
