/-
  Rename and Cut by their contracts, on a disk that is neither armed nor stopped.
-/
import Derived.Test.YtopogffoiofgbaaDoorDiskUse
import Derived.Deep.RegionHeld3
import Derived.RegionTactic
namespace Go.Proofs.YtopogffoiofgbaaDoor
open Go Go.RowKit Go.Maps
set_option linter.unusedVariables false
section
variable {S : Nat → Prop} {w : World} {base sb b : Nat} {mv : Option Nat} {room left : Int} {fs : List (Int × FV)} {ps : List PF}

/-- A file, taken from its name, is stored at another one. -/
theorem DiskAt.moved {w1 w' : World} {k to : Int} {f : FV} (h : DiskAt w S base sb (some b) room fs false left false) (hf : fget fs k = some f) (hSb : S b)
    (hd : DiskAt w1 S base sb (some b) room (fdel fs k) false left false) (ht1 : w.grownBy w1 (some b)) (hm : OwnsM w' b (fput (fdel fs k) to f).length (fput (fdel fs k) to f)) (ht : w1.mapTurned w' b) :
    DiskAt w' S base sb (some b) room (fput (fdel fs k) to f) false left false := by
  have hg := ht.grown
  have hz := hg.size
  have hm1 : OwnsM w1 b (fdel fs k).length (fdel fs k) := by
    rcases hd.map with ⟨h0, _⟩ | ⟨b', e, ho', _⟩
    · cases h0
    · injection e with e; subst e; exact ho'
  have hm0 : OwnsM w b fs.length fs := by
    rcases h.map with ⟨h0, _⟩ | ⟨b', e, ho', _⟩
    · cases h0
    · injection e with e; subst e; exact ho'
  have hfo := h.file _ (mem_fget hf)
  have hf1 : FileOk w1 S base f := hfo.same fun g he => ht1.block g ((h.low g (hfo.inS g he)).2) (fun e => hfo.ne_map hm0 (by rw [he]; exact e))
  refine hd.put (S' := S) (fun _ hi => hi) (fun i hi => ⟨(hd.low i hi).1, Nat.lt_of_lt_of_le (hd.low i hi).2 hz⟩) (hg.block sb hd.lt (fun e => hd.map_ne ⟨_, hm1⟩ (by injection e with e; exact e.symm))) hm hSb (fun p hp _ g he => ?_) ?_ (fun p hp hne => ?_)
  · exact hg.block g ((hd.low g ((hd.file p hp).inS g he)).2) (fun e => (hd.file p hp).ne_map hm1 (by rw [he]; exact e))
  · exact hf1.same fun g he => hg.block g ((hd.low g (hf1.inS g he)).2) (fun e => hf1.ne_map hm1 (by rw [he]; exact e))
  · have := mem_fdel.1 hp
    exact h.apart p this.1 _ (mem_fget hf) this.2

set_option maxRecDepth 100000 in
set_option maxHeartbeats 1000000 in
theorem rename_yes (h : DiskAt w S base sb mv room fs false left false) {k to : Int} (hk : (Lit.int .i64 k).wf = true) (hto : (Lit.int .i64 to).wf = true) {f : FV} (hf : fget fs k = some f) (hlen : fs.length < 4611686018427387904) :
    Calls Tryd.prog 13 #[.pointer (some ⟨sb, 0, none⟩), .int .i64 k, .int .i64 to] w fun e w' => e = .returned .nilIface ∧ ∃ mv', DiskAt w' S base sb mv' room (fput (fdel fs k) to f) false left false ∧ Fr S w w' := by
  have hok := h.found k
  rw [hf] at hok
  simp only [Option.getD_some] at hok
  obtain ⟨v, zs, s⟩ := f
  obtain ⟨A, c, hv, hnc, _, _, _⟩ := hok.own.form
  dsimp only at hv hnc ⊢
  subst hv
  obtain ⟨b, rfl, hob, hSb⟩ := h.mapped hf
  have HD := Lib.hid h
  have HF := Lib.hid hf
  have HOB := Lib.hid hob
  clear h hok hob
  go_enter Tryd.func13, Tryd.ntmps13
  go_wp2_with fail
  refine (find_yes HD.out hk hf).mono ?_
  rintro e w1 ⟨rfl, hb1⟩
  have HB1 := Lib.hid hb1
  have hz1 := hb1.size
  clear hb1 hf
  have c2 : ∀ o, (w1.alloc o).cell? ⟨sb, 2, none⟩ = some (.bool false) := fun o => ((HD.out.below HB1.out).alloc o).c2
  go_wp2_with fail
  refine (change_calm sb _ (c2 _)).mono ?_
  rintro e w2 ⟨rfl, rfl⟩
  have hbA : Below w.heap.size w (w1.alloc (.cells #[.slice A zs.length c, .int .i64 (s : Int)] 55)) := HB1.out.trans (((Below.refl _ _).alloc (Nat.le_refl _) _).mono hz1)
  have hA0 : (w1.alloc (.cells #[.slice A zs.length c, .int .i64 (s : Int)] 55)).cell? ⟨w1.heap.size, 0, none⟩ = some (.slice A zs.length c) := by simp
  have hA1 : (w1.alloc (.cells #[.slice A zs.length c, .int .i64 (s : Int)] 55)).cell? ⟨w1.heap.size, 1, none⟩ = some (.int .i64 (s : Int)) := by simp
  clear c2
  generalize (w1.alloc (.cells #[.slice A zs.length c, .int .i64 (s : Int)] 55)) = wA at *
  have HBA := Lib.hid hbA
  have HDA := Lib.hid (HD.out.below hbA)
  have hobA : OwnsM wA b fs.length fs := OwnsM.same HOB.out (hbA.block b HOB.out.lt)
  have c1 : wA.cell? ⟨sb, 1, none⟩ = some (.map (some b)) := HDA.out.c1
  clear hbA
  go_wp2_with (at_delete; refine wpList_delete_own _ rfl (.tmp 27) (.tmp 28) 43 3 rfl 55 key_int Tryd.underlying43 heldE b fs.length (datum fs) rfl hobA _ _ rfl (key_at hk) ?_; intro w2 hown2 hturn2)
  rw [datum_del] at hown2
  have hdr := HDA.out.dropped (OwnsM.tight hown2) hSb hturn2
  have hbr : ∀ a : Addr, ∀ v, wA.cell? a = some v → w2.cell? a = some v := fun a v hv => hturn2.grown.cell hv (fun e => by
    obtain ⟨es, clock, hh, _⟩ := hobA
    injection e with e
    simp [World.cell?, e, hh] at hv)
  have hB0 := hbr _ _ hA0
  have hB1 := hbr _ _ hA1
  have cB1 : w2.cell? ⟨sb, 1, none⟩ = some (.map (some b)) := hdr.c1
  have hdl : (fdel fs k).length < 4611686018427387904 := by have := List.length_filter_le (fun p : Int × FV => !(p.1 == k)) fs; simp only [fdel]; omega
  obtain ⟨w3, hst, hown3, hturn3⟩ := OwnsM.store (w := w2.drew) (OwnsM.tight hown2) hdl hto ⟨.slice A zs.length c, zs, s⟩
  dsimp only at hst
  have HDR := Lib.hid hdr
  have HW3 := Lib.hid hown3
  have HT2 := Lib.hid hturn2
  have HT3 := Lib.hid hturn3
  clear hobA hown2 hdr hbr hown3 hturn2 hturn3 hA0 hA1 c1
  go_wp2
  go_region
  all_goals
    go_wp2
    go_ret
    have hg2 : wA.grownBy w2.drew (some b) := ⟨HT2.out.grown.os, HT2.out.grown.tape, HT2.out.grown.output, HT2.out.grown.size, HT2.out.grown.block⟩
    have hm := HDA.out.moved HF.out hSb HDR.out.drew hg2 HW3.out HT3.out
    exact ⟨rfl, some b, hm, ((Fr.of_below HBA.out).trans (Fr.of_grown hg2 (fun g he => by injection he with he; subst he; exact hSb)) (Wider.refl _ _)).trans (Fr.of_turned HT3.out hSb) (Wider.refl _ _)⟩

theorem rename_no (h : DiskAt w S base sb mv room fs false left false) {k : Int} (to : Int) (hk : (Lit.int .i64 k).wf = true) (hf : fget fs k = none) :
    Calls Tryd.prog 13 #[.pointer (some ⟨sb, 0, none⟩), .int .i64 k, .int .i64 to] w fun e w' => e = .returned (.iface 29 (.int .i64 2)) ∧ Below w.heap.size w w' := by
  have HD := Lib.hid h
  clear h
  go_enter Tryd.func13, Tryd.ntmps13
  go_wp2_with fail
  refine (find_no HD.out hk hf).mono ?_
  rintro e w1 ⟨rfl, hb1⟩
  have HB1 := Lib.hid hb1
  have hz1 := hb1.size
  clear hb1 hf
  go_wp2
  go_ret
  exact ⟨rfl, HB1.out.alloc hz1 _⟩

/-- What Cut leaves. -/
def CutDone (S : Nat → Prop) (w : World) (base sb : Nat) (room : Int) (fs : List (Int × FV)) (left : Int) (k : Int) (zs : List Nat) (s : Nat) (e : Ending) (w' : World) : Prop :=
  e = .returned .nilIface ∧ LayRes S w base sb room fs false left false k zs s w'

set_option maxRecDepth 100000 in
set_option maxHeartbeats 1000000 in
theorem cut_yes (h : DiskAt w S base sb mv room fs false left false) {k : Int} (hk : (Lit.int .i64 k).wf = true) {f : FV} (hf : fget fs k = some f) (t : Nat) (ht : t ≤ f.zs.length) (hn : f.zs.length ≤ 100000000000000) (hlen : fs.length < 4611686018427387904) (hbase : base ≤ w.heap.size) :
    Calls Tryd.prog 16 #[.pointer (some ⟨sb, 0, none⟩), .int .i64 k, .int .i64 (t : Int)] w (CutDone S w base sb room fs left k (f.zs.take t) t) := by
  have hok := h.found k
  rw [hf] at hok
  simp only [Option.getD_some] at hok
  obtain ⟨v, zs, s⟩ := f
  obtain ⟨A1, c1, hv, hnc, _, hr1, _⟩ := hok.own.form
  dsimp only at hv hnc hr1 ht hn ⊢
  subst hv
  obtain ⟨b, rfl, hob, hSb⟩ := h.mapped hf
  obtain ⟨n1, hn1⟩ : ∃ n1, n1 = zs.length := ⟨_, rfl⟩
  obtain ⟨ys, hys⟩ : ∃ ys, zs.take t = ys := ⟨_, rfl⟩
  rw [hys]
  have HD := Lib.hid h
  have HF := Lib.hid hf
  have HOK := Lib.hid hok
  have HOB := Lib.hid hob
  have HYS := Lib.hid hys
  have hfy := find_yes h hk hf
  rw [← hn1] at hfy hnc hr1 ht hn
  have HFY := Lib.hid hfy
  have HR1 := Lib.hid hr1
  have HN1 := Lib.hid hn1
  have g1 : ¬ ((t : Int) < 0) := by omega
  have g2 : ¬ ((n1 : Int) < (t : Int)) := by omega
  clear h hok hob hys hfy hr1 hn1 hf
  go_enter Tryd.func16, Tryd.ntmps16
  go_wp2_with fail
  refine HFY.out.mono ?_
  rintro e w1 ⟨rfl, hb1⟩
  have HB1 := Lib.hid hb1
  have hz1 := hb1.size
  clear hb1
  have c2 : ∀ o, (w1.alloc o).cell? ⟨sb, 2, none⟩ = some (.bool false) := fun o => ((HD.out.below HB1.out).alloc o).c2
  go_wp2_with fail
  refine (change_calm sb _ (c2 _)).mono ?_
  rintro e w2 ⟨rfl, rfl⟩
  have hbA : Below w.heap.size w (w1.alloc (.cells #[.slice A1 n1 c1, .int .i64 (s : Int)] 55)) := HB1.out.trans (((Below.refl _ _).alloc (Nat.le_refl _) _).mono hz1)
  have hA0 : (w1.alloc (.cells #[.slice A1 n1 c1, .int .i64 (s : Int)] 55)).cell? ⟨w1.heap.size, 0, none⟩ = some (.slice A1 n1 c1) := by simp
  have hA1 : (w1.alloc (.cells #[.slice A1 n1 c1, .int .i64 (s : Int)] 55)).cell? ⟨w1.heap.size, 1, none⟩ = some (.int .i64 (s : Int)) := by simp
  clear c2
  generalize (w1.alloc (.cells #[.slice A1 n1 c1, .int .i64 (s : Int)] 55)) = wA at *
  have HBA := Lib.hid hbA
  have hzA := hbA.size
  have HDA := Lib.hid (HD.out.below hbA)
  have HRA := Lib.hid (HR1.out.below hbA)
  have hcA : wA.cell? ⟨sb, 1, none⟩ = some (.map (some b)) := HDA.out.c1
  have hSA : wA.drew.cell? ⟨sb, 1, none⟩ = some (.map (some b)) ∧ wA.drew.cell? ⟨w1.heap.size, 0, none⟩ = some (.slice A1 n1 c1) ∧ wA.drew.cell? ⟨w1.heap.size, 1, none⟩ = some (.int .i64 (s : Int)) := ⟨hcA, hA0, hA1⟩
  clear hbA
  go_wp2
  go_region_held3 (fun w' => w'.cell? ⟨sb, 1, none⟩ = some (.map (some b)) ∧ w'.cell? ⟨w1.heap.size, 0, none⟩ = some (.slice A1 n1 c1) ∧ w'.cell? ⟨w1.heap.size, 1, none⟩ = some (.int .i64 (s : Int))) (first | exact hS2 | exact hS1 | exact hSA)
    (first
      | (go_at_call 23; refine (cut_any A1 n1 c1 zs ys (s : Int) t _ HRA.out.drew (by omega) (by omega) ht HYS.out).mono ?_; rintro e w3 ⟨v1, rfl, ho1, hb1⟩
         obtain ⟨A2, c2, rfl, _⟩ := ho1.form
         have hw1 : w3.cell? ⟨sb, 1, none⟩ = some (.map (some b)) := ((HDA.out.drew).below hb1).c1
         have hob1 : OwnsM w3 b fs.length fs := OwnsM.same HOB.out ((HBA.out.drew.trans (hb1.mono hzA)).block b HOB.out.lt)
         have hS1 : w3.cell? ⟨sb, 1, none⟩ = some (.map (some b)) ∧ w3.cell? ⟨w1.heap.size, 0, none⟩ = some (.slice A1 n1 c1) ∧ w3.cell? ⟨w1.heap.size, 1, none⟩ = some (.int .i64 (s : Int)) :=
           ⟨hw1, (hb1.cell (World.block_lt_of_cell? _ _ hSA.2.1)).trans hSA.2.1, (hb1.cell (World.block_lt_of_cell? _ _ hSA.2.2)).trans hSA.2.2⟩
         obtain ⟨w4, hst, hown4, hturn⟩ := OwnsM.store hob1 hlen hk ⟨.slice A2 t c2, ys, t⟩
         dsimp only at hst
         have hbr : ∀ a : Addr, ∀ v, w3.cell? a = some v → w4.cell? a = some v := fun a v hv => hturn.grown.cell hv (fun e => by
           obtain ⟨es, clock, hh, _⟩ := hob1
           injection e with e
           simp [World.cell?, e, hh] at hv)
         have hS2 : w4.cell? ⟨sb, 1, none⟩ = some (.map (some b)) ∧ w4.cell? ⟨w1.heap.size, 0, none⟩ = some (.slice A1 n1 c1) ∧ w4.cell? ⟨w1.heap.size, 1, none⟩ = some (.int .i64 (s : Int)) :=
           ⟨hbr _ _ hS1.1, hbr _ _ hS1.2.1, hbr _ _ hS1.2.2⟩
         have HO1 := Lib.hid ho1
         have HB2 := Lib.hid hb1
         have HOB1 := Lib.hid hob1
         have HW4 := Lib.hid hown4
         have HT := Lib.hid hturn
         clear ho1 hb1 hob1 hown4 hturn hbr))
  clear hS1 hS2 hSA hst hw1 hcA hA0 hA1
  go_wp2
  go_ret
  have hyl : ys.length = t := by rw [← HYS.out, List.length_take, ← HN1.out]; omega
  have hg : wA.drew.grownBy w3 ((fget fs k).getD FV.zero).v.ownBlock := ⟨HB2.out.os, HB2.out.tape, HB2.out.output, HB2.out.size, fun i hi _ => HB2.out.block i hi⟩
  have hbA : base ≤ wA.drew.heap.size := by show base ≤ wA.heap.size; omega
  obtain ⟨S2, hd2, hfr2, hwd2⟩ := HDA.out.drew.stored (k := k) (f := ⟨.slice A2 t c2, ys, t⟩) HOB1.out hg (by rw [hyl]; exact HO1.out.less hbA) (by simp only; omega) (fun x hx => HOK.out.lt x (by rw [← HYS.out] at hx; exact List.mem_of_mem_take hx)) (.inr fun g hg' => HO1.out.rowLt g hg') HW4.out hSb HT.out hbA
  have hfrA : Fr S w wA.drew := Fr.of_below HBA.out.drew
  exact ⟨rfl, S2, some b, _, hd2, rfl, rfl, hfrA.trans hfr2 (Wider.refl _ _), fun i hi => (hwd2 i hi).imp id (fun h => by have e : wA.drew.heap.size = wA.heap.size := rfl; omega)⟩

theorem cut_arg (h : DiskAt w S base sb mv room fs false left false) {k : Int} (hk : (Lit.int .i64 k).wf = true) {f : FV} (hf : fget fs k = some f) (t : Int) (ht : t < 0 ∨ (f.zs.length : Int) < t) :
    Calls Tryd.prog 16 #[.pointer (some ⟨sb, 0, none⟩), .int .i64 k, .int .i64 t] w fun e w' => e = .returned (.iface 29 (.int .i64 13)) ∧ Below w.heap.size w w' := by
  have hok := h.found k
  rw [hf] at hok
  simp only [Option.getD_some] at hok
  obtain ⟨v, zs, s⟩ := f
  obtain ⟨A1, c1, hv, hnc, _, hr1, _⟩ := hok.own.form
  dsimp only at hv hnc hr1 ht ⊢
  subst hv
  have HFY := Lib.hid (find_yes h hk hf)
  clear h hok hr1 hf
  by_cases g : t < 0
  · go_enter Tryd.func16, Tryd.ntmps16
    go_wp2_with fail
    refine HFY.out.mono ?_
    rintro e w1 ⟨rfl, hb1⟩
    have HB1 := Lib.hid hb1
    have hz1 := hb1.size
    clear hb1 ht
    go_wp2
    go_ret
    exact ⟨rfl, HB1.out.alloc hz1 _⟩
  · have g2 : (zs.length : Int) < t := by omega
    go_enter Tryd.func16, Tryd.ntmps16
    go_wp2_with fail
    refine HFY.out.mono ?_
    rintro e w1 ⟨rfl, hb1⟩
    have HB1 := Lib.hid hb1
    have hz1 := hb1.size
    clear hb1 ht
    go_wp2
    go_ret
    exact ⟨rfl, HB1.out.alloc hz1 _⟩

theorem cut_no (h : DiskAt w S base sb mv room fs false left false) {k : Int} (t : Int) (hk : (Lit.int .i64 k).wf = true) (hf : fget fs k = none) :
    Calls Tryd.prog 16 #[.pointer (some ⟨sb, 0, none⟩), .int .i64 k, .int .i64 t] w fun e w' => e = .returned (.iface 29 (.int .i64 2)) ∧ Below w.heap.size w w' := by
  have HD := Lib.hid h
  clear h
  go_enter Tryd.func16, Tryd.ntmps16
  go_wp2_with fail
  refine (find_no HD.out hk hf).mono ?_
  rintro e w1 ⟨rfl, hb1⟩
  have HB1 := Lib.hid hb1
  have hz1 := hb1.size
  clear hb1 hf
  go_wp2
  go_ret
  exact ⟨rfl, HB1.out.alloc hz1 _⟩

/-! Over the files as they are told. -/
theorem pget_plain_some {fs : List (Int × FV)} {k : Int} {zs : List Nat} {s : Nat} (h : pget (plain fs) k = some (zs, s)) : ∃ f, fget fs k = some f ∧ f.zs = zs ∧ f.safe = s := by
  rw [plain_get] at h
  cases hf : fget fs k with
  | none => rw [hf] at h; simp at h
  | some f => rw [hf] at h; simp at h; exact ⟨f, rfl, h.1, h.2⟩
theorem pget_plain_none {fs : List (Int × FV)} {k : Int} (h : pget (plain fs) k = none) : fget fs k = none := by
  rw [plain_get] at h
  cases hf : fget fs k with
  | none => rfl
  | some f => rw [hf] at h; simp at h

theorem rename_ok (h : DiskP w S base sb room ps) {k to : Int} (hk : (Lit.int .i64 k).wf = true) (hto : (Lit.int .i64 to).wf = true) {zs : List Nat} {s : Nat} (hg : pget ps k = some (zs, s)) (hlen : ps.length < 1000) :
    Calls Tryd.prog 13 #[.pointer (some ⟨sb, 0, none⟩), .int .i64 k, .int .i64 to] w fun e w' => e = .returned .nilIface ∧ Step S w base sb room (pput (pdel ps k) to zs s) w' := by
  obtain ⟨mv, fs, left, hd, rfl⟩ := h
  obtain ⟨f, hf, rfl, rfl⟩ := pget_plain_some hg
  rw [plain_len] at hlen
  refine (rename_yes hd hk hto hf (by omega)).mono ?_
  rintro e w' ⟨he, mv', hd', hfr⟩
  exact ⟨he, S, ⟨mv', _, left, hd', by rw [plain_fput, plain_del]⟩, hfr, Wider.refl _ _⟩
theorem rename_err (h : DiskP w S base sb room ps) {k : Int} (to : Int) (hk : (Lit.int .i64 k).wf = true) (hg : pget ps k = none) :
    Calls Tryd.prog 13 #[.pointer (some ⟨sb, 0, none⟩), .int .i64 k, .int .i64 to] w fun e w' => e = .returned (.iface 29 (.int .i64 2)) ∧ Below w.heap.size w w' := by
  obtain ⟨mv, fs, left, hd, rfl⟩ := h
  exact rename_no hd to hk (pget_plain_none hg)
theorem cut_ok (h : DiskP w S base sb room ps) {k : Int} (hk : (Lit.int .i64 k).wf = true) {zs : List Nat} {s : Nat} (hg : pget ps k = some (zs, s)) (t : Nat) (ht : t ≤ zs.length) (hn : zs.length ≤ 100000000000000) (hlen : ps.length < 1000) (hbase : base ≤ w.heap.size) :
    Calls Tryd.prog 16 #[.pointer (some ⟨sb, 0, none⟩), .int .i64 k, .int .i64 (t : Int)] w fun e w' => e = .returned .nilIface ∧ Step S w base sb room (pput ps k (zs.take t) t) w' := by
  obtain ⟨mv, fs, left, hd, rfl⟩ := h
  obtain ⟨f, hf, rfl, rfl⟩ := pget_plain_some hg
  rw [plain_len] at hlen
  refine (cut_yes hd hk hf t ht hn (by omega) hbase).mono ?_
  rintro e w' ⟨he, S', mv', f', hd', e1, e2, hfr, hwd⟩
  exact ⟨he, S', ⟨mv', _, left, hd', by rw [plain_fput, e1, e2]⟩, hfr, hwd⟩
theorem cut_bad (h : DiskP w S base sb room ps) {k : Int} (hk : (Lit.int .i64 k).wf = true) {zs : List Nat} {s : Nat} (hg : pget ps k = some (zs, s)) (t : Int) (ht : t < 0 ∨ (zs.length : Int) < t) :
    Calls Tryd.prog 16 #[.pointer (some ⟨sb, 0, none⟩), .int .i64 k, .int .i64 t] w fun e w' => e = .returned (.iface 29 (.int .i64 13)) ∧ Below w.heap.size w w' := by
  obtain ⟨mv, fs, left, hd, rfl⟩ := h
  obtain ⟨f, hf, rfl, rfl⟩ := pget_plain_some hg
  exact cut_arg hd hk hf t ht
theorem cut_err (h : DiskP w S base sb room ps) {k : Int} (t : Int) (hk : (Lit.int .i64 k).wf = true) (hg : pget ps k = none) :
    Calls Tryd.prog 16 #[.pointer (some ⟨sb, 0, none⟩), .int .i64 k, .int .i64 t] w fun e w' => e = .returned (.iface 29 (.int .i64 2)) ∧ Below w.heap.size w w' := by
  obtain ⟨mv, fs, left, hd, rfl⟩ := h
  exact cut_no hd t hk (pget_plain_none hg)
end
end Go.Proofs.YtopogffoiofgbaaDoor
