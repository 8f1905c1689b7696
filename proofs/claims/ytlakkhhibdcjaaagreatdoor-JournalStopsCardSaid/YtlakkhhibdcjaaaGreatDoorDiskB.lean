/-
  Names by its contract: the files' numbers, rising.
  Files as they are told: names, bytes, how many are safe; what a store, a rename and a restart make of them.
  Restart by its contract.
  The disk's calls by what they make of the files as they are told.
  Small words of a disk's callers: bytes that are laid as a row, names that fit, a step where nothing but the disk lies above its base.
  A disk that may be armed, or may have stopped: change, find, Append and Sync by their contracts.
  A disk in whatever state: Append and Sync by their contracts, over the files as they are told.
  A disk in whatever state: Sync, Read, Names, Used and Restart by their contracts, over the files as they are told.
  A disk in whatever state: Rename by its contracts, over the files as they are told.
  A disk in whatever state: Remove by its contract, over the files as they are told.
  Rename and Cut by their contracts, on a disk that is neither armed nor stopped.
-/
import Derived.Test.YtlakkhhibdcjaaaGreatDoorNamesLaid
import Derived.Test.YtlakkhhibdcjaaaGreatDoorDiskA
import Derived.Deep.RegionHeld3
import Derived.RegionTactic
import Derived.Lib.SlBytesConst
namespace Go.Proofs.YtlakkhhibdcjaaaGreatDoor
open Go Go.RowKit Go.Maps Go.Sort Go.Shelf
set_option linter.unusedVariables false

theorem sorts (m : Nat) : AnyZI.SortsIn Tryz.prog Tryz.sortedA_ren Fence.wide m :=
  ⟨fun blk off cap ss W hH hblk hsz => callsIn_wide.2 (AnyM.slices_Sort_int Tryz.sortA blk off cap ss W hH hblk hsz),
   fun p cap W => callsIn_wide.2 (AnyM.slices_Sort_int_none Tryz.sortA p cap W)⟩

/-- What Names hands back. -/
def NamesRes (w : World) (ks : List Int) (e : Ending) (w' : World) : Prop := ∃ v, e = .returned v ∧ Own 3 .i64 w' w.heap.size v ks.length ks ∧ Below w.heap.size w w'

theorem sorted_up {ks : List Int} (h : ks.Pairwise (· < ·)) {ss : List Int} (hp : ss.Perm ks) : ss.mergeSort (fun x y => decide (x ≤ y)) = ks := by
  rw [mergeSort_of_perm_i hp]
  refine List.mergeSort_of_pairwise (h.imp fun hlt => ?_)
  simp only [leI, decide_eq_true_eq]
  omega

section
variable {S : Nat → Prop} {w : World} {base sb b : Nat} {mv : Option Nat} {room left : Int} {fs : List (Int × FV)} {armed stopped : Bool}
set_option maxRecDepth 100000 in
set_option maxHeartbeats 1000000 in
theorem names_any (h : DiskAt w S base sb mv room fs armed left stopped) (hlen : fs.length ≤ 1000000000000) :
    Calls Tryz.prog 41 #[.pointer (some ⟨sb, 0, none⟩)] w (NamesRes w (fs.map (·.1))) := by
  refine (callsIn_wide (n := 6)).1 ?_
  have c1 := h.c1
  have cK : ∀ mb W, CallsIn Fence.wide 5 Tryz.prog 64 #[.map mb] W fun e w' => e = .returned (.func (.func 76) #[] #[.pointer (some ⟨W.heap.size, 0, none⟩)]) ∧ w' = W.alloc (.cells #[.map mb] 59) := fun mb W => AnyZI.keys_in Tryz.keysA Fence.wide 5 trivial rfl mb W
  have hup : (fs.map (·.1)).Pairwise (· < ·) := List.pairwise_map.2 h.up
  have hfK : Fence.wide.fn 64 := trivial
  have hfS : Fence.wide.fn 63 := trivial
  rcases h.map with ⟨rfl, rfl⟩ | ⟨b, rfl, hown, _⟩
  · have hseq : SeqGives Fence.wide 2 Tryz.prog 76 #[.pointer (some ⟨w.heap.size, 0, none⟩)] encZ (fun ss : List Int => ss = []) 0 (w.alloc (.cells #[.map none] 59)) :=
      AnyZI.keys_gives_nil (ρ := Tryz.keysA_ren) { Tryz.keysA with } Fence.wide _ trivial rfl w.heap.size _ (by simp) (by simp)
    have cS := AnyZI.sorted_in Tryz.sortedA Fence.wide 5 trivial trivial trivial trivial rfl (by omega) (sorts _) (enters_of Tryz.func75 (by kernel_rfl) rfl) 76 #[.pointer (some ⟨w.heap.size, 0, none⟩)] trivial (enters_of Tryz.func76 (by kernel_rfl) rfl) _ _ (by unfold maxLen; omega) (by omega) _ hseq
    change CallsIn _ _ Tryz.prog 63 _ _ _ at cS
    clear h
    refine callsIn_of_wp Tryz.func41 rfl trivial ?_ rfl
    simp only [Tryz.ntmps41, List.size_toArray, List.length_cons, List.length_nil, Nat.reduceAdd, Nat.reduceSub, Array.replicate_succ, Array.replicate_zero, List.push_toArray, List.append_toArray, List.nil_append, List.cons_append]
    gi_wp2_with (first
      | (gi_at_call 64; refine (cK _ _).mono ?_; rintro e w' ⟨rfl, rfl⟩)
      | (gi_at_call 63; refine cS.mono ?_; rintro e w' ⟨v, ss, rfl, hS, hrow, hnil, hb⟩))
    go_ret
    subst hS
    have e1 : ([] : List Int).mergeSort (fun x y => decide (x ≤ y)) = [] := by simp
    rw [e1] at hrow
    have ho : Own 3 .i64 w' _ v 0 [] := hrow
    exact ⟨v, rfl, ho.less (by simp), ((Below.refl _ w).alloc (Nat.le_refl _) _).trans (hb.mono (by simp))⟩
  · have hbl := hown.lt
    have hseq : SeqGives Fence.wide 2 Tryz.prog 76 #[.pointer (some ⟨w.heap.size, 0, none⟩)] encZ (fun ss => ss.Perm (intKeys (datum fs))) (Maps.size (datum fs)) (w.alloc (.cells #[.map (some b)] 59)) :=
      AnyZI.keys_gives (ρ := Tryz.keysA_ren) { Tryz.keysA with } Fence.wide _ trivial rfl (by omega) w.heap.size b fs.length (datum fs) _ (by simp) (by simp) (OwnsM.same hown (Below.heap_alloc _ _ b hbl))
    have cS := AnyZI.sorted_in Tryz.sortedA Fence.wide 5 trivial trivial trivial trivial rfl (by omega) (sorts _) (enters_of Tryz.func75 (by kernel_rfl) rfl) 76 #[.pointer (some ⟨w.heap.size, 0, none⟩)] trivial (enters_of Tryz.func76 (by kernel_rfl) rfl) _ _ (by rw [datum_size]; unfold maxLen; omega) (by rw [datum_size]; omega) _ hseq
    change CallsIn _ _ Tryz.prog 63 _ _ _ at cS
    clear h hown
    refine callsIn_of_wp Tryz.func41 rfl trivial ?_ rfl
    simp only [Tryz.ntmps41, List.size_toArray, List.length_cons, List.length_nil, Nat.reduceAdd, Nat.reduceSub, Array.replicate_succ, Array.replicate_zero, List.push_toArray, List.append_toArray, List.nil_append, List.cons_append]
    gi_wp2_with (first
      | (gi_at_call 64; refine (cK _ _).mono ?_; rintro e w' ⟨rfl, rfl⟩)
      | (gi_at_call 63; refine cS.mono ?_; rintro e w' ⟨v, ss, rfl, hS, hrow, hnil, hb⟩))
    go_ret
    rw [datum_keys] at hS
    rw [sorted_up hup hS, hS.length_eq] at hrow
    have ho : Own 3 .i64 w' _ v (fs.map (·.1)).length (fs.map (·.1)) := hrow
    exact ⟨v, rfl, ho.less (by simp), ((Below.refl _ w).alloc (Nat.le_refl _) _).trans (hb.mono (by simp))⟩
end
end Go.Proofs.YtlakkhhibdcjaaaGreatDoor

namespace Go.Proofs.YtlakkhhibdcjaaaGreatDoor
open Go Go.RowKit Go.Maps
set_option linter.unusedVariables false

/-- A file without where it lies. -/
def pv (p : Int × FV) : Int × List Nat × Nat := (p.1, p.2.zs, p.2.safe)
def plain (fs : List (Int × FV)) : List (Int × List Nat × Nat) := fs.map pv

/-- What a restart leaves of a file. -/
def rst (keep : Int) (p : Int × List Nat × Nat) : Int × List Nat × Nat :=
  (p.1, p.2.1.take (p.2.2 + (keep % ((p.2.1.length - p.2.2 : Nat) + 1 : Int)).toNat), p.2.2 + (keep % ((p.2.1.length - p.2.2 : Nat) + 1 : Int)).toNat)

theorem fget_mem {fs : List (Int × FV)} (hu : fs.Pairwise (fun x y => x.1 < y.1)) {k : Int} {f : FV} (hm : (k, f) ∈ fs) : fget fs k = some f := by
  induction fs with
  | nil => simp at hm
  | cons y r ih =>
    rw [List.pairwise_cons] at hu
    rcases List.mem_cons.1 hm with h | h
    · subst h; simp [fget]
    · have := hu.1 _ h
      have hne : (y.1 == k) = false := by simp; omega
      have := ih hu.2 h
      simp only [fget, List.find?_cons, hne] at this ⊢
      exact this
theorem fdel_none {k : Int} : ∀ {fs : List (Int × FV)}, (∀ y ∈ fs, y.1 ≠ k) → fdel fs k = fs
  | [], _ => rfl
  | y :: r, h => by
    have hy : (y.1 == k) = false := by simpa using h y (by simp)
    have h2 := fdel_none (k := k) (fs := r) fun z hz => h z (by simp [hz])
    simp only [fdel] at h2
    simp [fdel, hy]
    simpa using h2
/-- A store at a name that is there. -/
theorem fput_there {k : Int} {f : FV} : ∀ {fs : List (Int × FV)}, fs.Pairwise (fun x y => x.1 < y.1) → (∃ f0, (k, f0) ∈ fs) → fput fs k f = fs.map (fun p => if p.1 = k then (k, f) else p)
  | [], _, ⟨_, h⟩ => by simp at h
  | y :: r, hu, ⟨f0, h⟩ => by
    rw [List.pairwise_cons] at hu
    by_cases hy : y.1 = k
    · have hr : ∀ z ∈ r, z.1 ≠ k := fun z hz => by have := hu.1 z hz; omega
      have hd : fdel (y :: r) k = r := by
        have h2 := fdel_none hr
        simp only [fdel] at h2 ⊢
        rw [List.filter_cons, if_neg (by simp [hy])]
        exact h2
      have hm : r.map (fun p => if p.1 = k then (k, f) else p) = r := by
        conv => rhs; rw [← List.map_id r]
        exact List.map_congr_left fun z hz => by rw [if_neg (hr z hz)]; rfl
      rw [fput, hd, List.map_cons, if_pos hy, hm]
      cases r with
      | nil => rfl
      | cons z t => have := hu.1 z (by simp); unfold fins; rw [if_pos (by simp only; omega)]
    · have hin : (k, f0) ∈ r := by
        rcases List.mem_cons.1 h with h | h
        · exact absurd (by rw [← h]) hy
        · exact h
      have hlt := hu.1 _ hin
      have ih := fput_there (f := f) hu.2 ⟨f0, hin⟩
      have hd : fdel (y :: r) k = y :: fdel r k := by simp [fdel, hy]
      rw [fput, hd, fins, if_neg (by simp only at hlt ⊢; omega), List.map_cons, if_neg hy, ← ih]
      rfl
theorem plain_put {fs : List (Int × FV)} (hu : fs.Pairwise (fun x y => x.1 < y.1)) {k : Int} {f f0 : FV} (h : (k, f0) ∈ fs) : plain (fput fs k f) = (plain fs).map (fun p => if p.1 = k then (k, f.zs, f.safe) else p) := by
  rw [fput_there hu ⟨f0, h⟩, plain, plain, List.map_map, List.map_map]
  refine List.map_congr_left fun p hp => ?_
  simp only [Function.comp_apply, pv]
  by_cases hpk : p.1 = k <;> simp [hpk]
theorem plain_keys (fs : List (Int × FV)) : (plain fs).map (·.1) = fs.map (·.1) := by simp [plain, pv, Function.comp_def]
theorem plain_len (fs : List (Int × FV)) : (plain fs).length = fs.length := by simp [plain]
theorem plain_mem {fs : List (Int × FV)} {k : Int} {zs : List Nat} {s : Nat} (h : (k, zs, s) ∈ plain fs) : ∃ v, (k, (⟨v, zs, s⟩ : FV)) ∈ fs := by
  obtain ⟨⟨k', v, zs', s'⟩, hp, he⟩ := List.mem_map.1 h
  simp only [pv, Prod.mk.injEq] at he
  obtain ⟨rfl, rfl, rfl⟩ := he
  exact ⟨v, hp⟩
theorem mem_plain {fs : List (Int × FV)} {k : Int} {f : FV} (h : (k, f) ∈ fs) : (k, f.zs, f.safe) ∈ plain fs := List.mem_map.2 ⟨_, h, rfl⟩
theorem total_plain (fs : List (Int × FV)) : total fs = ((plain fs).map fun p => p.2.1.length).sum := by simp [total, plain, pv, Function.comp_def]

/-- Part of the files are restarted: those whose names are in ks. -/
def partly (keep : Int) (ks : List Int) (ps : List (Int × List Nat × Nat)) : List (Int × List Nat × Nat) := ps.map fun p => if p.1 ∈ ks then rst keep p else p
theorem partly_nil (keep : Int) (ps : List (Int × List Nat × Nat)) : partly keep [] ps = ps := by simp [partly]
theorem partly_all (keep : Int) (ps : List (Int × List Nat × Nat)) : partly keep (ps.map (·.1)) ps = ps.map (rst keep) :=
  List.map_congr_left fun p hp => if_pos (List.mem_map.2 ⟨p, hp, rfl⟩)
theorem partly_keys (keep : Int) (ks : List Int) (ps : List (Int × List Nat × Nat)) : (partly keep ks ps).map (·.1) = ps.map (·.1) := by
  rw [partly, List.map_map]
  refine List.map_congr_left fun p _ => ?_
  simp only [Function.comp_apply]
  split <;> rfl
theorem partly_step {keep k : Int} {ks : List Int} {ps : List (Int × List Nat × Nat)} {q : Int × List Nat × Nat} (hu : ps.Pairwise (fun x y => x.1 < y.1)) (hq : q ∈ ps) (hk : q.1 = k) (hn : k ∉ ks) :
    (partly keep ks ps).map (fun p => if p.1 = k then rst keep q else p) = partly keep (ks ++ [k]) ps := by
  rw [partly, partly, List.map_map]
  refine List.map_congr_left fun p hp => ?_
  simp only [Function.comp_apply, List.mem_append, List.mem_singleton]
  by_cases hpk : p.1 = k
  · have hpq : p = q := by
      by_cases he : p = q
      · exact he
      · exfalso
        obtain ⟨i, hi, rfl⟩ := List.getElem_of_mem hp
        obtain ⟨j, hj, rfl⟩ := List.getElem_of_mem hq
        rcases Nat.lt_trichotomy i j with h | h | h
        · have := List.pairwise_iff_getElem.1 hu i j hi hj h; omega
        · subst h; exact he rfl
        · have := List.pairwise_iff_getElem.1 hu j i hj hi h; omega
    subst hpq
    have e : (if p.1 ∈ ks then rst keep p else p) = p := if_neg (by rw [hpk]; exact hn)
    rw [e, if_pos hpk, if_pos (.inr hpk)]
  · have e : (if p.1 ∈ ks then rst keep p else p).1 = p.1 := by split <;> rfl
    rw [e, if_neg hpk]
    simp [hpk]
theorem partly_mem {keep : Int} {ks : List Int} {ps : List (Int × List Nat × Nat)} {q : Int × List Nat × Nat} (hq : q ∈ ps) (hn : q.1 ∉ ks) : q ∈ partly keep ks ps :=
  List.mem_map.2 ⟨q, hq, by rw [if_neg hn]⟩
end Go.Proofs.YtlakkhhibdcjaaaGreatDoor

namespace Go.Proofs.YtlakkhhibdcjaaaGreatDoor
open Go Go.RowKit Go.Maps
set_option linter.unusedVariables false
section
variable {S : Nat → Prop} {w : World} {base sb b : Nat} {mv : Option Nat} {room left : Int} {fs : List (Int × FV)} {armed stopped : Bool}

theorem modulo_at (n m : Int) (r : Nat) (w : World) (hn : -9223372036854775808 ≤ n ∧ n ≤ 9223372036854775807) (hm : 0 < m ∧ m ≤ 4611686018427387904) (hr : n % m = (r : Int)) :
    Calls Tryz.prog 43 #[.int .i64 n, .int .i64 m] w fun e w' => e = .returned (.int .i64 (r : Int)) ∧ w = w' := by
  rw [← hr]; exact modulo_any n m w hn hm

theorem wrap64_in {x : Int} (h1 : -9223372036854775808 ≤ x) (h2 : x ≤ 9223372036854775807) : IntKind.i64.wrap x = x := by
  simp [IntKind.wrap, IntKind.bits, IntKind.signed]
  omega

/-- The struct's three last cells set anew. -/
theorem disk_calm (h : DiskAt w S base sb mv room fs armed left stopped) :
    DiskAt (((w.setCell ⟨sb, 4, none⟩ (.bool false)).setCell ⟨sb, 2, none⟩ (.bool false)).setCell ⟨sb, 3, none⟩ (.int .i64 0)) S base sb mv room fs false 0 false ∧
      Fr S w (((w.setCell ⟨sb, 4, none⟩ (.bool false)).setCell ⟨sb, 2, none⟩ (.bool false)).setCell ⟨sb, 3, none⟩ (.int .i64 0)) := by
  have hk : ∀ i, i ≠ sb → (((w.setCell ⟨sb, 4, none⟩ (.bool false)).setCell ⟨sb, 2, none⟩ (.bool false)).setCell ⟨sb, 3, none⟩ (.int .i64 0)).heap[i]? = w.heap[i]? := fun i hi => by
    rw [Below.heap_setCell _ _ _ _ hi, Below.heap_setCell _ _ _ _ hi, Below.heap_setCell _ _ _ _ hi]
  have hz : (((w.setCell ⟨sb, 4, none⟩ (.bool false)).setCell ⟨sb, 2, none⟩ (.bool false)).setCell ⟨sb, 3, none⟩ (.int .i64 0)).heap.size = w.heap.size := by simp [World.setCell]
  refine ⟨⟨?_, ?_, h.up, fun p hp => ?_, h.apart, h.inS, fun i hi => by rw [hz]; exact h.low i hi⟩, ⟨rfl, rfl, rfl, by rw [hz]; exact Nat.le_refl _, fun i _ hn => hk i (fun e => hn (by rw [e]; exact h.inS))⟩⟩
  · simp [World.setCell, Array.getElem?_modify, h.blk]
  · rcases h.map with h0 | ⟨b, e, ho, hb⟩
    · exact .inl h0
    · exact .inr ⟨b, e, OwnsM.same ho (hk b (h.map_ne ⟨_, ho⟩)), hb⟩
  · exact (h.file p hp).same fun g hg => hk g (fun e => (h.file p hp).ne_sb h (by rw [hg, e]))

/-- What Restart leaves. -/
def RestartRes (S : Nat → Prop) (w : World) (base sb : Nat) (mv : Option Nat) (room : Int) (ps : List (Int × List Nat × Nat)) (e : Ending) (w' : World) : Prop :=
  e = .returned (.tuple #[]) ∧ ∃ S' fs', DiskAt w' S' base sb mv room fs' false 0 false ∧ plain fs' = ps ∧ Fr S w w' ∧ Wider S S' w

set_option maxRecDepth 100000 in
set_option maxHeartbeats 1000000 in
theorem restart_any (h : DiskAt w S base sb mv room fs armed left stopped) (keep : Int) (hkeep : -9223372036854775808 ≤ keep ∧ keep ≤ 9223372036854775807) (hlen : fs.length ≤ 1000000000000)
    (hsz : ∀ p ∈ plain fs, p.2.1.length ≤ 100000000000000 ∧ p.2.2 ≤ p.2.1.length ∧ (Lit.int .i64 p.1).wf = true) (hbase : base ≤ w.heap.size) :
    Calls Tryz.prog 16 #[.pointer (some ⟨sb, 0, none⟩), .int .i64 keep] w (RestartRes S w base sb mv room ((plain fs).map (rst keep))) := by
  have hup : (plain fs).Pairwise (fun x y => x.1 < y.1) := List.pairwise_map.2 (h.up.imp fun h => h)
  have HU := Lib.hid hup
  have HSZ := Lib.hid hsz
  have HD0 := Lib.hid h
  clear h hup hsz
  go_enter Tryz.func16, Tryz.ntmps16
  go_wp2_with fail
  refine (names_any HD0.out hlen).mono ?_
  rintro e w0 ⟨v, rfl, ho, hb0⟩
  obtain ⟨ks, hks⟩ : ∃ ks, ks = fs.map (·.1) := ⟨_, rfl⟩
  rw [← hks] at ho
  obtain ⟨nk, hnk⟩ : ∃ nk, nk = ks.length := ⟨_, rfl⟩
  have hnl : nk ≤ 1000000000000 := by rw [hnk, hks, List.length_map]; exact hlen
  rw [← hnk] at ho
  obtain ⟨A, c, rfl, hc1, hc2, hrd, _⟩ := ho.form
  have hz0 := hb0.size
  have HB0 := Lib.hid hb0
  have HR := Lib.hid hrd
  have HKS := Lib.hid hks
  have HNK := Lib.hid hnk
  have hown : ∀ g, (Value.slice A nk c).ownBlock = some g → w.heap.size ≤ g := ho.rowLt
  have HO := Lib.hid ho
  clear ho hb0 hrd hks hnk
  go_wp2
  go_loopw [11] (fun i wr => ∃ (j : Nat) (S' : Nat → Prop) (fs' : List (Int × FV)), i = .int .i64 (j : Int) ∧ j ≤ nk ∧ DiskAt wr S' base sb mv room fs' armed left stopped ∧ plain fs' = partly keep (ks.take j) (plain fs) ∧ Fr S w0 wr ∧ Wider S S' w0)
    (fun i _ => nk - (intOf i).toNat)
  case atStart => exact ⟨0, S, fs, rfl, by omega, HD0.out.below HB0.out, by simp [partly_nil], Fr.refl _ _, Wider.refl _ _⟩
  case round =>
    obtain ⟨j, S', fs', rfl, hj, hd, hpl, hfr, hwd⟩ := hrel
    by_cases hlt : j < nk
    · -- the next name's file
      have hrw := (HO.out.fr hfr (fun g hg hS => by have := (HD0.out.low g hS).2; have := hown g hg; omega)).form
      obtain ⟨A', c', he, _, _, hrd, _⟩ := hrw
      injection he with he1 he2 he3
      subst he1 he3
      obtain ⟨ad, rfl, hcell⟩ := hrd.at_ hlt
      obtain ⟨k, hk⟩ : ∃ k, k = ks.getD j 0 := ⟨_, rfl⟩
      rw [← hk] at hcell
      have hjl : j < ks.length := by rw [← HNK.out]; exact hlt
      have hkm : k ∈ ks := by rw [hk]; simp only [List.getD, List.getElem?_eq_getElem hjl, Option.getD_some]; exact List.getElem_mem hjl
      have htk : ks.take (j + 1) = ks.take j ++ [k] := by rw [List.take_succ_eq_append_getElem hjl, hk]; simp [List.getD, hjl]
      have hks2 : ks = (plain fs).map (·.1) := by rw [plain_keys]; exact HKS.out
      have hkn : k ∉ ks.take j := fun hm => by
        have hp : ks.Pairwise (· < ·) := by rw [hks2]; exact List.pairwise_map.2 (HU.out.imp fun h => h)
        obtain ⟨i, hi, he⟩ := List.getElem_of_mem hm
        rw [List.length_take] at hi
        rw [List.getElem_take] at he
        have := List.pairwise_iff_getElem.1 hp i j (by omega) hjl (by omega)
        rw [he, hk] at this
        simp only [List.getD, List.getElem?_eq_getElem hjl, Option.getD_some] at this
        omega
      obtain ⟨⟨k', zs, s⟩, hqm, hqk⟩ : ∃ q, q ∈ plain fs ∧ q.1 = k := by
        rw [hks2] at hkm
        obtain ⟨q, hq, he⟩ := List.mem_map.1 hkm
        exact ⟨q, hq, he⟩
      simp only at hqk
      subst hqk
      obtain ⟨hs1, hs2, hwf⟩ := HSZ.out _ hqm
      simp only at hs1 hs2 hwf
      obtain ⟨v, hfm⟩ := plain_mem (by rw [hpl]; exact partly_mem (keep := keep) hqm hkn : (k', zs, s) ∈ plain fs')
      have hfg := fget_mem hd.up hfm
      have hok := hd.file _ hfm
      obtain ⟨A1, c1, hv, hnc, _, hr1, _⟩ := hok.own.form
      dsimp only at hv hnc hr1
      subst hv
      obtain ⟨b, rfl, hob, hSb⟩ := hd.mapped hfg
      obtain ⟨n1, hn1⟩ : ∃ n1, n1 = zs.length := ⟨_, rfl⟩
      obtain ⟨o, ho⟩ : ∃ o, o = n1 - s := ⟨_, rfl⟩
      obtain ⟨r, hr⟩ : ∃ r, r = (keep % ((o : Int) + 1)).toNat := ⟨_, rfl⟩
      obtain ⟨t, ht⟩ : ∃ t, t = s + r := ⟨_, rfl⟩
      have hsub : (n1 : Int) - (s : Int) = (o : Int) := by omega
      have hmod : keep % ((o : Int) + 1) = (r : Int) := by rw [hr]; have := Int.emod_nonneg keep (show (o : Int) + 1 ≠ 0 by omega); omega
      have hro : r ≤ o := by have := Int.emod_lt_of_pos keep (show 0 < (o : Int) + 1 by omega); omega
      have hadd : (s : Int) + (r : Int) = (t : Int) := by omega
      have htn : t ≤ n1 := by omega
      have hrst : rst keep (k', zs, s) = (k', zs.take t, t) := by rw [ht, hr, ho, hn1]; rfl
      rw [← hn1] at hnc hr1 hs1
      have hl := hd.look hwf (f := ⟨.slice A1 n1 c1, zs, s⟩) (by rw [hfg, ← hn1]; rfl)
      dsimp only at hl
      have d1 := hd.c1
      have HD := Lib.hid hd
      have HFG := Lib.hid hfg
      have HOK := Lib.hid hok
      have HOB := Lib.hid hob
      have HR1 := Lib.hid hr1
      have HN1 := Lib.hid hn1
      have HTK := Lib.hid htk
      have HKN := Lib.hid hkn
      have HPL := Lib.hid hpl
      have HFM := Lib.hid hfm
      have HQM := Lib.hid hqm
      have HRST := Lib.hid hrst
      have hzr := hfr.size
      have HFR := Lib.hid hfr
      have HWD := Lib.hid hwd
      clear hd hfg hok hob hr1 hn1 ho hr ht htk hkn hpl hfm hqm hrst hfr hwd hkm hks2 hk hrd
      go_wp2
      have hb1 : Below wr.heap.size wr (wr.alloc (.cells #[.slice A1 n1 c1, .int .i64 (s : Int)] 79)) := (Below.refl _ _).alloc (Nat.le_refl _) _
      have hA0 : (wr.alloc (.cells #[.slice A1 n1 c1, .int .i64 (s : Int)] 79)).cell? ⟨wr.heap.size, 0, none⟩ = some (.slice A1 n1 c1) := by simp
      have hA1 : (wr.alloc (.cells #[.slice A1 n1 c1, .int .i64 (s : Int)] 79)).cell? ⟨wr.heap.size, 1, none⟩ = some (.int .i64 (s : Int)) := by simp
      generalize (wr.alloc (.cells #[.slice A1 n1 c1, .int .i64 (s : Int)] 79)) = wA at *
      have HB1 := Lib.hid hb1
      have hcA : wA.cell? ⟨sb, 1, none⟩ = some (.map (some b)) := (HD.out.below hb1).c1
      have HRA := Lib.hid (HR1.out.below hb1)
      have hzA := hb1.size
      obtain ⟨ys, hys⟩ : ∃ ys, zs.take t = ys := ⟨_, rfl⟩
      have HYS := Lib.hid hys
      clear hl d1 hb1 hys
      have hwr1 : IntKind.i64.wrap ((o : Int) + 1) = (o : Int) + 1 := wrap64_in (by omega) (by omega)
      have hwr2 : IntKind.i64.wrap (t : Int) = (t : Int) := wrap64_in (by omega) (by omega)
      have HA0 := Lib.hid hA0
      have HA1 := Lib.hid hA1
      have hSA : wA.drew.cell? ⟨sb, 1, none⟩ = some (.map (some b)) ∧ wA.drew.cell? ⟨wr.heap.size, 0, none⟩ = some (.slice A1 n1 c1) ∧ wA.drew.cell? ⟨wr.heap.size, 1, none⟩ = some (.int .i64 (s : Int)) := ⟨hcA, hA0, hA1⟩
      go_region_held3 (fun w' => w'.cell? ⟨sb, 1, none⟩ = some (.map (some b)) ∧ w'.cell? ⟨wr.heap.size, 0, none⟩ = some (.slice A1 n1 c1) ∧ w'.cell? ⟨wr.heap.size, 1, none⟩ = some (.int .i64 (s : Int))) (first | exact hS2 | exact hS1 | exact hSA)
        (first
          | (go_at_call 43; refine (modulo_at _ _ r _ hkeep (by omega) hmod).mono ?_; rintro e w1 ⟨rfl, rfl⟩)
          | (go_at_call 42; refine (cut_any A1 n1 c1 zs ys (s : Int) t _ HRA.out.drew (by omega) (by omega) htn HYS.out).mono ?_; rintro e w1 ⟨v1, rfl, ho1, hb1⟩
             obtain ⟨A2, c2, rfl, _⟩ := ho1.form
             have hw1 : w1.cell? ⟨sb, 1, none⟩ = some (.map (some b)) := (((HD.out.below HB1.out).drew).below hb1).c1
             have hob1 : OwnsM w1 b fs'.length fs' := OwnsM.same HOB.out ((HB1.out.drew.trans (hb1.mono hzA)).block b HOB.out.lt)
             have hS1 : w1.cell? ⟨sb, 1, none⟩ = some (.map (some b)) ∧ w1.cell? ⟨wr.heap.size, 0, none⟩ = some (.slice A1 n1 c1) ∧ w1.cell? ⟨wr.heap.size, 1, none⟩ = some (.int .i64 (s : Int)) :=
               ⟨hw1, (hb1.cell (World.block_lt_of_cell? _ _ hSA.2.1)).trans hSA.2.1, (hb1.cell (World.block_lt_of_cell? _ _ hSA.2.2)).trans hSA.2.2⟩
             obtain ⟨w2, hst, hown2, hturn⟩ := OwnsM.store hob1 (by have h1 := congrArg List.length HPL.out; simp only [plain_len, partly, List.length_map] at h1; omega) hwf ⟨.slice A2 t c2, ys, t⟩
             dsimp only at hst
             have hbr : ∀ a : Addr, ∀ v, w1.cell? a = some v → w2.cell? a = some v := fun a v hv => hturn.grown.cell hv (fun e => by
               obtain ⟨es, clock, hh, _⟩ := hob1
               injection e with e
               simp [World.cell?, e, hh] at hv)
             have hS2 : w2.cell? ⟨sb, 1, none⟩ = some (.map (some b)) ∧ w2.cell? ⟨wr.heap.size, 0, none⟩ = some (.slice A1 n1 c1) ∧ w2.cell? ⟨wr.heap.size, 1, none⟩ = some (.int .i64 (s : Int)) :=
               ⟨hbr _ _ hS1.1, hbr _ _ hS1.2.1, hbr _ _ hS1.2.2⟩
             have HO1 := Lib.hid ho1
             have HB2 := Lib.hid hb1
             have HOB1 := Lib.hid hob1
             have HW2 := Lib.hid hown2
             have HT := Lib.hid hturn
             clear ho1 hb1 hob1 hown2 hturn hbr))
      clear hS1 hS2 hSA hst hw1 hcA hA0 hA1
      go_wp2
      go_roundw
      case rel =>
        have hsA := HB1.out.size
        have hdA := (HD.out.below HB1.out).drew
        have hyl : ys.length = t := by rw [← HYS.out, List.length_take, ← HN1.out]; omega
        have hg : wA.drew.grownBy w1 ((fget fs' k').getD FV.zero).v.ownBlock := ⟨HB2.out.os, HB2.out.tape, HB2.out.output, HB2.out.size, fun i hi _ => HB2.out.block i hi⟩
        have hbA : base ≤ wA.drew.heap.size := by show base ≤ wA.heap.size; omega
        obtain ⟨S2, hd2, hfr2, hwd2⟩ := hdA.stored (k := k') (f := ⟨.slice A2 t c2, ys, t⟩) HOB1.out hg (by rw [hyl]; exact HO1.out.less hbA) (by simp only; omega) (fun x hx => HOK.out.lt x (by rw [← HYS.out] at hx; exact List.mem_of_mem_take hx)) (.inr fun g hg' => HO1.out.rowLt g hg') HW2.out hSb HT.out hbA
        have hfrA : Fr S' wr wA.drew := Fr.of_below HB1.out.drew
        have hfr3 : Fr S' wr w2 := hfrA.trans hfr2 (Wider.refl _ _)
        refine ⟨j + 1, S2, _, by go_num, by omega, hd2, ?_, HFR.out.trans hfr3 HWD.out, ?_⟩
        · rw [plain_put HD.out.up HFM.out, HPL.out, HTK.out]
          have := partly_step (keep := keep) HU.out HQM.out rfl HKN.out
          rw [HRST.out, HYS.out] at this
          exact this
        · refine HWD.out.trans (fun i hi => (hwd2 i hi).imp id (fun h => ?_)) hzr
          have : wA.drew.heap.size = wA.heap.size := rfl
          omega
      case measure => simp [intOf]; omega
    · -- all names were met
      have he : ks.take j = ks := List.take_of_length_le (by rw [← HNK.out]; omega)
      rw [he, HKS.out, ← plain_keys, partly_all] at hpl
      have c2 := hd.c2
      have c3 := hd.c3
      have c4 := hd.c4
      have cf := hd.fz
      obtain ⟨hdc, hfc⟩ := disk_calm hd
      have HDC := Lib.hid hdc
      have HFC := Lib.hid hfc
      have HPL := Lib.hid hpl
      have HFR := Lib.hid hfr
      have HWD := Lib.hid hwd
      have hjn : j = nk := by omega
      subst hjn
      clear hd hdc hfc hpl hfr hwd he
      go_wp2
      go_end0
      refine ⟨rfl, S', fs', HDC.out, HPL.out, ((Fr.of_below HB0.out).trans HFR.out (Wider.refl _ _)).trans HFC.out (fun i hi => (HWD.out i hi).imp id (fun h => by omega)), fun i hi => (HWD.out i hi).imp id (fun h => by omega)⟩
end
end Go.Proofs.YtlakkhhibdcjaaaGreatDoor

namespace Go.Proofs.YtlakkhhibdcjaaaGreatDoor
open Go Go.RowKit Go.Maps
set_option linter.unusedVariables false

abbrev PF := Int × List Nat × Nat
def pget (ps : List PF) (k : Int) : Option (List Nat × Nat) := (ps.find? (fun p => p.1 == k)).map (·.2)
def pins (x : PF) : List PF → List PF
  | [] => [x]
  | y :: r => if x.1 < y.1 then x :: y :: r else y :: pins x r
def pdel (ps : List PF) (k : Int) : List PF := ps.filter fun p => !(p.1 == k)
def pput (ps : List PF) (k : Int) (zs : List Nat) (s : Nat) : List PF := pins (k, zs, s) (pdel ps k)
def ptotal (ps : List PF) : Nat := (ps.map fun p => p.2.1.length).sum

theorem plain_get (k : Int) : ∀ fs : List (Int × FV), pget (plain fs) k = (fget fs k).map fun f => (f.zs, f.safe)
  | [] => rfl
  | x :: r => by
    have ih := plain_get k r
    simp only [pget, plain, fget, List.map_cons, List.find?_cons] at ih ⊢
    have e : (pv x).1 = x.1 := rfl
    rw [e]
    cases h : (x.1 == k)
    · exact ih
    · rfl
theorem plain_ins (x : Int × FV) : ∀ fs : List (Int × FV), plain (fins x fs) = pins (pv x) (plain fs)
  | [] => rfl
  | y :: r => by
    have ih := plain_ins x r
    have e1 : (pv x).1 = x.1 := rfl
    have e2 : (pv y).1 = y.1 := rfl
    unfold fins
    show _ = pins (pv x) (pv y :: plain r)
    unfold pins
    rw [e1, e2]
    split
    · rfl
    · show pv y :: plain (fins x r) = _
      rw [ih]
theorem plain_del (fs : List (Int × FV)) (k : Int) : plain (fdel fs k) = pdel (plain fs) k := by
  simp only [plain, fdel, pdel, List.filter_map]
  rfl
theorem plain_fput (fs : List (Int × FV)) (k : Int) (f : FV) : plain (fput fs k f) = pput (plain fs) k f.zs f.safe := by
  rw [fput, plain_ins, plain_del]; rfl
theorem total_p (fs : List (Int × FV)) : total fs = ptotal (plain fs) := total_plain fs

/-- The struct at sb is a disk with these files, neither armed nor stopped; all of it lies in the blocks S. -/
def DiskP (w : World) (S : Nat → Prop) (base sb : Nat) (room : Int) (ps : List PF) : Prop := ∃ mv fs left, DiskAt w S base sb mv room fs false left false ∧ plain fs = ps
/-- What a call leaves. -/
def Step (S : Nat → Prop) (w : World) (base sb : Nat) (room : Int) (ps : List PF) (w' : World) : Prop := ∃ S', DiskP w' S' base sb room ps ∧ Fr S w w' ∧ Wider S S' w

section
variable {S : Nat → Prop} {w w' : World} {base sb : Nat} {room : Int} {ps : List PF}

theorem DiskP.below (h : DiskP w S base sb room ps) (hb : Below w.heap.size w w') : DiskP w' S base sb room ps := by
  obtain ⟨mv, fs, left, hd, hp⟩ := h
  exact ⟨mv, fs, left, hd.below hb, hp⟩
theorem DiskP.alloc (h : DiskP w S base sb room ps) (o : Obj) : DiskP (w.alloc o) S base sb room ps := h.below ((Below.refl _ _).alloc (Nat.le_refl _) _)
theorem DiskP.low (h : DiskP w S base sb room ps) : ∀ i, S i → base ≤ i ∧ i < w.heap.size := by
  obtain ⟨mv, fs, left, hd, hp⟩ := h
  exact hd.low
theorem DiskP.lt (h : DiskP w S base sb room ps) {k : Int} {zs : List Nat} {s : Nat} (hm : (k, zs, s) ∈ ps) : (∀ x ∈ zs, x < 256) ∧ s ≤ zs.length := by
  obtain ⟨mv, fs, left, hd, rfl⟩ := h
  obtain ⟨v, hv⟩ := plain_mem hm
  exact ⟨(hd.file _ hv).lt, (hd.file _ hv).safe⟩
/-- What a step leaves below the disk is as it was. -/
theorem Step.below (h : Step S w base sb room ps w') (hd : ∀ i, S i → base ≤ i) (hb : base ≤ w.heap.size) : Below base w w' := by
  obtain ⟨S', _, hf, _⟩ := h
  exact hf.below hd hb

theorem of_ok (room r1 r2 : Int) (w : World) (h1 : max room 0 = r1) (h2 : min r1 262144 = r2) :
    Calls Tryz.prog 8 #[.int .i64 room] w fun e w' => e = .returned (.pointer (some ⟨w.heap.size, 0, none⟩)) ∧ DiskP w' (fun i => i = w.heap.size) w.heap.size w.heap.size r2 [] ∧ Below w.heap.size w w' :=
  (of_any room r1 r2 w h1 h2).mono fun e w' ⟨he, hw⟩ => ⟨he, by subst hw; exact ⟨none, [], 0, disk_new w r2, rfl⟩, by subst hw; exact (Below.refl _ _).alloc (Nat.le_refl _) _⟩

theorem append_ok (h : DiskP w S base sb room ps) {k : Int} (hk : (Lit.int .i64 k).wf = true) (B : Option Addr) (m d : Nat) (ys : List Nat) (hr : Rd .u8 w B m (ints ys)) (hy : ∀ x ∈ ys, x < 256) {zs : List Nat} {s : Nat}
    (hg : (pget ps k).getD ([], 0) = (zs, s)) (hroom : room ≤ 262144) (hfit : (ptotal ps : Int) + m ≤ room) (hlen : ps.length < 1000) (hbase : base ≤ w.heap.size) :
    Calls Tryz.prog 24 #[.pointer (some ⟨sb, 0, none⟩), .int .i64 k, .slice B m d] w fun e w' => e = .returned .nilIface ∧ Step S w base sb room (pput ps k (zs ++ ys) s) w' := by
  obtain ⟨mv, fs, left, hd, rfl⟩ := h
  rw [plain_len] at hlen
  rw [← total_p] at hfit
  refine (append_fits hd hk B m d ys hr hy rfl hroom hfit (by omega) hbase).mono ?_
  rintro e w' ⟨he, S', mv', f', hd', e1, e2, hfr, hwd⟩
  refine ⟨he, S', ⟨mv', _, left, hd', ?_⟩, hfr, hwd⟩
  rw [plain_get] at hg
  rw [plain_fput, e1, e2]
  cases hf : fget fs k with
  | none => rw [hf] at hg; simp at hg; obtain ⟨rfl, rfl⟩ := hg; rfl
  | some f => rw [hf] at hg; simp at hg; obtain ⟨rfl, rfl⟩ := hg; rfl

theorem sync_ok (h : DiskP w S base sb room ps) {k : Int} (hk : (Lit.int .i64 k).wf = true) {zs : List Nat} {s : Nat} (hg : pget ps k = some (zs, s)) (hlen : ps.length < 1000) (hbase : base ≤ w.heap.size) :
    Calls Tryz.prog 55 #[.pointer (some ⟨sb, 0, none⟩), .int .i64 k] w fun e w' => e = .returned .nilIface ∧ Step S w base sb room (pput ps k zs zs.length) w' := by
  obtain ⟨mv, fs, left, hd, rfl⟩ := h
  rw [plain_len] at hlen
  rw [plain_get] at hg
  cases hf : fget fs k with
  | none => rw [hf] at hg; simp at hg
  | some f =>
    rw [hf] at hg; simp at hg; obtain ⟨rfl, rfl⟩ := hg
    refine (sync_yes hd hk hf (by omega) hbase).mono ?_
    rintro e w' ⟨he, S', mv', f', hd', e1, e2, hfr, hwd⟩
    exact ⟨he, S', ⟨mv', _, left, hd', by rw [plain_fput, e1, e2]⟩, hfr, hwd⟩

theorem read_ok (h : DiskP w S base sb room ps) {k : Int} (hk : (Lit.int .i64 k).wf = true) {zs : List Nat} {s : Nat} {t : Bool} (hg : (pget ps k).getD ([], 0) = (zs, s)) (ht : (pget ps k).isSome = t) (hn : zs.length ≤ 200000000000000) :
    Calls Tryz.prog 51 #[.pointer (some ⟨sb, 0, none⟩), .int .i64 k] w (ReadRes w zs t) := by
  obtain ⟨mv, fs, left, hd, rfl⟩ := h
  rw [plain_get] at hg ht
  have e : ((fget fs k).getD FV.zero).zs = zs := by
    cases hf : fget fs k with
    | none => rw [hf] at hg; simp at hg; obtain ⟨rfl, rfl⟩ := hg; rfl
    | some f => rw [hf] at hg; simp at hg; obtain ⟨rfl, rfl⟩ := hg; rfl
  have := read_any hd hk (f := (fget fs k).getD FV.zero) rfl (t := t) (by rw [← ht]; cases fget fs k <;> rfl) (by rw [e]; exact hn)
  rw [e] at this
  exact this

theorem restart_ok (h : DiskP w S base sb room ps) (keep : Int) (hkeep : -9223372036854775808 ≤ keep ∧ keep ≤ 9223372036854775807) (hlen : ps.length < 1000) (hn : ∀ p ∈ ps, p.2.1.length ≤ 100000000000000 ∧ (Lit.int .i64 p.1).wf = true) (hbase : base ≤ w.heap.size) :
    Calls Tryz.prog 16 #[.pointer (some ⟨sb, 0, none⟩), .int .i64 keep] w fun e w' => e = .returned (.tuple #[]) ∧ Step S w base sb room (ps.map (rst keep)) w' := by
  have h' := h
  obtain ⟨mv, fs, left, hd, rfl⟩ := h
  rw [plain_len] at hlen
  refine (restart_any hd keep hkeep (by omega) (fun p hp => ⟨(hn p hp).1, (h'.lt (k := p.1) (zs := p.2.1) (s := p.2.2) hp).2, (hn p hp).2⟩) hbase).mono ?_
  rintro e w' ⟨he, S', fs', hd', e1, hfr, hwd⟩
  exact ⟨he, S', ⟨mv, fs', 0, hd', e1⟩, hfr, hwd⟩

theorem names_ok (h : DiskP w S base sb room ps) (hlen : ps.length < 1000) : Calls Tryz.prog 41 #[.pointer (some ⟨sb, 0, none⟩)] w (NamesRes w (ps.map (·.1))) := by
  obtain ⟨mv, fs, left, hd, rfl⟩ := h
  rw [plain_len] at hlen
  rw [plain_keys]
  exact names_any hd (by omega)
end
end Go.Proofs.YtlakkhhibdcjaaaGreatDoor

namespace Go.Proofs.YtlakkhhibdcjaaaGreatDoor
open Go Go.RowKit Go.Maps
set_option linter.unusedVariables false

theorem rd_row {w : World} {t : TypeId} {fr : Nat × Nat} (xs : List Nat) : Rd .u8 (w.alloc (.cells (xs.map fun x : Nat => Value.int .u8 (x : Int)).toArray t fr)) (some ⟨w.heap.size, 0, none⟩) xs.length (ints xs) := by
  refine ⟨ints_length xs, fun _ => ⟨_, rfl, fun j hj => ?_⟩⟩
  have e : (⟨w.heap.size, 0, none⟩ : Addr).add j = ⟨w.heap.size, j, none⟩ := by unfold Addr.add; split <;> simp_all
  rw [e, ints_getD]
  have hh := heap_alloc_new w (.cells (xs.map fun x : Nat => Value.int .u8 (x : Int)).toArray t fr)
  unfold World.cell?
  simp only [hh]
  simp [hj, List.getD]

theorem wf3 (k : Nat) (h : k < 1000) : (Lit.int .i64 (k : Int)).wf = true := by
  have e1 : IntKind.i64.min = -9223372036854775808 := rfl
  have e2 : IntKind.i64.max = 9223372036854775807 := rfl
  simp only [Lit.wf, Bool.and_eq_true, decide_eq_true_eq]
  omega

section
variable {S : Nat → Prop} {w w' : World} {base sb : Nat} {room : Int} {ps ps' : List PF}
/-- A step of a disk, for whoever has nothing above its base but the disk. -/
theorem Step.calm (h : Step S w base sb room ps' w') (hd : DiskP w S base sb room ps) (hb : base ≤ w.heap.size) : ∃ S', DiskP w' S' base sb room ps' ∧ Below base w w' ∧ base ≤ w'.heap.size := by
  obtain ⟨S', hd', hf, _⟩ := h
  exact ⟨S', hd', hf.below (fun i hi => (hd.low i hi).1) hb, Nat.le_trans hb hf.size⟩
end
end Go.Proofs.YtlakkhhibdcjaaaGreatDoor

namespace Go.Proofs.YtlakkhhibdcjaaaGreatDoor
open Go Go.RowKit Go.Maps
set_option linter.unusedVariables false

/-- Nothing but the struct's block has turned, and no block is new. -/
structure Chg (sb : Nat) (w w' : World) : Prop where
  os : w'.os = w.os
  tape : w'.tape = w.tape
  output : w'.output = w.output
  size : w'.heap.size = w.heap.size
  block : ∀ i, i ≠ sb → w'.heap[i]? = w.heap[i]?
theorem Chg.refl (sb : Nat) (w : World) : Chg sb w w := ⟨rfl, rfl, rfl, rfl, fun _ _ => rfl⟩
theorem Chg.fr {sb : Nat} {w w' : World} (h : Chg sb w w') {S : Nat → Prop} (hs : S sb) : Fr S w w' := ⟨h.os, h.tape, h.output, Nat.le_of_eq h.size.symm, fun i _ hn => h.block i (fun e => hn (by rw [e]; exact hs))⟩
theorem Chg.cell {sb : Nat} {w w' : World} (h : Chg sb w w') {p : Addr} {v : Value} (hp : w.cell? p = some v) (hn : p.block ≠ sb) : w'.cell? p = some v := (World.cell?_of_block (w := w) (h.block p.block hn)).trans hp
theorem chg_set (sb j : Nat) (w : World) (v : Value) : Chg sb w (w.setCell ⟨sb, j, none⟩ v) := ⟨rfl, rfl, rfl, by simp [World.setCell], fun i hi => Below.heap_setCell _ _ _ _ hi⟩

/-- What counting a change leaves of how many are left. -/
def lessLeft (armed : Bool) (left : Nat) : Nat := if armed then left - 1 else left
/-- Does the disk stop at the next change? -/
def hits (armed : Bool) (left : Nat) : Bool := armed && left == 0

section
variable {S : Nat → Prop} {w w' : World} {base sb b : Nat} {mv : Option Nat} {room : Int} {left : Nat} {fs : List (Int × FV)} {armed stopped : Bool} {l : Int}

theorem DiskAt.turn {armed' stopped' : Bool} {l' : Int} (h : DiskAt w S base sb mv room fs armed l stopped) (hc : Chg sb w w')
    (hb : w'.heap[sb]? = some (.cells #[.int .i64 room, .map mv, .bool armed', .int .i64 l', .bool stopped'] 61 (0, 0))) : DiskAt w' S base sb mv room fs armed' l' stopped' := by
  refine ⟨hb, ?_, h.up, fun p hp => ?_, h.apart, h.inS, fun i hi => by rw [hc.size]; exact h.low i hi⟩
  · rcases h.map with h0 | ⟨b, e, ho, hb⟩
    · exact .inl h0
    · exact .inr ⟨b, e, OwnsM.same ho (hc.block b (h.map_ne ⟨_, ho⟩)), hb⟩
  · exact (h.file p hp).same fun g hg => hc.block g (fun e => (h.file p hp).ne_sb h (by rw [hg, e]))

/-- The next change is done. -/
theorem change_go (h : DiskAt w S base sb mv room fs armed (left : Int) false) (hh : hits armed left = false) (hl : left ≤ 4611686018427387904) :
    Calls Tryz.prog 47 #[.pointer (some ⟨sb, 0, none⟩)] w fun e w' => e = .returned .nilIface ∧ DiskAt w' S base sb mv room fs armed (lessLeft armed left : Int) false ∧ Chg sb w w' := by
  have c2 := h.c2
  have c3 := h.c3
  have cf := h.fz 3
  cases armed with
  | false =>
    have HD := Lib.hid h
    clear h
    go_enter Tryz.func47, Tryz.ntmps47
    go_wp2
    go_ret
    exact ⟨rfl, HD.out, Chg.refl _ _⟩
  | true =>
    have h0 : left ≠ 0 := by simpa [hits] using hh
    have e0 : ((left : Int) == 0) = false := by simp; omega
    have e1 : (left : Int) - 1 = ((left - 1 : Nat) : Int) := by omega
    have hb : (w.setCell ⟨sb, 3, none⟩ (.int .i64 ((left - 1 : Nat) : Int))).heap[sb]? = some (.cells #[.int .i64 room, .map mv, .bool true, .int .i64 ((left - 1 : Nat) : Int), .bool false] 61 (0, 0)) := by
      simp [World.setCell, Array.getElem?_modify, h.blk]
    have HD := Lib.hid (h.turn (chg_set sb 3 w _) hb)
    obtain ⟨l1, hl1⟩ : ∃ l1, l1 = left - 1 := ⟨_, rfl⟩
    have hll : lessLeft true left = l1 := by rw [hl1]; rfl
    rw [← hl1] at e1 HD
    rw [hll]
    clear h hb hl1 hll hh
    go_enter Tryz.func47, Tryz.ntmps47
    go_wp2
    go_ret
    exact ⟨rfl, HD.out, chg_set _ _ _ _⟩

/-- The disk stops. -/
theorem change_hit (h : DiskAt w S base sb mv room fs armed (left : Int) false) (hh : hits armed left = true) :
    Calls Tryz.prog 47 #[.pointer (some ⟨sb, 0, none⟩)] w fun e w' => e = .returned (.iface 39 (.int .i64 12)) ∧ DiskAt w' S base sb mv room fs armed (left : Int) true ∧ Chg sb w w' := by
  have c2 := h.c2
  have c3 := h.c3
  have c4 := h.c4
  have cf := h.fz 4
  cases armed with
  | false => simp [hits] at hh
  | true =>
    have h0 : left = 0 := by simpa [hits] using hh
    subst h0
    have hb : (w.setCell ⟨sb, 4, none⟩ (.bool true)).heap[sb]? = some (.cells #[.int .i64 room, .map mv, .bool true, .int .i64 ((0 : Nat) : Int), .bool true] 61 (0, 0)) := by
      simp [World.setCell, Array.getElem?_modify, h.blk]
    have HD := Lib.hid (h.turn (chg_set sb 4 w _) hb)
    clear h hb hh
    go_enter Tryz.func47, Tryz.ntmps47
    go_wp2
    go_ret
    exact ⟨rfl, HD.out, chg_set _ _ _ _⟩

set_option maxRecDepth 100000 in
theorem find_stop (h : DiskAt w S base sb mv room fs armed l true) (k : Int) :
    Calls Tryz.prog 57 #[.pointer (some ⟨sb, 0, none⟩), .int .i64 k] w (FindRes w (.slice none 0 0) 0 (.iface 39 (.int .i64 12))) := by
  have c4 : ∀ o, (w.alloc o).cell? ⟨sb, 4, none⟩ = some (.bool true) := fun o => (h.alloc o).c4
  clear h
  go_enter Tryz.func57, Tryz.ntmps57
  go_wp2
  refine bodyPost_ret (v := .tuple #[.agg #[.slice none 0 0, .int .i64 0], .iface 39 (.int .i64 12)]) ?_ rfl ⟨rfl, (Below.refl _ w).alloc (Nat.le_refl _) _⟩
  rw [results_cell_tmp (p := 4) (u := 5) (ty := 79) rfl]
  have hh := file_load (w.alloc (.cells #[.slice none 0 0, .int .i64 0] 79)) w.heap.size (.slice none 0 0) (.int .i64 0) (heap_alloc_new _ _)
  simp [asAddr, hh, Result.andThen]
end
end Go.Proofs.YtlakkhhibdcjaaaGreatDoor

namespace Go.Proofs.YtlakkhhibdcjaaaGreatDoor
open Go Go.RowKit Go.Maps
set_option linter.unusedVariables false

/-- How a disk is: whether it is armed, how many changes it does still, whether it has stopped. -/
structure DS where
  armed : Bool
  left : Nat
  stopped : Bool
def DS.hit (s : DS) : Bool := hits s.armed s.left
/-- .. behind a change that is done; behind one at which it stops; behind either. -/
def DS.go (s : DS) : DS := ⟨s.armed, lessLeft s.armed s.left, s.stopped⟩
def DS.stop (s : DS) : DS := ⟨s.armed, s.left, true⟩
def DS.next (s : DS) : DS := if s.hit then s.stop else s.go
/-- What a change tells. -/
def DS.err (s : DS) : Value := if s.hit then .iface 39 (.int .i64 12) else .nilIface

def DiskQ (w : World) (S : Nat → Prop) (base sb : Nat) (room : Int) (ps : List PF) (s : DS) : Prop := ∃ mv fs, DiskAt w S base sb mv room fs s.armed (s.left : Int) s.stopped ∧ plain fs = ps
def StepQ (S : Nat → Prop) (w : World) (base sb : Nat) (room : Int) (ps : List PF) (s : DS) (w' : World) : Prop := ∃ S', DiskQ w' S' base sb room ps s ∧ Fr S w w' ∧ Wider S S' w

section
variable {S : Nat → Prop} {w w' : World} {base sb b : Nat} {mv : Option Nat} {room : Int} {fs : List (Int × FV)} {ps : List PF} {s : DS}

theorem DiskQ.below (h : DiskQ w S base sb room ps s) (hb : Below w.heap.size w w') : DiskQ w' S base sb room ps s := by
  obtain ⟨mv, fs, hd, hp⟩ := h
  exact ⟨mv, fs, hd.below hb, hp⟩
theorem DiskQ.alloc (h : DiskQ w S base sb room ps s) (o : Obj) : DiskQ (w.alloc o) S base sb room ps s := h.below ((Below.refl _ _).alloc (Nat.le_refl _) _)
theorem DiskQ.low (h : DiskQ w S base sb room ps s) : ∀ i, S i → base ≤ i ∧ i < w.heap.size := by
  obtain ⟨mv, fs, hd, hp⟩ := h
  exact hd.low
theorem DiskQ.lt (h : DiskQ w S base sb room ps s) {k : Int} {zs : List Nat} {n : Nat} (hm : (k, zs, n) ∈ ps) : (∀ x ∈ zs, x < 256) ∧ n ≤ zs.length := by
  obtain ⟨mv, fs, hd, rfl⟩ := h
  obtain ⟨v, hv⟩ := plain_mem hm
  exact ⟨(hd.file _ hv).lt, (hd.file _ hv).safe⟩
theorem DiskP.toQ (h : DiskP w S base sb room ps) (hl : True) : ∃ l : Int, ∃ mv fs, DiskAt w S base sb mv room fs false l false ∧ plain fs = ps := by
  obtain ⟨mv, fs, left, hd, hp⟩ := h
  exact ⟨left, mv, fs, hd, hp⟩
theorem StepQ.calm {ps' : List PF} {s' : DS} (h : StepQ S w base sb room ps' s' w') (hd : DiskQ w S base sb room ps s) (hb : base ≤ w.heap.size) : ∃ S', DiskQ w' S' base sb room ps' s' ∧ Below base w w' ∧ base ≤ w'.heap.size := by
  obtain ⟨S', hd', hf, _⟩ := h
  exact ⟨S', hd', hf.below (fun i hi => (hd.low i hi).1) hb, Nat.le_trans hb hf.size⟩

theorem change_q (h : DiskAt w S base sb mv room fs s.armed (s.left : Int) false) (hl : s.left ≤ 4611686018427387904) (hs : s.stopped = false) :
    Calls Tryz.prog 47 #[.pointer (some ⟨sb, 0, none⟩)] w fun e w' => e = .returned s.err ∧ DiskAt w' S base sb mv room fs s.next.armed (s.next.left : Int) s.next.stopped ∧ Chg sb w w' := by
  by_cases hh : s.hit = true
  · simp only [DS.err, DS.next, hh, if_true]
    exact change_hit h hh
  · have hh' : s.hit = false := by simpa using hh
    simp only [DS.err, DS.next, hh', DS.go, hs]
    exact change_go h hh' hl

theorem lay_all {armed stopped : Bool} {left : Int} (h : DiskAt w S base sb mv room fs armed left stopped) {k : Int} (hk : (Lit.int .i64 k).wf = true) (B : Option Addr) (m d : Nat) (ys : List Nat) (hr : Rd .u8 w B m (ints ys)) (hy : ∀ x ∈ ys, x < 256)
    {f : FV} (hf : (fget fs k).getD FV.zero = f) (hn : f.zs.length + m ≤ 200000000000000) (hlen : fs.length < 4611686018427387904) (hbase : base ≤ w.heap.size) :
    Calls Tryz.prog 48 #[.pointer (some ⟨sb, 0, none⟩), .int .i64 k, .slice B m d] w fun e w' => e = .returned (.tuple #[]) ∧ LayRes S w base sb room fs armed left stopped k (f.zs ++ ys) f.safe w' := by
  cases mv with
  | none =>
    have hfs : fs = [] := by
      rcases h.map with ⟨_, h0⟩ | ⟨b, h0, _⟩
      · exact h0
      · cases h0
    subst hfs
    have hz : f = FV.zero := hf.symm
    subst hz
    exact lay_none h hk B m d ys hr hy (by omega) hbase
  | some b => exact lay_some h hk B m d ys hr hy hf hn hlen hbase

theorem used_all {armed stopped : Bool} {left : Int} (h : DiskAt w S base sb mv room fs armed left stopped) (ht : total fs ≤ 4611686018427387904) (p : After w) :
    Calls Tryz.prog 21 #[.pointer (some ⟨sb, 0, none⟩)] p.world fun e w'' => e = .returned (.int .i64 (total fs : Int)) ∧ ∃ q : After w, w'' = q.world :=
  after_call p (used_any (h.below p.below) ht)

/-- Bytes that come in are none of the struct's cells: counting a change leaves them. -/
theorem Rd.chg {armed stopped : Bool} {left : Int} (h : DiskAt w S base sb mv room fs armed left stopped) {B : Option Addr} {m : Nat} {zs : List Int} (hr : Rd .u8 w B m zs) (hc : Chg sb w w') : Rd .u8 w' B m zs := by
  refine ⟨hr.1, fun hm => ?_⟩
  obtain ⟨ad, e, hcell⟩ := hr.2 hm
  exact ⟨ad, e, fun j hj => hc.cell (hcell j hj) (h.ne_u8 (hcell j hj))⟩

set_option maxRecDepth 100000 in
set_option maxHeartbeats 1000000 in
theorem append_q0 (h : DiskAt w S base sb mv room fs s.armed (s.left : Int) false) (hs : s.stopped = false) (hl : s.left ≤ 4611686018427387904) {k : Int} (hk : (Lit.int .i64 k).wf = true) (B : Option Addr) (m d : Nat) (ys : List Nat) (hr : Rd .u8 w B m (ints ys)) (hy : ∀ x ∈ ys, x < 256)
    {f : FV} (hf : (fget fs k).getD FV.zero = f) (hroom : room ≤ 262144) (hfit : (total fs : Int) + m ≤ room) (hlen : fs.length < 4611686018427387904) (hbase : base ≤ w.heap.size) :
    Calls Tryz.prog 24 #[.pointer (some ⟨sb, 0, none⟩), .int .i64 k, .slice B m d] w fun e w' => e = .returned s.err ∧ LayRes S w base sb room fs s.next.armed (s.next.left : Int) s.next.stopped k (f.zs ++ ys) f.safe w' := by
  have hfl : f.zs.length ≤ 262144 := by
    cases hfk : fget fs k with
    | none => rw [hfk] at hf; rw [← hf]; simp [FV.zero]
    | some f0 => rw [hfk] at hf; have := total_le (mem_fget hfk); rw [show f = f0 from hf.symm]; simp only at this; omega
  have c4 := h.c4
  have c0 : ∀ p : After w, p.world.cell? ⟨sb, 0, none⟩ = some (.int .i64 room) := fun p => (h.below p.below).c0
  have hu := used_all h (by omega)
  obtain ⟨u, hue⟩ : ∃ u : Int, u = room - (total fs : Int) := ⟨_, rfl⟩
  have hle : ¬ u < (m : Int) := by omega
  have hu0 : 0 ≤ u := by omega
  have hu1 : u ≤ 262144 := by omega
  obtain ⟨t, hte⟩ : ∃ t : Nat, t = total fs := ⟨_, rfl⟩
  rw [← hte] at hu hue
  have hue' : room - (t : Int) = u := hue.symm
  obtain ⟨ev, hev⟩ : ∃ ev, s.err = ev := ⟨_, rfl⟩
  rw [hev]
  have HEV := Lib.hid hev
  have HD := Lib.hid h
  have HR := Lib.hid hr
  clear h hr hfit hte hue hev
  go_enter Tryz.func24, Tryz.ntmps24
  go_wp2
  refine wp_region_after (by kernel_rfl) (by kernel_rfl) ?_
  repeat (go_big_quiet_step ((go_at_call 21; exact hu _)))
  refine wpQuiet_nil ?_
  intro _ hw'
  obtain ⟨p, rfl⟩ := hw'
  have HDp := Lib.hid (HD.out.below p.below)
  have hz := p.below.size
  go_wp2_with fail
  have hcq := change_q HDp.out hl hs
  rw [HEV.out] at hcq
  refine hcq.mono ?_
  rintro e w1 ⟨rfl, hd1, hc1⟩
  clear hcq
  have HD1 := Lib.hid hd1
  have HC1 := Lib.hid hc1
  have hz1 := hc1.size
  clear hd1 hc1
  go_wp2_with fail
  refine (lay_all HD1.out hk B m d ys (Rd.chg HDp.out (HR.out.below p.below) HC1.out) hy hf (by omega) hlen (by omega)).mono ?_
  rintro e w2 ⟨rfl, S', mv', f', hd', e1, e2, hfr, hwd⟩
  go_wp2
  go_ret
  exact ⟨rfl, S', mv', f', hd', e1, e2, (((Fr.of_below p.below).trans (HC1.out.fr HD.out.inS) (Wider.refl _ _))).trans hfr (Wider.refl _ _), fun i hi => (hwd i hi).imp id (fun h => by omega)⟩

/-- Append, where there is room: the bytes are laid, whether the disk stops at it or not. -/
theorem append_q (h : DiskQ w S base sb room ps s) (hs : s.stopped = false) (hl : s.left ≤ 4611686018427387904) {k : Int} (hk : (Lit.int .i64 k).wf = true) (B : Option Addr) (m d : Nat) (ys : List Nat) (hr : Rd .u8 w B m (ints ys)) (hy : ∀ x ∈ ys, x < 256) {zs : List Nat} {n : Nat}
    (hg : (pget ps k).getD ([], 0) = (zs, n)) (hroom : room ≤ 262144) (hfit : (ptotal ps : Int) + m ≤ room) (hlen : ps.length < 1000) (hbase : base ≤ w.heap.size) :
    Calls Tryz.prog 24 #[.pointer (some ⟨sb, 0, none⟩), .int .i64 k, .slice B m d] w fun e w' => e = .returned s.err ∧ StepQ S w base sb room (pput ps k (zs ++ ys) n) s.next w' := by
  obtain ⟨mv, fs, hd, rfl⟩ := h
  rw [hs] at hd
  rw [plain_len] at hlen
  rw [← total_p] at hfit
  refine (append_q0 hd hs hl hk B m d ys hr hy rfl hroom hfit (by omega) hbase).mono ?_
  rintro e w' ⟨he, S', mv', f', hd', e1, e2, hfr, hwd⟩
  refine ⟨he, S', ⟨mv', _, hd', ?_⟩, hfr, hwd⟩
  rw [plain_get] at hg
  rw [plain_fput, e1, e2]
  cases hf : fget fs k with
  | none => rw [hf] at hg; simp at hg; obtain ⟨rfl, rfl⟩ := hg; rfl
  | some f => rw [hf] at hg; simp at hg; obtain ⟨rfl, rfl⟩ := hg; rfl

set_option maxRecDepth 100000 in
theorem append_stop (h : DiskQ w S base sb room ps s) (hs : s.stopped = true) (k : Int) (B : Option Addr) (m d : Nat) :
    Calls Tryz.prog 24 #[.pointer (some ⟨sb, 0, none⟩), .int .i64 k, .slice B m d] w fun e w' => e = .returned (.iface 39 (.int .i64 12)) ∧ w = w' := by
  obtain ⟨mv, fs, hd, rfl⟩ := h
  have c4 := hd.c4
  rw [hs] at c4
  clear hd
  go_enter Tryz.func24, Tryz.ntmps24
  go_wp2
  go_ret
  exact ⟨rfl, rfl⟩

set_option maxRecDepth 100000 in
set_option maxHeartbeats 1000000 in
theorem append_over (h : DiskQ w S base sb room ps s) (hs : s.stopped = false) (k : Int) (B : Option Addr) (m d : Nat)
    (hroom : 0 ≤ room ∧ room ≤ 262144) (ht : (ptotal ps : Int) ≤ room) (hm : m ≤ 9223372036854775807) (hfit : room < (ptotal ps : Int) + m) :
    Calls Tryz.prog 24 #[.pointer (some ⟨sb, 0, none⟩), .int .i64 k, .slice B m d] w fun e w' => e = .returned (.iface 39 (.int .i64 8)) ∧ Below w.heap.size w w' := by
  obtain ⟨mv, fs, h, rfl⟩ := h
  rw [hs] at h
  rw [← total_p] at ht hfit
  have c4 := h.c4
  have c0 : ∀ p : After w, p.world.cell? ⟨sb, 0, none⟩ = some (.int .i64 room) := fun p => (h.below p.below).c0
  have hu := used_all h (by omega)
  obtain ⟨u, hue⟩ : ∃ u : Int, u = room - (total fs : Int) := ⟨_, rfl⟩
  have hle : u < (m : Int) := by omega
  have hu0 : 0 ≤ u := by omega
  have hu1 : u ≤ 262144 := by omega
  obtain ⟨t, hte⟩ : ∃ t : Nat, t = total fs := ⟨_, rfl⟩
  rw [← hte] at hu hue
  have hue' : room - (t : Int) = u := hue.symm
  clear h hfit hte hue ht
  go_enter Tryz.func24, Tryz.ntmps24
  go_wp2
  refine wp_region_after (by kernel_rfl) (by kernel_rfl) ?_
  repeat (go_big_quiet_step ((go_at_call 21; exact hu _)))
  refine wpQuiet_nil ?_
  intro _ hw'
  obtain ⟨p, rfl⟩ := hw'
  have HB := Lib.hid p.below
  go_wp2
  go_ret
  exact ⟨rfl, HB.out⟩
end
end Go.Proofs.YtlakkhhibdcjaaaGreatDoor

namespace Go.Proofs.YtlakkhhibdcjaaaGreatDoor
open Go Go.RowKit Go.Maps
set_option linter.unusedVariables false
section
variable {S : Nat → Prop} {w w' : World} {base sb b : Nat} {mv : Option Nat} {room : Int} {fs : List (Int × FV)} {ps : List PF} {s : DS}

set_option maxRecDepth 100000 in
set_option maxHeartbeats 1000000 in
theorem sync_go0 (h : DiskAt w S base sb mv room fs s.armed (s.left : Int) false) (hh : s.hit = false) (hl : s.left ≤ 4611686018427387904) {k : Int} (hk : (Lit.int .i64 k).wf = true) {f : FV} (hf : fget fs k = some f) (hlen : fs.length < 4611686018427387904) (hbase : base ≤ w.heap.size) :
    Calls Tryz.prog 55 #[.pointer (some ⟨sb, 0, none⟩), .int .i64 k] w fun e w' => e = .returned .nilIface ∧ LayRes S w base sb room fs s.armed (lessLeft s.armed s.left : Int) false k f.zs f.zs.length w' := by
  have hok := h.found k
  rw [hf] at hok
  simp only [Option.getD_some] at hok
  obtain ⟨v, zs, n⟩ := f
  obtain ⟨A, c, hv, hnc, _, _, _⟩ := hok.own.form
  dsimp only at hv hnc ⊢
  subst hv
  obtain ⟨b, rfl, hob, hSb⟩ := h.mapped hf
  have HD := Lib.hid h
  have HF := Lib.hid hf
  have HOK := Lib.hid hok
  have hlt := h.lt
  clear h hok hob
  go_enter Tryz.func55, Tryz.ntmps55
  go_wp2_with fail
  refine (find_yes HD.out hk hf).mono ?_
  rintro e w1 ⟨rfl, hb1⟩
  have HB1 := Lib.hid hb1
  have hz1 := hb1.size
  clear hb1 hf
  go_wp2_with fail
  refine (change_go ((HD.out.below HB1.out).alloc _) hh hl).mono ?_
  rintro e w2 ⟨rfl, hd2, hc2⟩
  have hbA : Below w.heap.size w (w1.alloc (.cells #[.slice A zs.length c, .int .i64 (n : Int)] 79)) := HB1.out.trans (((Below.refl _ _).alloc (Nat.le_refl _) _).mono hz1)
  have hA0 : w2.cell? ⟨w1.heap.size, 0, none⟩ = some (.slice A zs.length c) := hc2.cell (by simp) (by simp only; omega)
  have hA1 : w2.cell? ⟨w1.heap.size, 1, none⟩ = some (.int .i64 (n : Int)) := hc2.cell (by simp) (by simp only; omega)
  have c1 : w2.cell? ⟨sb, 1, none⟩ = some (.map (some b)) := hd2.c1
  have hfr : Fr S w w2 := (Fr.of_below hbA).trans (hc2.fr HD.out.inS) (Wider.refl _ _)
  have hz2 : w.heap.size ≤ w2.heap.size := hfr.size
  obtain ⟨b', e, hob2, _⟩ := hd2.mapped HF.out
  injection e with e
  subst e
  obtain ⟨w3, hst, hown3, hturn⟩ := OwnsM.store (w := w2.drew) hob2 hlen hk ⟨.slice A zs.length c, zs, zs.length⟩
  dsimp only at hst
  have hok2 := hd2.found k
  rw [HF.out] at hok2
  simp only [Option.getD_some] at hok2
  have HD2 := Lib.hid hd2
  have HOK2 := Lib.hid hok2
  have HFR := Lib.hid hfr
  have HOB2 := Lib.hid hob2
  have HW3 := Lib.hid hown3
  have HT := Lib.hid hturn
  clear hd2 hc2 hbA hfr hob2 hown3 hturn hok2
  go_wp2
  go_region
  all_goals
    go_wp2
    go_ret
    refine ⟨rfl, ?_⟩
    obtain ⟨S', hd', hfr', hwd⟩ := HD2.out.drew.stored (w1 := w2.drew) (k := k) (f := ⟨.slice A zs.length c, zs, zs.length⟩) HOB2.out (World.grownBy.refl _ _) HOK2.out.own (Nat.le_refl _) HOK2.out.lt (.inl (by rw [HF.out]; rfl)) HW3.out hSb HT.out (by show base ≤ w2.heap.size; omega)
    have hf3 : Fr S w2 w3 := ⟨hfr'.os, hfr'.tape, hfr'.output, hfr'.size, hfr'.block⟩
    exact ⟨S', some b, _, hd', rfl, rfl, HFR.out.trans hf3 (Wider.refl _ _), fun i hi => (hwd i hi).imp id (fun h => by have e : w2.drew.heap.size = w2.heap.size := rfl; omega)⟩

/-- At a call that is no Append a disk that stops keeps its files. -/
def HitRes (S : Nat → Prop) (w : World) (base sb : Nat) (mv : Option Nat) (room : Int) (fs : List (Int × FV)) (s : DS) (e : Ending) (w' : World) : Prop :=
  e = .returned (.iface 39 (.int .i64 12)) ∧ DiskAt w' S base sb mv room fs s.armed (s.left : Int) true ∧ Fr S w w'

set_option maxRecDepth 100000 in
theorem sync_hit0 (h : DiskAt w S base sb mv room fs s.armed (s.left : Int) false) (hh : s.hit = true) {k : Int} (hk : (Lit.int .i64 k).wf = true) {f : FV} (hf : fget fs k = some f) :
    Calls Tryz.prog 55 #[.pointer (some ⟨sb, 0, none⟩), .int .i64 k] w (HitRes S w base sb mv room fs s) := by
  have hok := h.found k
  rw [hf] at hok
  simp only [Option.getD_some] at hok
  obtain ⟨v, zs, n⟩ := f
  obtain ⟨A, c, hv, hnc, _, _, _⟩ := hok.own.form
  dsimp only at hv hnc ⊢
  subst hv
  have HD := Lib.hid h
  clear h hok
  go_enter Tryz.func55, Tryz.ntmps55
  go_wp2_with fail
  refine (find_yes HD.out hk hf).mono ?_
  rintro e w1 ⟨rfl, hb1⟩
  have HB1 := Lib.hid hb1
  have hz1 := hb1.size
  clear hb1 hf
  go_wp2_with fail
  refine (change_hit ((HD.out.below HB1.out).alloc _) hh).mono ?_
  rintro e w2 ⟨rfl, hd2, hc2⟩
  have HD2 := Lib.hid hd2
  have HFR := Lib.hid ((Fr.of_below (HB1.out.trans (((Below.refl _ _).alloc (Nat.le_refl _) _).mono hz1))).trans (hc2.fr HD.out.inS) (Wider.refl S _))
  clear hd2 hc2
  go_wp2
  go_ret
  exact ⟨rfl, HD2.out, HFR.out⟩

theorem sync_stop0 (h : DiskAt w S base sb mv room fs s.armed (s.left : Int) true) (k : Int) :
    Calls Tryz.prog 55 #[.pointer (some ⟨sb, 0, none⟩), .int .i64 k] w fun e w' => e = .returned (.iface 39 (.int .i64 12)) ∧ Below w.heap.size w w' := by
  have HD := Lib.hid h
  clear h
  go_enter Tryz.func55, Tryz.ntmps55
  go_wp2_with fail
  refine (find_stop HD.out k).mono ?_
  rintro e w1 ⟨rfl, hb1⟩
  have HB1 := Lib.hid hb1
  have hz1 := hb1.size
  clear hb1
  go_wp2
  go_ret
  exact ⟨rfl, HB1.out.alloc hz1 _⟩

theorem sync_no0 (h : DiskAt w S base sb mv room fs s.armed (s.left : Int) false) {k : Int} (hk : (Lit.int .i64 k).wf = true) (hf : fget fs k = none) :
    Calls Tryz.prog 55 #[.pointer (some ⟨sb, 0, none⟩), .int .i64 k] w fun e w' => e = .returned (.iface 39 (.int .i64 2)) ∧ Below w.heap.size w w' := by
  have HD := Lib.hid h
  clear h
  go_enter Tryz.func55, Tryz.ntmps55
  go_wp2_with fail
  refine (find_no HD.out hk hf).mono ?_
  rintro e w1 ⟨rfl, hb1⟩
  have HB1 := Lib.hid hb1
  have hz1 := hb1.size
  clear hb1 hf
  go_wp2
  go_ret
  exact ⟨rfl, HB1.out.alloc hz1 _⟩

/-! Over the files as they are told. -/
theorem pget_some {fs : List (Int × FV)} {k : Int} {zs : List Nat} {n : Nat} (h : pget (plain fs) k = some (zs, n)) : ∃ f, fget fs k = some f ∧ f.zs = zs ∧ f.safe = n := by
  rw [plain_get] at h
  cases hf : fget fs k with
  | none => rw [hf] at h; simp at h
  | some f => rw [hf] at h; simp at h; exact ⟨f, rfl, h.1, h.2⟩
theorem pget_none {fs : List (Int × FV)} {k : Int} (h : pget (plain fs) k = none) : fget fs k = none := by
  rw [plain_get] at h
  cases hf : fget fs k with
  | none => rfl
  | some f => rw [hf] at h; simp at h

theorem sync_q (h : DiskQ w S base sb room ps s) (hs : s.stopped = false) (hh : s.hit = false) (hl : s.left ≤ 4611686018427387904) {k : Int} (hk : (Lit.int .i64 k).wf = true) {zs : List Nat} {n : Nat} (hg : pget ps k = some (zs, n)) (hlen : ps.length < 1000) (hbase : base ≤ w.heap.size) :
    Calls Tryz.prog 55 #[.pointer (some ⟨sb, 0, none⟩), .int .i64 k] w fun e w' => e = .returned .nilIface ∧ StepQ S w base sb room (pput ps k zs zs.length) s.go w' := by
  obtain ⟨mv, fs, hd, rfl⟩ := h
  rw [hs] at hd
  rw [plain_len] at hlen
  obtain ⟨f, hf, rfl, rfl⟩ := pget_some hg
  refine (sync_go0 hd hh hl hk hf (by omega) hbase).mono ?_
  rintro e w' ⟨he, S', mv', f', hd', e1, e2, hfr, hwd⟩
  refine ⟨he, S', ⟨mv', _, ?_, by rw [plain_fput, e1, e2]⟩, hfr, hwd⟩
  simp only [DS.go, hs]
  exact hd'
theorem sync_hit (h : DiskQ w S base sb room ps s) (hs : s.stopped = false) (hh : s.hit = true) {k : Int} (hk : (Lit.int .i64 k).wf = true) {zs : List Nat} {n : Nat} (hg : pget ps k = some (zs, n)) :
    Calls Tryz.prog 55 #[.pointer (some ⟨sb, 0, none⟩), .int .i64 k] w fun e w' => e = .returned (.iface 39 (.int .i64 12)) ∧ StepQ S w base sb room ps s.stop w' := by
  obtain ⟨mv, fs, hd, rfl⟩ := h
  rw [hs] at hd
  obtain ⟨f, hf, rfl, rfl⟩ := pget_some hg
  refine (sync_hit0 hd hh hk hf).mono ?_
  rintro e w' ⟨he, hd', hfr⟩
  exact ⟨he, S, ⟨mv, fs, hd', rfl⟩, hfr, Wider.refl _ _⟩
theorem sync_stop (h : DiskQ w S base sb room ps s) (hs : s.stopped = true) (k : Int) :
    Calls Tryz.prog 55 #[.pointer (some ⟨sb, 0, none⟩), .int .i64 k] w fun e w' => e = .returned (.iface 39 (.int .i64 12)) ∧ Below w.heap.size w w' := by
  obtain ⟨mv, fs, hd, rfl⟩ := h
  rw [hs] at hd
  exact sync_stop0 hd k

theorem read_q (h : DiskQ w S base sb room ps s) {k : Int} (hk : (Lit.int .i64 k).wf = true) {zs : List Nat} {n : Nat} {t : Bool} (hg : (pget ps k).getD ([], 0) = (zs, n)) (ht : (pget ps k).isSome = t) (hn : zs.length ≤ 200000000000000) :
    Calls Tryz.prog 51 #[.pointer (some ⟨sb, 0, none⟩), .int .i64 k] w (ReadRes w zs t) := by
  obtain ⟨mv, fs, hd, rfl⟩ := h
  rw [plain_get] at hg ht
  have e : ((fget fs k).getD FV.zero).zs = zs := by
    cases hf : fget fs k with
    | none => rw [hf] at hg; simp at hg; obtain ⟨rfl, rfl⟩ := hg; rfl
    | some f => rw [hf] at hg; simp at hg; obtain ⟨rfl, rfl⟩ := hg; rfl
  have := read_any hd hk (f := (fget fs k).getD FV.zero) rfl (t := t) (by rw [← ht]; cases fget fs k <;> rfl) (by rw [e]; exact hn)
  rw [e] at this
  exact this
theorem restart_q (h : DiskQ w S base sb room ps s) (keep : Int) (hkeep : -9223372036854775808 ≤ keep ∧ keep ≤ 9223372036854775807) (hlen : ps.length < 1000) (hn : ∀ p ∈ ps, p.2.1.length ≤ 100000000000000 ∧ (Lit.int .i64 p.1).wf = true) (hbase : base ≤ w.heap.size) :
    Calls Tryz.prog 16 #[.pointer (some ⟨sb, 0, none⟩), .int .i64 keep] w fun e w' => e = .returned (.tuple #[]) ∧ StepQ S w base sb room (ps.map (rst keep)) ⟨false, 0, false⟩ w' := by
  have h' := h
  obtain ⟨mv, fs, hd, rfl⟩ := h
  rw [plain_len] at hlen
  refine (restart_any hd keep hkeep (by omega) (fun p hp => ⟨(hn p hp).1, (h'.lt (k := p.1) (zs := p.2.1) (n := p.2.2) hp).2, (hn p hp).2⟩) hbase).mono ?_
  rintro e w' ⟨he, S', fs', hd', e1, hfr, hwd⟩
  exact ⟨he, S', ⟨mv, fs', hd', e1⟩, hfr, hwd⟩
theorem names_q (h : DiskQ w S base sb room ps s) (hlen : ps.length < 1000) : Calls Tryz.prog 41 #[.pointer (some ⟨sb, 0, none⟩)] w (NamesRes w (ps.map (·.1))) := by
  obtain ⟨mv, fs, hd, rfl⟩ := h
  rw [plain_len] at hlen
  rw [plain_keys]
  exact names_any hd (by omega)
theorem used_q (h : DiskQ w S base sb room ps s) (ht : ptotal ps ≤ 4611686018427387904) {t : Nat} (e : ptotal ps = t) : Calls Tryz.prog 21 #[.pointer (some ⟨sb, 0, none⟩)] w (UsedRes w t) := by
  obtain ⟨mv, fs, hd, rfl⟩ := h
  rw [← total_p] at ht e
  rw [← e]
  exact used_any hd ht
theorem of_q (room r1 r2 : Int) (w : World) (h1 : max room 0 = r1) (h2 : min r1 262144 = r2) :
    Calls Tryz.prog 8 #[.int .i64 room] w fun e w' => e = .returned (.pointer (some ⟨w.heap.size, 0, none⟩)) ∧ DiskQ w' (fun i => i = w.heap.size) w.heap.size w.heap.size r2 [] ⟨false, 0, false⟩ ∧ Below w.heap.size w w' :=
  (of_any room r1 r2 w h1 h2).mono fun e w' ⟨he, hw⟩ => ⟨he, by subst hw; exact ⟨none, [], disk_new w r2, rfl⟩, by subst hw; exact (Below.refl _ _).alloc (Nat.le_refl _) _⟩
end
end Go.Proofs.YtlakkhhibdcjaaaGreatDoor

namespace Go.Proofs.YtlakkhhibdcjaaaGreatDoor
open Go Go.RowKit Go.Maps
set_option linter.unusedVariables false
section
variable {S : Nat → Prop} {w w' : World} {base sb b : Nat} {mv : Option Nat} {room : Int} {fs : List (Int × FV)} {ps : List PF} {s : DS}

theorem DiskAt.ownsOf {armed stopped : Bool} {l : Int} (h : DiskAt w S base sb (some b) room fs armed l stopped) : OwnsM w b fs.length fs := by
  rcases h.map with ⟨h0, _⟩ | ⟨b', e, ho', _⟩
  · cases h0
  · injection e with e; subst e; exact ho'

/-- The files when one is no more. -/
theorem DiskAt.gone {armed stopped : Bool} {l : Int} {k : Int} {w1 : World} (h : DiskAt w S base sb (some b) room fs armed l stopped) (hm : OwnsM w1 b (fdel fs k).length (fdel fs k)) (hb : S b) (hg : w.grownBy w1 (some b)) : DiskAt w1 S base sb (some b) room (fdel fs k) armed l stopped := by
  have ho := h.ownsOf
  exact {
    blk := (hg.block sb h.lt (fun he => h.map_ne ⟨_, ho⟩ (by injection he with he; exact he.symm))).trans h.blk
    map := .inr ⟨b, rfl, hm, hb⟩
    up := up_fdel h.up k
    file := fun p hp => (h.file p (mem_fdel.1 hp).1).same fun g he => hg.block g ((h.low g ((h.file p (mem_fdel.1 hp).1).inS g he)).2) (fun e => (h.file p (mem_fdel.1 hp).1).ne_map ho (by rw [he]; exact e))
    apart := fun p hp q hq hne => h.apart p (mem_fdel.1 hp).1 q (mem_fdel.1 hq).1 hne
    inS := h.inS
    low := fun i hi => ⟨(h.low i hi).1, Nat.lt_of_lt_of_le (h.low i hi).2 hg.size⟩ }

/-- A file, taken from its name, is stored at another one. -/
theorem DiskAt.moves {armed stopped : Bool} {l : Int} {w1 w' : World} {k to : Int} {f : FV} (h : DiskAt w S base sb (some b) room fs armed l stopped) (hf : fget fs k = some f) (hSb : S b)
    (hd : DiskAt w1 S base sb (some b) room (fdel fs k) armed l stopped) (ht1 : w.grownBy w1 (some b)) (hm : OwnsM w' b (fput (fdel fs k) to f).length (fput (fdel fs k) to f)) (ht : w1.mapTurned w' b) :
    DiskAt w' S base sb (some b) room (fput (fdel fs k) to f) armed l stopped := by
  have hg := ht.grown
  have hz := hg.size
  have hm1 := hd.ownsOf
  have hm0 := h.ownsOf
  have hfo := h.file _ (mem_fget hf)
  have hf1 : FileOk w1 S base f := hfo.same fun g he => ht1.block g ((h.low g (hfo.inS g he)).2) (fun e => hfo.ne_map hm0 (by rw [he]; exact e))
  refine hd.put (S' := S) (fun _ hi => hi) (fun i hi => ⟨(hd.low i hi).1, Nat.lt_of_lt_of_le (hd.low i hi).2 hz⟩) (hg.block sb hd.lt (fun e => hd.map_ne ⟨_, hm1⟩ (by injection e with e; exact e.symm))) hm hSb (fun p hp _ g he => ?_) ?_ (fun p hp hne => ?_)
  · exact hg.block g ((hd.low g ((hd.file p hp).inS g he)).2) (fun e => (hd.file p hp).ne_map hm1 (by rw [he]; exact e))
  · exact hf1.same fun g he => hg.block g ((hd.low g (hf1.inS g he)).2) (fun e => hf1.ne_map hm1 (by rw [he]; exact e))
  · have := mem_fdel.1 hp
    exact h.apart p this.1 _ (mem_fget hf) this.2

set_option maxRecDepth 100000 in
set_option maxHeartbeats 1000000 in
theorem rename_go0 (h : DiskAt w S base sb mv room fs s.armed (s.left : Int) false) (hh : s.hit = false) (hl : s.left ≤ 4611686018427387904) {k to : Int} (hk : (Lit.int .i64 k).wf = true) (hto : (Lit.int .i64 to).wf = true) {f : FV} (hf : fget fs k = some f) (hlen : fs.length < 4611686018427387904) :
    Calls Tryz.prog 37 #[.pointer (some ⟨sb, 0, none⟩), .int .i64 k, .int .i64 to] w fun e w' => e = .returned .nilIface ∧ ∃ mv', DiskAt w' S base sb mv' room (fput (fdel fs k) to f) s.armed (lessLeft s.armed s.left : Int) false ∧ Fr S w w' := by
  have hok := h.found k
  rw [hf] at hok
  simp only [Option.getD_some] at hok
  obtain ⟨v, zs, n⟩ := f
  obtain ⟨A, c, hv, hnc, _, _, _⟩ := hok.own.form
  dsimp only at hv hnc ⊢
  subst hv
  obtain ⟨b, rfl, hob, hSb⟩ := h.mapped hf
  have HD := Lib.hid h
  have HF := Lib.hid hf
  have hlt := h.lt
  clear h hok hob
  go_enter Tryz.func37, Tryz.ntmps37
  go_wp2_with fail
  refine (find_yes HD.out hk hf).mono ?_
  rintro e w1 ⟨rfl, hb1⟩
  have HB1 := Lib.hid hb1
  have hz1 := hb1.size
  clear hb1 hf
  go_wp2_with fail
  refine (change_go ((HD.out.below HB1.out).alloc _) hh hl).mono ?_
  rintro e wA ⟨rfl, hdA, hcA⟩
  have hbA : Below w.heap.size w (w1.alloc (.cells #[.slice A zs.length c, .int .i64 (n : Int)] 79)) := HB1.out.trans (((Below.refl _ _).alloc (Nat.le_refl _) _).mono hz1)
  have hA0 : wA.cell? ⟨w1.heap.size, 0, none⟩ = some (.slice A zs.length c) := hcA.cell (by simp) (by simp only; omega)
  have hA1 : wA.cell? ⟨w1.heap.size, 1, none⟩ = some (.int .i64 (n : Int)) := hcA.cell (by simp) (by simp only; omega)
  have c1 : wA.cell? ⟨sb, 1, none⟩ = some (.map (some b)) := hdA.c1
  have hfr : Fr S w wA := (Fr.of_below hbA).trans (hcA.fr HD.out.inS) (Wider.refl _ _)
  have hobA := hdA.ownsOf
  have HDA := Lib.hid hdA
  have HFR := Lib.hid hfr
  clear hdA hcA hbA hfr
  go_wp2_with (at_delete; refine wpList_delete_own _ rfl (.tmp 27) (.tmp 28) 59 3 rfl 79 key_int Tryz.underlying59 heldE b fs.length (datum fs) rfl hobA _ _ rfl (key_at hk) ?_; intro w2 hown2 hturn2)
  rw [datum_del] at hown2
  have hdr := HDA.out.gone (OwnsM.tight hown2) hSb hturn2.grown
  have hbr : ∀ a : Addr, ∀ v, wA.cell? a = some v → w2.cell? a = some v := fun a v hv => hturn2.grown.cell hv (fun e => by
    obtain ⟨es, clock, hh, _⟩ := hobA
    injection e with e
    simp [World.cell?, e, hh] at hv)
  have hB0 := hbr _ _ hA0
  have hB1 := hbr _ _ hA1
  have cB1 : w2.cell? ⟨sb, 1, none⟩ = some (.map (some b)) := hdr.c1
  have hdl : (fdel fs k).length < 4611686018427387904 := by have := List.length_filter_le (fun p : Int × FV => !(p.1 == k)) fs; simp only [fdel]; omega
  obtain ⟨w3, hst, hown3, hturn3⟩ := OwnsM.store (w := w2.drew) (OwnsM.tight hown2) hdl hto ⟨.slice A zs.length c, zs, n⟩
  dsimp only at hst
  have HDR := Lib.hid hdr
  have HW3 := Lib.hid hown3
  have HT2 := Lib.hid hturn2
  have HT3 := Lib.hid hturn3
  clear hobA hown2 hdr hbr hown3 hturn2 hturn3 hA0 hA1 c1
  go_wp2
  go_region
  all_goals
    go_wp2
    go_ret
    have hg2 : wA.grownBy w2.drew (some b) := ⟨HT2.out.grown.os, HT2.out.grown.tape, HT2.out.grown.output, HT2.out.grown.size, HT2.out.grown.block⟩
    have hm := HDA.out.moves HF.out hSb HDR.out.drew hg2 HW3.out HT3.out
    exact ⟨rfl, some b, hm, (HFR.out.trans (Fr.of_grown hg2 (fun g he => by injection he with he; subst he; exact hSb)) (Wider.refl _ _)).trans (Fr.of_turned HT3.out hSb) (Wider.refl _ _)⟩

set_option maxRecDepth 100000 in
theorem rename_hit0 (h : DiskAt w S base sb mv room fs s.armed (s.left : Int) false) (hh : s.hit = true) {k : Int} (to : Int) (hk : (Lit.int .i64 k).wf = true) {f : FV} (hf : fget fs k = some f) :
    Calls Tryz.prog 37 #[.pointer (some ⟨sb, 0, none⟩), .int .i64 k, .int .i64 to] w (HitRes S w base sb mv room fs s) := by
  have hok := h.found k
  rw [hf] at hok
  simp only [Option.getD_some] at hok
  obtain ⟨v, zs, n⟩ := f
  obtain ⟨A, c, hv, hnc, _, _, _⟩ := hok.own.form
  dsimp only at hv hnc ⊢
  subst hv
  have HD := Lib.hid h
  clear h hok
  go_enter Tryz.func37, Tryz.ntmps37
  go_wp2_with fail
  refine (find_yes HD.out hk hf).mono ?_
  rintro e w1 ⟨rfl, hb1⟩
  have HB1 := Lib.hid hb1
  have hz1 := hb1.size
  clear hb1 hf
  go_wp2_with fail
  refine (change_hit ((HD.out.below HB1.out).alloc _) hh).mono ?_
  rintro e w2 ⟨rfl, hd2, hc2⟩
  have HD2 := Lib.hid hd2
  have HFR := Lib.hid ((Fr.of_below (HB1.out.trans (((Below.refl _ _).alloc (Nat.le_refl _) _).mono hz1))).trans (hc2.fr HD.out.inS) (Wider.refl S _))
  clear hd2 hc2
  go_wp2
  go_ret
  exact ⟨rfl, HD2.out, HFR.out⟩

theorem rename_q (h : DiskQ w S base sb room ps s) (hs : s.stopped = false) (hh : s.hit = false) (hl : s.left ≤ 4611686018427387904) {k to : Int} (hk : (Lit.int .i64 k).wf = true) (hto : (Lit.int .i64 to).wf = true) {zs : List Nat} {n : Nat} (hg : pget ps k = some (zs, n)) (hlen : ps.length < 1000) :
    Calls Tryz.prog 37 #[.pointer (some ⟨sb, 0, none⟩), .int .i64 k, .int .i64 to] w fun e w' => e = .returned .nilIface ∧ StepQ S w base sb room (pput (pdel ps k) to zs n) s.go w' := by
  obtain ⟨mv, fs, hd, rfl⟩ := h
  rw [hs] at hd
  rw [plain_len] at hlen
  obtain ⟨f, hf, rfl, rfl⟩ := pget_some hg
  refine (rename_go0 hd hh hl hk hto hf (by omega)).mono ?_
  rintro e w' ⟨he, mv', hd', hfr⟩
  refine ⟨he, S, ⟨mv', _, ?_, by rw [plain_fput, plain_del]⟩, hfr, Wider.refl _ _⟩
  simp only [DS.go, hs]
  exact hd'
theorem rename_hit (h : DiskQ w S base sb room ps s) (hs : s.stopped = false) (hh : s.hit = true) {k : Int} (to : Int) (hk : (Lit.int .i64 k).wf = true) {zs : List Nat} {n : Nat} (hg : pget ps k = some (zs, n)) :
    Calls Tryz.prog 37 #[.pointer (some ⟨sb, 0, none⟩), .int .i64 k, .int .i64 to] w fun e w' => e = .returned (.iface 39 (.int .i64 12)) ∧ StepQ S w base sb room ps s.stop w' := by
  obtain ⟨mv, fs, hd, rfl⟩ := h
  rw [hs] at hd
  obtain ⟨f, hf, rfl, rfl⟩ := pget_some hg
  refine (rename_hit0 hd hh to hk hf).mono ?_
  rintro e w' ⟨he, hd', hfr⟩
  exact ⟨he, S, ⟨mv, fs, hd', rfl⟩, hfr, Wider.refl _ _⟩
end
end Go.Proofs.YtlakkhhibdcjaaaGreatDoor

namespace Go.Proofs.YtlakkhhibdcjaaaGreatDoor
open Go Go.RowKit Go.Maps
set_option linter.unusedVariables false
section
variable {S : Nat → Prop} {w w' : World} {base sb b : Nat} {mv : Option Nat} {room : Int} {fs : List (Int × FV)} {ps : List PF} {s : DS}

set_option maxRecDepth 100000 in
set_option maxHeartbeats 1000000 in
theorem remove_go0 (h : DiskAt w S base sb mv room fs s.armed (s.left : Int) false) (hh : s.hit = false) (hl : s.left ≤ 4611686018427387904) {k : Int} (hk : (Lit.int .i64 k).wf = true) {f : FV} (hf : fget fs k = some f) :
    Calls Tryz.prog 52 #[.pointer (some ⟨sb, 0, none⟩), .int .i64 k] w fun e w' => e = .returned .nilIface ∧ DiskAt w' S base sb mv room (fdel fs k) s.armed (lessLeft s.armed s.left : Int) false ∧ Fr S w w' := by
  have hok := h.found k
  rw [hf] at hok
  simp only [Option.getD_some] at hok
  obtain ⟨v, zs, n⟩ := f
  obtain ⟨A, c, hv, hnc, _, _, _⟩ := hok.own.form
  dsimp only at hv hnc ⊢
  subst hv
  obtain ⟨b, rfl, hob, hSb⟩ := h.mapped hf
  have HD := Lib.hid h
  have hlt := h.lt
  clear h hok hob
  go_enter Tryz.func52, Tryz.ntmps52
  go_wp2_with fail
  refine (find_yes HD.out hk hf).mono ?_
  rintro e w1 ⟨rfl, hb1⟩
  have HB1 := Lib.hid hb1
  have hz1 := hb1.size
  clear hb1 hf
  go_wp2_with fail
  refine (change_go ((HD.out.below HB1.out).alloc _) hh hl).mono ?_
  rintro e wA ⟨rfl, hdA, hcA⟩
  have c1 : wA.cell? ⟨sb, 1, none⟩ = some (.map (some b)) := hdA.c1
  have hfr : Fr S w wA := (Fr.of_below (HB1.out.trans (((Below.refl _ _).alloc (Nat.le_refl _) _).mono hz1))).trans (hcA.fr HD.out.inS) (Wider.refl _ _)
  have hobA := hdA.ownsOf
  have HDA := Lib.hid hdA
  have HFR := Lib.hid hfr
  clear hdA hcA hfr
  go_wp2_with (at_delete; refine wpList_delete_own _ rfl _ _ 59 3 rfl 79 key_int Tryz.underlying59 heldE b fs.length (datum fs) rfl hobA _ _ rfl (key_at hk) ?_; intro w2 hown2 hturn2)
  rw [datum_del] at hown2
  have HDR := Lib.hid (HDA.out.gone (OwnsM.tight hown2) hSb hturn2.grown)
  have HT2 := Lib.hid hturn2
  clear hown2 hturn2
  go_wp2
  go_ret
  exact ⟨rfl, HDR.out, HFR.out.trans (Fr.of_turned HT2.out hSb) (Wider.refl _ _)⟩

set_option maxRecDepth 100000 in
theorem remove_hit0 (h : DiskAt w S base sb mv room fs s.armed (s.left : Int) false) (hh : s.hit = true) {k : Int} (hk : (Lit.int .i64 k).wf = true) {f : FV} (hf : fget fs k = some f) :
    Calls Tryz.prog 52 #[.pointer (some ⟨sb, 0, none⟩), .int .i64 k] w (HitRes S w base sb mv room fs s) := by
  have hok := h.found k
  rw [hf] at hok
  simp only [Option.getD_some] at hok
  obtain ⟨v, zs, n⟩ := f
  obtain ⟨A, c, hv, hnc, _, _, _⟩ := hok.own.form
  dsimp only at hv hnc ⊢
  subst hv
  have HD := Lib.hid h
  clear h hok
  go_enter Tryz.func52, Tryz.ntmps52
  go_wp2_with fail
  refine (find_yes HD.out hk hf).mono ?_
  rintro e w1 ⟨rfl, hb1⟩
  have HB1 := Lib.hid hb1
  clear hb1 hf
  go_wp2_with fail
  refine (change_hit ((HD.out.below HB1.out).alloc _) hh).mono ?_
  rintro e w2 ⟨rfl, hd2, hc2⟩
  have HD2 := Lib.hid hd2
  have HFR := Lib.hid ((Fr.of_below (HB1.out.trans (((Below.refl _ _).alloc (Nat.le_refl _) _).mono HB1.out.size))).trans (hc2.fr HD.out.inS) (Wider.refl S _))
  clear hd2 hc2
  go_wp2
  go_ret
  exact ⟨rfl, HD2.out, HFR.out⟩

theorem remove_q (h : DiskQ w S base sb room ps s) (hs : s.stopped = false) (hh : s.hit = false) (hl : s.left ≤ 4611686018427387904) {k : Int} (hk : (Lit.int .i64 k).wf = true) {zs : List Nat} {n : Nat} (hg : pget ps k = some (zs, n)) :
    Calls Tryz.prog 52 #[.pointer (some ⟨sb, 0, none⟩), .int .i64 k] w fun e w' => e = .returned .nilIface ∧ StepQ S w base sb room (pdel ps k) s.go w' := by
  obtain ⟨mv, fs, hd, rfl⟩ := h
  rw [hs] at hd
  obtain ⟨f, hf, rfl, rfl⟩ := pget_some hg
  refine (remove_go0 hd hh hl hk hf).mono ?_
  rintro e w' ⟨he, hd', hfr⟩
  refine ⟨he, S, ⟨mv, _, ?_, by rw [plain_del]⟩, hfr, Wider.refl _ _⟩
  simp only [DS.go, hs]
  exact hd'
theorem remove_hit (h : DiskQ w S base sb room ps s) (hs : s.stopped = false) (hh : s.hit = true) {k : Int} (hk : (Lit.int .i64 k).wf = true) {zs : List Nat} {n : Nat} (hg : pget ps k = some (zs, n)) :
    Calls Tryz.prog 52 #[.pointer (some ⟨sb, 0, none⟩), .int .i64 k] w fun e w' => e = .returned (.iface 39 (.int .i64 12)) ∧ StepQ S w base sb room ps s.stop w' := by
  obtain ⟨mv, fs, hd, rfl⟩ := h
  rw [hs] at hd
  obtain ⟨f, hf, rfl, rfl⟩ := pget_some hg
  refine (remove_hit0 hd hh hk hf).mono ?_
  rintro e w' ⟨he, hd', hfr⟩
  exact ⟨he, S, ⟨mv, fs, hd', rfl⟩, hfr, Wider.refl _ _⟩
end
end Go.Proofs.YtlakkhhibdcjaaaGreatDoor

namespace Go.Proofs.YtlakkhhibdcjaaaGreatDoor
open Go Go.RowKit Go.Maps
set_option linter.unusedVariables false
section
variable {S : Nat → Prop} {w : World} {base sb b : Nat} {mv : Option Nat} {room left : Int} {fs : List (Int × FV)} {ps : List PF}

/-- A file, taken from its name, is stored at another one. -/
theorem DiskAt.moved {w1 w' : World} {k to : Int} {f : FV} (h : DiskAt w S base sb (some b) room fs false left false) (hf : fget fs k = some f) (hSb : S b)
    (hd : DiskAt w1 S base sb (some b) room (fdel fs k) false left false) (ht1 : w.grownBy w1 (some b)) (hm : OwnsM w' b (fput (fdel fs k) to f).length (fput (fdel fs k) to f)) (ht : w1.mapTurned w' b) :
    DiskAt w' S base sb (some b) room (fput (fdel fs k) to f) false left false := by
  have hg := ht.grown
  have hz := hg.size
  have hm1 : OwnsM w1 b (fdel fs k).length (fdel fs k) := by
    rcases hd.map with ⟨h0, _⟩ | ⟨b', e, ho', _⟩
    · cases h0
    · injection e with e; subst e; exact ho'
  have hm0 : OwnsM w b fs.length fs := by
    rcases h.map with ⟨h0, _⟩ | ⟨b', e, ho', _⟩
    · cases h0
    · injection e with e; subst e; exact ho'
  have hfo := h.file _ (mem_fget hf)
  have hf1 : FileOk w1 S base f := hfo.same fun g he => ht1.block g ((h.low g (hfo.inS g he)).2) (fun e => hfo.ne_map hm0 (by rw [he]; exact e))
  refine hd.put (S' := S) (fun _ hi => hi) (fun i hi => ⟨(hd.low i hi).1, Nat.lt_of_lt_of_le (hd.low i hi).2 hz⟩) (hg.block sb hd.lt (fun e => hd.map_ne ⟨_, hm1⟩ (by injection e with e; exact e.symm))) hm hSb (fun p hp _ g he => ?_) ?_ (fun p hp hne => ?_)
  · exact hg.block g ((hd.low g ((hd.file p hp).inS g he)).2) (fun e => (hd.file p hp).ne_map hm1 (by rw [he]; exact e))
  · exact hf1.same fun g he => hg.block g ((hd.low g (hf1.inS g he)).2) (fun e => hf1.ne_map hm1 (by rw [he]; exact e))
  · have := mem_fdel.1 hp
    exact h.apart p this.1 _ (mem_fget hf) this.2

set_option maxRecDepth 100000 in
set_option maxHeartbeats 1000000 in
theorem rename_yes (h : DiskAt w S base sb mv room fs false left false) {k to : Int} (hk : (Lit.int .i64 k).wf = true) (hto : (Lit.int .i64 to).wf = true) {f : FV} (hf : fget fs k = some f) (hlen : fs.length < 4611686018427387904) :
    Calls Tryz.prog 37 #[.pointer (some ⟨sb, 0, none⟩), .int .i64 k, .int .i64 to] w fun e w' => e = .returned .nilIface ∧ ∃ mv', DiskAt w' S base sb mv' room (fput (fdel fs k) to f) false left false ∧ Fr S w w' := by
  have hok := h.found k
  rw [hf] at hok
  simp only [Option.getD_some] at hok
  obtain ⟨v, zs, s⟩ := f
  obtain ⟨A, c, hv, hnc, _, _, _⟩ := hok.own.form
  dsimp only at hv hnc ⊢
  subst hv
  obtain ⟨b, rfl, hob, hSb⟩ := h.mapped hf
  have HD := Lib.hid h
  have HF := Lib.hid hf
  have HOB := Lib.hid hob
  clear h hok hob
  go_enter Tryz.func37, Tryz.ntmps37
  go_wp2_with fail
  refine (find_yes HD.out hk hf).mono ?_
  rintro e w1 ⟨rfl, hb1⟩
  have HB1 := Lib.hid hb1
  have hz1 := hb1.size
  clear hb1 hf
  have c2 : ∀ o, (w1.alloc o).cell? ⟨sb, 2, none⟩ = some (.bool false) := fun o => ((HD.out.below HB1.out).alloc o).c2
  go_wp2_with fail
  refine (change_calm sb _ (c2 _)).mono ?_
  rintro e w2 ⟨rfl, rfl⟩
  have hbA : Below w.heap.size w (w1.alloc (.cells #[.slice A zs.length c, .int .i64 (s : Int)] 79)) := HB1.out.trans (((Below.refl _ _).alloc (Nat.le_refl _) _).mono hz1)
  have hA0 : (w1.alloc (.cells #[.slice A zs.length c, .int .i64 (s : Int)] 79)).cell? ⟨w1.heap.size, 0, none⟩ = some (.slice A zs.length c) := by simp
  have hA1 : (w1.alloc (.cells #[.slice A zs.length c, .int .i64 (s : Int)] 79)).cell? ⟨w1.heap.size, 1, none⟩ = some (.int .i64 (s : Int)) := by simp
  clear c2
  generalize (w1.alloc (.cells #[.slice A zs.length c, .int .i64 (s : Int)] 79)) = wA at *
  have HBA := Lib.hid hbA
  have HDA := Lib.hid (HD.out.below hbA)
  have hobA : OwnsM wA b fs.length fs := OwnsM.same HOB.out (hbA.block b HOB.out.lt)
  have c1 : wA.cell? ⟨sb, 1, none⟩ = some (.map (some b)) := HDA.out.c1
  clear hbA
  go_wp2_with (at_delete; refine wpList_delete_own _ rfl (.tmp 27) (.tmp 28) 59 3 rfl 79 key_int Tryz.underlying59 heldE b fs.length (datum fs) rfl hobA _ _ rfl (key_at hk) ?_; intro w2 hown2 hturn2)
  rw [datum_del] at hown2
  have hdr := HDA.out.dropped (OwnsM.tight hown2) hSb hturn2
  have hbr : ∀ a : Addr, ∀ v, wA.cell? a = some v → w2.cell? a = some v := fun a v hv => hturn2.grown.cell hv (fun e => by
    obtain ⟨es, clock, hh, _⟩ := hobA
    injection e with e
    simp [World.cell?, e, hh] at hv)
  have hB0 := hbr _ _ hA0
  have hB1 := hbr _ _ hA1
  have cB1 : w2.cell? ⟨sb, 1, none⟩ = some (.map (some b)) := hdr.c1
  have hdl : (fdel fs k).length < 4611686018427387904 := by have := List.length_filter_le (fun p : Int × FV => !(p.1 == k)) fs; simp only [fdel]; omega
  obtain ⟨w3, hst, hown3, hturn3⟩ := OwnsM.store (w := w2.drew) (OwnsM.tight hown2) hdl hto ⟨.slice A zs.length c, zs, s⟩
  dsimp only at hst
  have HDR := Lib.hid hdr
  have HW3 := Lib.hid hown3
  have HT2 := Lib.hid hturn2
  have HT3 := Lib.hid hturn3
  clear hobA hown2 hdr hbr hown3 hturn2 hturn3 hA0 hA1 c1
  go_wp2
  go_region
  all_goals
    go_wp2
    go_ret
    have hg2 : wA.grownBy w2.drew (some b) := ⟨HT2.out.grown.os, HT2.out.grown.tape, HT2.out.grown.output, HT2.out.grown.size, HT2.out.grown.block⟩
    have hm := HDA.out.moved HF.out hSb HDR.out.drew hg2 HW3.out HT3.out
    exact ⟨rfl, some b, hm, ((Fr.of_below HBA.out).trans (Fr.of_grown hg2 (fun g he => by injection he with he; subst he; exact hSb)) (Wider.refl _ _)).trans (Fr.of_turned HT3.out hSb) (Wider.refl _ _)⟩

theorem rename_no (h : DiskAt w S base sb mv room fs false left false) {k : Int} (to : Int) (hk : (Lit.int .i64 k).wf = true) (hf : fget fs k = none) :
    Calls Tryz.prog 37 #[.pointer (some ⟨sb, 0, none⟩), .int .i64 k, .int .i64 to] w fun e w' => e = .returned (.iface 39 (.int .i64 2)) ∧ Below w.heap.size w w' := by
  have HD := Lib.hid h
  clear h
  go_enter Tryz.func37, Tryz.ntmps37
  go_wp2_with fail
  refine (find_no HD.out hk hf).mono ?_
  rintro e w1 ⟨rfl, hb1⟩
  have HB1 := Lib.hid hb1
  have hz1 := hb1.size
  clear hb1 hf
  go_wp2
  go_ret
  exact ⟨rfl, HB1.out.alloc hz1 _⟩

/-- What Cut leaves. -/
def CutDone (S : Nat → Prop) (w : World) (base sb : Nat) (room : Int) (fs : List (Int × FV)) (left : Int) (k : Int) (zs : List Nat) (s : Nat) (e : Ending) (w' : World) : Prop :=
  e = .returned .nilIface ∧ LayRes S w base sb room fs false left false k zs s w'

set_option maxRecDepth 100000 in
set_option maxHeartbeats 1000000 in
theorem cut_yes (h : DiskAt w S base sb mv room fs false left false) {k : Int} (hk : (Lit.int .i64 k).wf = true) {f : FV} (hf : fget fs k = some f) (t : Nat) (ht : t ≤ f.zs.length) (hn : f.zs.length ≤ 100000000000000) (hlen : fs.length < 4611686018427387904) (hbase : base ≤ w.heap.size) :
    Calls Tryz.prog 54 #[.pointer (some ⟨sb, 0, none⟩), .int .i64 k, .int .i64 (t : Int)] w (CutDone S w base sb room fs left k (f.zs.take t) t) := by
  have hok := h.found k
  rw [hf] at hok
  simp only [Option.getD_some] at hok
  obtain ⟨v, zs, s⟩ := f
  obtain ⟨A1, c1, hv, hnc, _, hr1, _⟩ := hok.own.form
  dsimp only at hv hnc hr1 ht hn ⊢
  subst hv
  obtain ⟨b, rfl, hob, hSb⟩ := h.mapped hf
  obtain ⟨n1, hn1⟩ : ∃ n1, n1 = zs.length := ⟨_, rfl⟩
  obtain ⟨ys, hys⟩ : ∃ ys, zs.take t = ys := ⟨_, rfl⟩
  rw [hys]
  have HD := Lib.hid h
  have HF := Lib.hid hf
  have HOK := Lib.hid hok
  have HOB := Lib.hid hob
  have HYS := Lib.hid hys
  have hfy := find_yes h hk hf
  rw [← hn1] at hfy hnc hr1 ht hn
  have HFY := Lib.hid hfy
  have HR1 := Lib.hid hr1
  have HN1 := Lib.hid hn1
  have g1 : ¬ ((t : Int) < 0) := by omega
  have g2 : ¬ ((n1 : Int) < (t : Int)) := by omega
  clear h hok hob hys hfy hr1 hn1 hf
  go_enter Tryz.func54, Tryz.ntmps54
  go_wp2_with fail
  refine HFY.out.mono ?_
  rintro e w1 ⟨rfl, hb1⟩
  have HB1 := Lib.hid hb1
  have hz1 := hb1.size
  clear hb1
  have c2 : ∀ o, (w1.alloc o).cell? ⟨sb, 2, none⟩ = some (.bool false) := fun o => ((HD.out.below HB1.out).alloc o).c2
  go_wp2_with fail
  refine (change_calm sb _ (c2 _)).mono ?_
  rintro e w2 ⟨rfl, rfl⟩
  have hbA : Below w.heap.size w (w1.alloc (.cells #[.slice A1 n1 c1, .int .i64 (s : Int)] 79)) := HB1.out.trans (((Below.refl _ _).alloc (Nat.le_refl _) _).mono hz1)
  have hA0 : (w1.alloc (.cells #[.slice A1 n1 c1, .int .i64 (s : Int)] 79)).cell? ⟨w1.heap.size, 0, none⟩ = some (.slice A1 n1 c1) := by simp
  have hA1 : (w1.alloc (.cells #[.slice A1 n1 c1, .int .i64 (s : Int)] 79)).cell? ⟨w1.heap.size, 1, none⟩ = some (.int .i64 (s : Int)) := by simp
  clear c2
  generalize (w1.alloc (.cells #[.slice A1 n1 c1, .int .i64 (s : Int)] 79)) = wA at *
  have HBA := Lib.hid hbA
  have hzA := hbA.size
  have HDA := Lib.hid (HD.out.below hbA)
  have HRA := Lib.hid (HR1.out.below hbA)
  have hcA : wA.cell? ⟨sb, 1, none⟩ = some (.map (some b)) := HDA.out.c1
  have hSA : wA.drew.cell? ⟨sb, 1, none⟩ = some (.map (some b)) ∧ wA.drew.cell? ⟨w1.heap.size, 0, none⟩ = some (.slice A1 n1 c1) ∧ wA.drew.cell? ⟨w1.heap.size, 1, none⟩ = some (.int .i64 (s : Int)) := ⟨hcA, hA0, hA1⟩
  clear hbA
  go_wp2
  go_region_held3 (fun w' => w'.cell? ⟨sb, 1, none⟩ = some (.map (some b)) ∧ w'.cell? ⟨w1.heap.size, 0, none⟩ = some (.slice A1 n1 c1) ∧ w'.cell? ⟨w1.heap.size, 1, none⟩ = some (.int .i64 (s : Int))) (first | exact hS2 | exact hS1 | exact hSA)
    (first
      | (go_at_call 42; refine (cut_any A1 n1 c1 zs ys (s : Int) t _ HRA.out.drew (by omega) (by omega) ht HYS.out).mono ?_; rintro e w3 ⟨v1, rfl, ho1, hb1⟩
         obtain ⟨A2, c2, rfl, _⟩ := ho1.form
         have hw1 : w3.cell? ⟨sb, 1, none⟩ = some (.map (some b)) := ((HDA.out.drew).below hb1).c1
         have hob1 : OwnsM w3 b fs.length fs := OwnsM.same HOB.out ((HBA.out.drew.trans (hb1.mono hzA)).block b HOB.out.lt)
         have hS1 : w3.cell? ⟨sb, 1, none⟩ = some (.map (some b)) ∧ w3.cell? ⟨w1.heap.size, 0, none⟩ = some (.slice A1 n1 c1) ∧ w3.cell? ⟨w1.heap.size, 1, none⟩ = some (.int .i64 (s : Int)) :=
           ⟨hw1, (hb1.cell (World.block_lt_of_cell? _ _ hSA.2.1)).trans hSA.2.1, (hb1.cell (World.block_lt_of_cell? _ _ hSA.2.2)).trans hSA.2.2⟩
         obtain ⟨w4, hst, hown4, hturn⟩ := OwnsM.store hob1 hlen hk ⟨.slice A2 t c2, ys, t⟩
         dsimp only at hst
         have hbr : ∀ a : Addr, ∀ v, w3.cell? a = some v → w4.cell? a = some v := fun a v hv => hturn.grown.cell hv (fun e => by
           obtain ⟨es, clock, hh, _⟩ := hob1
           injection e with e
           simp [World.cell?, e, hh] at hv)
         have hS2 : w4.cell? ⟨sb, 1, none⟩ = some (.map (some b)) ∧ w4.cell? ⟨w1.heap.size, 0, none⟩ = some (.slice A1 n1 c1) ∧ w4.cell? ⟨w1.heap.size, 1, none⟩ = some (.int .i64 (s : Int)) :=
           ⟨hbr _ _ hS1.1, hbr _ _ hS1.2.1, hbr _ _ hS1.2.2⟩
         have HO1 := Lib.hid ho1
         have HB2 := Lib.hid hb1
         have HOB1 := Lib.hid hob1
         have HW4 := Lib.hid hown4
         have HT := Lib.hid hturn
         clear ho1 hb1 hob1 hown4 hturn hbr))
  clear hS1 hS2 hSA hst hw1 hcA hA0 hA1
  go_wp2
  go_ret
  have hyl : ys.length = t := by rw [← HYS.out, List.length_take, ← HN1.out]; omega
  have hg : wA.drew.grownBy w3 ((fget fs k).getD FV.zero).v.ownBlock := ⟨HB2.out.os, HB2.out.tape, HB2.out.output, HB2.out.size, fun i hi _ => HB2.out.block i hi⟩
  have hbA : base ≤ wA.drew.heap.size := by show base ≤ wA.heap.size; omega
  obtain ⟨S2, hd2, hfr2, hwd2⟩ := HDA.out.drew.stored (k := k) (f := ⟨.slice A2 t c2, ys, t⟩) HOB1.out hg (by rw [hyl]; exact HO1.out.less hbA) (by simp only; omega) (fun x hx => HOK.out.lt x (by rw [← HYS.out] at hx; exact List.mem_of_mem_take hx)) (.inr fun g hg' => HO1.out.rowLt g hg') HW4.out hSb HT.out hbA
  have hfrA : Fr S w wA.drew := Fr.of_below HBA.out.drew
  exact ⟨rfl, S2, some b, _, hd2, rfl, rfl, hfrA.trans hfr2 (Wider.refl _ _), fun i hi => (hwd2 i hi).imp id (fun h => by have e : wA.drew.heap.size = wA.heap.size := rfl; omega)⟩

theorem cut_arg (h : DiskAt w S base sb mv room fs false left false) {k : Int} (hk : (Lit.int .i64 k).wf = true) {f : FV} (hf : fget fs k = some f) (t : Int) (ht : t < 0 ∨ (f.zs.length : Int) < t) :
    Calls Tryz.prog 54 #[.pointer (some ⟨sb, 0, none⟩), .int .i64 k, .int .i64 t] w fun e w' => e = .returned (.iface 39 (.int .i64 13)) ∧ Below w.heap.size w w' := by
  have hok := h.found k
  rw [hf] at hok
  simp only [Option.getD_some] at hok
  obtain ⟨v, zs, s⟩ := f
  obtain ⟨A1, c1, hv, hnc, _, hr1, _⟩ := hok.own.form
  dsimp only at hv hnc hr1 ht ⊢
  subst hv
  have HFY := Lib.hid (find_yes h hk hf)
  clear h hok hr1 hf
  by_cases g : t < 0
  · go_enter Tryz.func54, Tryz.ntmps54
    go_wp2_with fail
    refine HFY.out.mono ?_
    rintro e w1 ⟨rfl, hb1⟩
    have HB1 := Lib.hid hb1
    have hz1 := hb1.size
    clear hb1 ht
    go_wp2
    go_ret
    exact ⟨rfl, HB1.out.alloc hz1 _⟩
  · have g2 : (zs.length : Int) < t := by omega
    go_enter Tryz.func54, Tryz.ntmps54
    go_wp2_with fail
    refine HFY.out.mono ?_
    rintro e w1 ⟨rfl, hb1⟩
    have HB1 := Lib.hid hb1
    have hz1 := hb1.size
    clear hb1 ht
    go_wp2
    go_ret
    exact ⟨rfl, HB1.out.alloc hz1 _⟩

theorem cut_no (h : DiskAt w S base sb mv room fs false left false) {k : Int} (t : Int) (hk : (Lit.int .i64 k).wf = true) (hf : fget fs k = none) :
    Calls Tryz.prog 54 #[.pointer (some ⟨sb, 0, none⟩), .int .i64 k, .int .i64 t] w fun e w' => e = .returned (.iface 39 (.int .i64 2)) ∧ Below w.heap.size w w' := by
  have HD := Lib.hid h
  clear h
  go_enter Tryz.func54, Tryz.ntmps54
  go_wp2_with fail
  refine (find_no HD.out hk hf).mono ?_
  rintro e w1 ⟨rfl, hb1⟩
  have HB1 := Lib.hid hb1
  have hz1 := hb1.size
  clear hb1 hf
  go_wp2
  go_ret
  exact ⟨rfl, HB1.out.alloc hz1 _⟩

/-! Over the files as they are told. -/
theorem pget_plain_some {fs : List (Int × FV)} {k : Int} {zs : List Nat} {s : Nat} (h : pget (plain fs) k = some (zs, s)) : ∃ f, fget fs k = some f ∧ f.zs = zs ∧ f.safe = s := by
  rw [plain_get] at h
  cases hf : fget fs k with
  | none => rw [hf] at h; simp at h
  | some f => rw [hf] at h; simp at h; exact ⟨f, rfl, h.1, h.2⟩
theorem pget_plain_none {fs : List (Int × FV)} {k : Int} (h : pget (plain fs) k = none) : fget fs k = none := by
  rw [plain_get] at h
  cases hf : fget fs k with
  | none => rfl
  | some f => rw [hf] at h; simp at h

theorem rename_ok (h : DiskP w S base sb room ps) {k to : Int} (hk : (Lit.int .i64 k).wf = true) (hto : (Lit.int .i64 to).wf = true) {zs : List Nat} {s : Nat} (hg : pget ps k = some (zs, s)) (hlen : ps.length < 1000) :
    Calls Tryz.prog 37 #[.pointer (some ⟨sb, 0, none⟩), .int .i64 k, .int .i64 to] w fun e w' => e = .returned .nilIface ∧ Step S w base sb room (pput (pdel ps k) to zs s) w' := by
  obtain ⟨mv, fs, left, hd, rfl⟩ := h
  obtain ⟨f, hf, rfl, rfl⟩ := pget_plain_some hg
  rw [plain_len] at hlen
  refine (rename_yes hd hk hto hf (by omega)).mono ?_
  rintro e w' ⟨he, mv', hd', hfr⟩
  exact ⟨he, S, ⟨mv', _, left, hd', by rw [plain_fput, plain_del]⟩, hfr, Wider.refl _ _⟩
theorem rename_err (h : DiskP w S base sb room ps) {k : Int} (to : Int) (hk : (Lit.int .i64 k).wf = true) (hg : pget ps k = none) :
    Calls Tryz.prog 37 #[.pointer (some ⟨sb, 0, none⟩), .int .i64 k, .int .i64 to] w fun e w' => e = .returned (.iface 39 (.int .i64 2)) ∧ Below w.heap.size w w' := by
  obtain ⟨mv, fs, left, hd, rfl⟩ := h
  exact rename_no hd to hk (pget_plain_none hg)
theorem cut_ok (h : DiskP w S base sb room ps) {k : Int} (hk : (Lit.int .i64 k).wf = true) {zs : List Nat} {s : Nat} (hg : pget ps k = some (zs, s)) (t : Nat) (ht : t ≤ zs.length) (hn : zs.length ≤ 100000000000000) (hlen : ps.length < 1000) (hbase : base ≤ w.heap.size) :
    Calls Tryz.prog 54 #[.pointer (some ⟨sb, 0, none⟩), .int .i64 k, .int .i64 (t : Int)] w fun e w' => e = .returned .nilIface ∧ Step S w base sb room (pput ps k (zs.take t) t) w' := by
  obtain ⟨mv, fs, left, hd, rfl⟩ := h
  obtain ⟨f, hf, rfl, rfl⟩ := pget_plain_some hg
  rw [plain_len] at hlen
  refine (cut_yes hd hk hf t ht hn (by omega) hbase).mono ?_
  rintro e w' ⟨he, S', mv', f', hd', e1, e2, hfr, hwd⟩
  exact ⟨he, S', ⟨mv', _, left, hd', by rw [plain_fput, e1, e2]⟩, hfr, hwd⟩
theorem cut_bad (h : DiskP w S base sb room ps) {k : Int} (hk : (Lit.int .i64 k).wf = true) {zs : List Nat} {s : Nat} (hg : pget ps k = some (zs, s)) (t : Int) (ht : t < 0 ∨ (zs.length : Int) < t) :
    Calls Tryz.prog 54 #[.pointer (some ⟨sb, 0, none⟩), .int .i64 k, .int .i64 t] w fun e w' => e = .returned (.iface 39 (.int .i64 13)) ∧ Below w.heap.size w w' := by
  obtain ⟨mv, fs, left, hd, rfl⟩ := h
  obtain ⟨f, hf, rfl, rfl⟩ := pget_plain_some hg
  exact cut_arg hd hk hf t ht
theorem cut_err (h : DiskP w S base sb room ps) {k : Int} (t : Int) (hk : (Lit.int .i64 k).wf = true) (hg : pget ps k = none) :
    Calls Tryz.prog 54 #[.pointer (some ⟨sb, 0, none⟩), .int .i64 k, .int .i64 t] w fun e w' => e = .returned (.iface 39 (.int .i64 2)) ∧ Below w.heap.size w w' := by
  obtain ⟨mv, fs, left, hd, rfl⟩ := h
  exact cut_no hd t hk (pget_plain_none hg)
end
end Go.Proofs.YtlakkhhibdcjaaaGreatDoor
