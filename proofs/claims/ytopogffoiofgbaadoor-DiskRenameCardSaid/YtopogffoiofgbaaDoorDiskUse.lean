/-
  The disk's calls by what they make of the files as they are told.
-/
import Derived.Test.YtopogffoiofgbaaDoorDiskRestart
namespace Go.Proofs.YtopogffoiofgbaaDoor
open Go Go.RowKit Go.Maps
set_option linter.unusedVariables false

abbrev PF := Int × List Nat × Nat
def pget (ps : List PF) (k : Int) : Option (List Nat × Nat) := (ps.find? (fun p => p.1 == k)).map (·.2)
def pins (x : PF) : List PF → List PF
  | [] => [x]
  | y :: r => if x.1 < y.1 then x :: y :: r else y :: pins x r
def pdel (ps : List PF) (k : Int) : List PF := ps.filter fun p => !(p.1 == k)
def pput (ps : List PF) (k : Int) (zs : List Nat) (s : Nat) : List PF := pins (k, zs, s) (pdel ps k)
def ptotal (ps : List PF) : Nat := (ps.map fun p => p.2.1.length).sum

theorem plain_get (k : Int) : ∀ fs : List (Int × FV), pget (plain fs) k = (fget fs k).map fun f => (f.zs, f.safe)
  | [] => rfl
  | x :: r => by
    have ih := plain_get k r
    simp only [pget, plain, fget, List.map_cons, List.find?_cons] at ih ⊢
    have e : (pv x).1 = x.1 := rfl
    rw [e]
    cases h : (x.1 == k)
    · exact ih
    · rfl
theorem plain_ins (x : Int × FV) : ∀ fs : List (Int × FV), plain (fins x fs) = pins (pv x) (plain fs)
  | [] => rfl
  | y :: r => by
    have ih := plain_ins x r
    have e1 : (pv x).1 = x.1 := rfl
    have e2 : (pv y).1 = y.1 := rfl
    unfold fins
    show _ = pins (pv x) (pv y :: plain r)
    unfold pins
    rw [e1, e2]
    split
    · rfl
    · show pv y :: plain (fins x r) = _
      rw [ih]
theorem plain_del (fs : List (Int × FV)) (k : Int) : plain (fdel fs k) = pdel (plain fs) k := by
  simp only [plain, fdel, pdel, List.filter_map]
  rfl
theorem plain_fput (fs : List (Int × FV)) (k : Int) (f : FV) : plain (fput fs k f) = pput (plain fs) k f.zs f.safe := by
  rw [fput, plain_ins, plain_del]; rfl
theorem total_p (fs : List (Int × FV)) : total fs = ptotal (plain fs) := total_plain fs

/-- The struct at sb is a disk with these files, neither armed nor stopped; all of it lies in the blocks S. -/
def DiskP (w : World) (S : Nat → Prop) (base sb : Nat) (room : Int) (ps : List PF) : Prop := ∃ mv fs left, DiskAt w S base sb mv room fs false left false ∧ plain fs = ps
/-- What a call leaves. -/
def Step (S : Nat → Prop) (w : World) (base sb : Nat) (room : Int) (ps : List PF) (w' : World) : Prop := ∃ S', DiskP w' S' base sb room ps ∧ Fr S w w' ∧ Wider S S' w

section
variable {S : Nat → Prop} {w w' : World} {base sb : Nat} {room : Int} {ps : List PF}

theorem DiskP.below (h : DiskP w S base sb room ps) (hb : Below w.heap.size w w') : DiskP w' S base sb room ps := by
  obtain ⟨mv, fs, left, hd, hp⟩ := h
  exact ⟨mv, fs, left, hd.below hb, hp⟩
theorem DiskP.alloc (h : DiskP w S base sb room ps) (o : Obj) : DiskP (w.alloc o) S base sb room ps := h.below ((Below.refl _ _).alloc (Nat.le_refl _) _)
theorem DiskP.low (h : DiskP w S base sb room ps) : ∀ i, S i → base ≤ i ∧ i < w.heap.size := by
  obtain ⟨mv, fs, left, hd, hp⟩ := h
  exact hd.low
theorem DiskP.lt (h : DiskP w S base sb room ps) {k : Int} {zs : List Nat} {s : Nat} (hm : (k, zs, s) ∈ ps) : (∀ x ∈ zs, x < 256) ∧ s ≤ zs.length := by
  obtain ⟨mv, fs, left, hd, rfl⟩ := h
  obtain ⟨v, hv⟩ := plain_mem hm
  exact ⟨(hd.file _ hv).lt, (hd.file _ hv).safe⟩
/-- What a step leaves below the disk is as it was. -/
theorem Step.below (h : Step S w base sb room ps w') (hd : ∀ i, S i → base ≤ i) (hb : base ≤ w.heap.size) : Below base w w' := by
  obtain ⟨S', _, hf, _⟩ := h
  exact hf.below hd hb

theorem of_ok (room r1 r2 : Int) (w : World) (h1 : max room 0 = r1) (h2 : min r1 262144 = r2) :
    Calls Tryd.prog 7 #[.int .i64 room] w fun e w' => e = .returned (.pointer (some ⟨w.heap.size, 0, none⟩)) ∧ DiskP w' (fun i => i = w.heap.size) w.heap.size w.heap.size r2 [] ∧ Below w.heap.size w w' :=
  (of_any room r1 r2 w h1 h2).mono fun e w' ⟨he, hw⟩ => ⟨he, by subst hw; exact ⟨none, [], 0, disk_new w r2, rfl⟩, by subst hw; exact (Below.refl _ _).alloc (Nat.le_refl _) _⟩

theorem append_ok (h : DiskP w S base sb room ps) {k : Int} (hk : (Lit.int .i64 k).wf = true) (B : Option Addr) (m d : Nat) (ys : List Nat) (hr : Rd .u8 w B m (ints ys)) (hy : ∀ x ∈ ys, x < 256) {zs : List Nat} {s : Nat}
    (hg : (pget ps k).getD ([], 0) = (zs, s)) (hroom : room ≤ 262144) (hfit : (ptotal ps : Int) + m ≤ room) (hlen : ps.length < 1000) (hbase : base ≤ w.heap.size) :
    Calls Tryd.prog 8 #[.pointer (some ⟨sb, 0, none⟩), .int .i64 k, .slice B m d] w fun e w' => e = .returned .nilIface ∧ Step S w base sb room (pput ps k (zs ++ ys) s) w' := by
  obtain ⟨mv, fs, left, hd, rfl⟩ := h
  rw [plain_len] at hlen
  rw [← total_p] at hfit
  refine (append_fits hd hk B m d ys hr hy rfl hroom hfit (by omega) hbase).mono ?_
  rintro e w' ⟨he, S', mv', f', hd', e1, e2, hfr, hwd⟩
  refine ⟨he, S', ⟨mv', _, left, hd', ?_⟩, hfr, hwd⟩
  rw [plain_get] at hg
  rw [plain_fput, e1, e2]
  cases hf : fget fs k with
  | none => rw [hf] at hg; simp at hg; obtain ⟨rfl, rfl⟩ := hg; rfl
  | some f => rw [hf] at hg; simp at hg; obtain ⟨rfl, rfl⟩ := hg; rfl

theorem sync_ok (h : DiskP w S base sb room ps) {k : Int} (hk : (Lit.int .i64 k).wf = true) {zs : List Nat} {s : Nat} (hg : pget ps k = some (zs, s)) (hlen : ps.length < 1000) (hbase : base ≤ w.heap.size) :
    Calls Tryd.prog 12 #[.pointer (some ⟨sb, 0, none⟩), .int .i64 k] w fun e w' => e = .returned .nilIface ∧ Step S w base sb room (pput ps k zs zs.length) w' := by
  obtain ⟨mv, fs, left, hd, rfl⟩ := h
  rw [plain_len] at hlen
  rw [plain_get] at hg
  cases hf : fget fs k with
  | none => rw [hf] at hg; simp at hg
  | some f =>
    rw [hf] at hg; simp at hg; obtain ⟨rfl, rfl⟩ := hg
    refine (sync_yes hd hk hf (by omega) hbase).mono ?_
    rintro e w' ⟨he, S', mv', f', hd', e1, e2, hfr, hwd⟩
    exact ⟨he, S', ⟨mv', _, left, hd', by rw [plain_fput, e1, e2]⟩, hfr, hwd⟩

theorem read_ok (h : DiskP w S base sb room ps) {k : Int} (hk : (Lit.int .i64 k).wf = true) {zs : List Nat} {s : Nat} {t : Bool} (hg : (pget ps k).getD ([], 0) = (zs, s)) (ht : (pget ps k).isSome = t) (hn : zs.length ≤ 200000000000000) :
    Calls Tryd.prog 15 #[.pointer (some ⟨sb, 0, none⟩), .int .i64 k] w (ReadRes w zs t) := by
  obtain ⟨mv, fs, left, hd, rfl⟩ := h
  rw [plain_get] at hg ht
  have e : ((fget fs k).getD FV.zero).zs = zs := by
    cases hf : fget fs k with
    | none => rw [hf] at hg; simp at hg; obtain ⟨rfl, rfl⟩ := hg; rfl
    | some f => rw [hf] at hg; simp at hg; obtain ⟨rfl, rfl⟩ := hg; rfl
  have := read_any hd hk (f := (fget fs k).getD FV.zero) rfl (t := t) (by rw [← ht]; cases fget fs k <;> rfl) (by rw [e]; exact hn)
  rw [e] at this
  exact this

theorem restart_ok (h : DiskP w S base sb room ps) (keep : Int) (hkeep : -9223372036854775808 ≤ keep ∧ keep ≤ 9223372036854775807) (hlen : ps.length < 1000) (hn : ∀ p ∈ ps, p.2.1.length ≤ 100000000000000 ∧ (Lit.int .i64 p.1).wf = true) (hbase : base ≤ w.heap.size) :
    Calls Tryd.prog 14 #[.pointer (some ⟨sb, 0, none⟩), .int .i64 keep] w fun e w' => e = .returned (.tuple #[]) ∧ Step S w base sb room (ps.map (rst keep)) w' := by
  have h' := h
  obtain ⟨mv, fs, left, hd, rfl⟩ := h
  rw [plain_len] at hlen
  refine (restart_any hd keep hkeep (by omega) (fun p hp => ⟨(hn p hp).1, (h'.lt (k := p.1) (zs := p.2.1) (s := p.2.2) hp).2, (hn p hp).2⟩) hbase).mono ?_
  rintro e w' ⟨he, S', fs', hd', e1, hfr, hwd⟩
  exact ⟨he, S', ⟨mv, fs', 0, hd', e1⟩, hfr, hwd⟩

theorem names_ok (h : DiskP w S base sb room ps) (hlen : ps.length < 1000) : Calls Tryd.prog 10 #[.pointer (some ⟨sb, 0, none⟩)] w (NamesRes w (ps.map (·.1))) := by
  obtain ⟨mv, fs, left, hd, rfl⟩ := h
  rw [plain_len] at hlen
  rw [plain_keys]
  exact names_any hd (by omega)
end
end Go.Proofs.YtopogffoiofgbaaDoor
