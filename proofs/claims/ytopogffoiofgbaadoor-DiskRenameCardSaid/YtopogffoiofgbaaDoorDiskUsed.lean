/-
  Used by its contract: the files are met one by one, in whatever order.
-/
import Derived.Test.YtopogffoiofgbaaDoorDiskFind
import Derived.Laws.IdiomRangeMap
import Derived.LoopN
import Derived.LoopTactic
import Derived.Lib.Hide
namespace Go.Proofs.YtopogffoiofgbaaDoor
open Go Go.RowKit Go.Maps
set_option linter.unusedVariables false

/-- How many bytes all files have. -/
def total (fs : List (Int × FV)) : Nat := (fs.map fun p => p.2.zs.length).sum
/-- How many bytes those have that are still to come. -/
def rest (left : Lit → Bool) (fs : List (Int × FV)) : Nat := (fs.map fun p => if left (.int .i64 p.1) then p.2.zs.length else 0).sum

theorem rest_all {left : Lit → Bool} : ∀ {fs : List (Int × FV)}, (∀ p ∈ fs, left (.int .i64 p.1) = true) → rest left fs = total fs
  | [], _ => rfl
  | x :: r, h => by
    have h1 := h x (by simp)
    have h2 := rest_all (left := left) (fs := r) fun p hp => h p (by simp [hp])
    simp only [rest, total] at h2
    simp [rest, total, h1, h2]
theorem rest_none {left : Lit → Bool} (h : ∀ l, left l = false) : ∀ fs : List (Int × FV), rest left fs = 0
  | [] => rfl
  | x :: r => by
    show (if left (.int .i64 x.1) = true then x.2.zs.length else 0) + rest left r = 0
    rw [rest_none h r, h]; rfl
theorem rest_same {left left' : Lit → Bool} : ∀ {fs : List (Int × FV)}, (∀ p ∈ fs, left (.int .i64 p.1) = left' (.int .i64 p.1)) → rest left fs = rest left' fs
  | [], _ => rfl
  | x :: r, h => by
    have h1 := h x (by simp)
    have h2 := rest_same (left := left) (left' := left') (fs := r) fun p hp => h p (by simp [hp])
    simp only [rest] at h2
    simp [rest, h1, h2]
theorem rest_step {left : Lit → Bool} {x : Int} {f : FV} : ∀ {fs : List (Int × FV)}, fs.Pairwise (fun x y => x.1 < y.1) → (x, f) ∈ fs → left (.int .i64 x) = true →
    rest left fs = f.zs.length + rest (fun z => left z && !z.sameKey (.int .i64 x)) fs
  | [], _, h, _ => by simp at h
  | y :: r, hp, h, hl => by
    rw [List.pairwise_cons] at hp
    rcases List.mem_cons.1 h with rfl | h
    · have h2 := rest_same (left := left) (left' := fun z => left z && !z.sameKey (.int .i64 x)) (fs := r) fun p hp' => by
        have := hp.1 p hp'
        have hne : (p.1 == x) = false := by simp; omega
        simp [same_int, hne]
      simp only [rest] at h2
      simp [rest, hl, same_int, h2]
    · have h2 := rest_step hp.2 h hl
      have := hp.1 _ h
      have hne : (y.1 == x) = false := by simp; omega
      simp only [rest] at h2
      simp only [rest, List.map_cons, List.sum_cons, same_int, hne, Bool.not_false, Bool.and_true, h2]
      omega
theorem total_le {fs : List (Int × FV)} {p : Int × FV} (h : p ∈ fs) : p.2.zs.length ≤ total fs := by
  induction fs with
  | nil => simp at h
  | cons y r ih =>
    simp only [total, List.map_cons, List.sum_cons] at ih ⊢
    rcases List.mem_cons.1 h with rfl | h
    · omega
    · have := ih h; omega

section
variable {S : Nat → Prop} {w : World} {base sb : Nat} {mv : Option Nat} {room left : Int} {fs : List (Int × FV)} {armed stopped : Bool}

/-- A step of the range: a file that is still to come. -/
theorem files_next {wr : World} {b r n : Nat} {lf : Lit → Bool} {cnt : Nat} (h : wr.ranges Tryd.prog 3 heldE b r n (datum fs) lf cnt) (ty : TypeId) :
    (cnt = 0 ∧ (∀ kl, lf kl = false) ∧ (Instr.next (.pointer (some ⟨r, 0, none⟩)) false ty).run Tryd.prog wr = .ok (.tuple #[.bool false]) wr) ∨
    ∃ (x : Int) (f : FV) (w' : World) (cnt' : Nat), (x, f) ∈ fs ∧ lf (.int .i64 x) = true ∧ (Instr.next (.pointer (some ⟨r, 0, none⟩)) false ty).run Tryd.prog wr = .ok (.tuple #[.bool true, .int .i64 x, f.val]) w' ∧
      w'.ranges Tryd.prog 3 heldE b r n (datum fs) (fun z => lf z && !z.sameKey (.int .i64 x)) cnt' ∧ cnt' < cnt ∧ wr.grownBy w' (some r) ∧ w'.heap.size = wr.heap.size ∧
      (Instr.entry (.pointer (some ⟨r, 0, none⟩))).run Tryd.prog w' = .ok (.tuple #[.int .i64 x, f.val]) w' := by
  rcases h.next key_int ty with h0 | ⟨key, v, kl, y, w', cnt', hkey, hlk, hv, hat, hrun, hrg, hlt, hgr, hsz, hen⟩
  · exact .inl h0
  · obtain ⟨x, rfl, rfl, _⟩ := Maps.keyOf_i64 Tryd.underlying3 hkey
    have hy : y.1 = .held v := by
      have := hv
      simp only [heldE, Option.some.injEq] at this
      rw [← this]
    have hs : (fget fs x).isSome = true := by rw [← datum_has]; exact Maps.has_true_of_atKey hat
    obtain ⟨f, hf⟩ := Option.isSome_iff_exists.1 hs
    have hfv : f.val = v := by
      have h1 := hat (.held FV.zero.val)
      rw [datum_at, hf, hy] at h1
      simpa using h1
    subst hfv
    exact .inr ⟨x, f, w', cnt', mem_fget hf, hlk, hrun, hrg, hlt, hgr, hsz, hen⟩

/-- What Used hands back. -/
def UsedRes (w : World) (n : Nat) (e : Ending) (w' : World) : Prop := e = .returned (.int .i64 (n : Int)) ∧ Below w.heap.size w w'

theorem wpList_next_files {ops : Array Oper} {rst : List Oper} {o : Oper} {a : Act} {Q : Exit → Act → World → Prop} {wr : World} (hg : o.guard = none) (it : Operand) (hop : o.op = Op.next it false) (b r n : Nat) (lf : Lit → Bool) (cnt : Nat)
    (hit : a.eval it = .pointer (some ⟨r, 0, none⟩)) (h : wr.ranges Tryd.prog 3 heldE b r n (datum fs) lf cnt) (hform : ∀ p ∈ fs, ∃ A n c, p.2.v = .slice A n c)
    (hDone : (∀ kl, lf kl = false) → wpList Tryd.prog ops Q rst (a.put o.dst (.tuple #[.bool false])) wr)
    (hMore : ∀ (x : Int) (A : Option Addr) (n' c s : Nat) (zs : List Nat) (w' : World) (cnt' : Nat), (x, (⟨.slice A n' c, zs, s⟩ : FV)) ∈ fs → lf (.int .i64 x) = true →
      w'.ranges Tryd.prog 3 heldE b r n (datum fs) (fun z => lf z && !z.sameKey (.int .i64 x)) cnt' → cnt' < cnt → wr.grownBy w' (some r) →
      (Instr.entry (.pointer (some ⟨r, 0, none⟩))).run Tryd.prog w' = .ok (.tuple #[.int .i64 x, .agg #[.slice A n' c, .int .i64 (s : Int)]]) w' → wpList Tryd.prog ops Q rst (a.put o.dst (.tuple #[.bool true, .int .i64 x, .agg #[.slice A n' c, .int .i64 (s : Int)]])) w') :
    wpList Tryd.prog ops Q (o :: rst) a wr := by
  refine wpList_plain hg fun K' hK' => ?_
  unfold Oper.wp
  rcases files_next h o.type with ⟨_, hl, hrun⟩ | ⟨x, f, w', cnt', hm, hlk, hrun, hrg, hlt, hgr, _, hen⟩
  · simp [execOp, hop, hit, hrun, Result.andThen]
    exact hK' _ _ (hDone hl)
  · obtain ⟨A, n', c, hv⟩ := hform _ hm
    obtain ⟨v, zs, s⟩ := f
    dsimp only at hv
    subst hv
    simp [execOp, hop, hit, hrun, Result.andThen, FV.val]
    exact hK' _ _ (hMore x A n' c s zs w' cnt' hm hlk hrg hlt hgr hen)

theorem DiskAt.form (h : DiskAt w S base sb mv room fs armed left stopped) : ∀ p ∈ fs, ∃ A n c, p.2.v = .slice A n c := fun p hp => by
  obtain ⟨A, c, hv, _⟩ := (h.file p hp).own.form
  exact ⟨A, _, c, hv⟩
theorem DiskAt.len (h : DiskAt w S base sb mv room fs armed left stopped) {x : Int} {A : Option Addr} {n c s : Nat} {zs : List Nat} (hm : (x, (⟨.slice A n c, zs, s⟩ : FV)) ∈ fs) : zs.length = n := by
  obtain ⟨A', c', hv, _⟩ := (h.file _ hm).own.form
  injection hv with _ h2 _
  exact h2.symm

set_option maxRecDepth 100000 in
set_option maxHeartbeats 1000000 in
theorem used_any (h : DiskAt w S base sb mv room fs armed left stopped) (ht : total fs ≤ 4611686018427387904) :
    Calls Tryd.prog 11 #[.pointer (some ⟨sb, 0, none⟩)] w (UsedRes w (total fs)) := by
  have c1 := h.c1
  rcases h.map with ⟨rfl, rfl⟩ | ⟨b, rfl, ho, _⟩
  · have hrg := run_range_nilMap (P := Tryd.prog) w 43 3 55 Tryd.underlying43
    have hnx : ∀ ty, (Instr.next (.pointer (some ⟨w.heap.size, 0, none⟩)) false ty).run Tryd.prog (w.alloc (.mapIter none 0 #[] 0)) = _ := fun ty => run_next_nilMap _ ty 0 0 #[]
    clear h
    go_enter Tryd.func11, Tryd.ntmps11
    go_wp2
    refine wp_loop_rounds 1 ?_
    rw [rounds_succ]
    go_wp2
    go_ret
    exact ⟨rfl, (Below.refl _ _).alloc (Nat.le_refl _) _⟩
  · have HD := Lib.hid h
    have HT := Lib.hid ht
    have HU := Lib.hid h.up
    have hlow := ho.lt
    clear h ht
    go_enter Tryd.func11, Tryd.ntmps11
    go_wp2_with (first
      | (at_range; refine wpList_range_own _ rfl _ 43 rfl 3 55 key_int Tryd.underlying43 _ b fs.length _ rfl ho ?_; intro w0 hrg0 hg0 hs0)
      | go_in)
    go_frame
    go_loopw [3] (fun u wr => ∃ (lf : Lit → Bool) (cnt m : Nat), wr.ranges Tryd.prog 3 heldE b w.heap.size fs.length (datum fs) lf cnt ∧ u = .int .i64 (m : Int) ∧ m + rest lf fs = total fs ∧ Below w.heap.size w wr ∧ w.heap.size < wr.heap.size)
      (fun _ wr => wr.rangeLeft b w.heap.size)
    case atStart =>
      refine ⟨_, _, 0, hrg0, rfl, ?_, (Below.refl _ _).grown hg0 (Nat.le_refl _) (fun g he => by cases he), by omega⟩
      rw [Nat.zero_add]
      refine rest_all fun p hp => ?_
      rw [datum_has]
      unfold fget
      rw [Option.isSome_map, List.find?_isSome]
      exact ⟨p, hp, by simp⟩
    case round =>
      obtain ⟨lf, cnt, m, hrg, rfl, hm, hbl, hsz⟩ := hrel
      go_wp2_with (first
        | (at_next; refine wpList_next_files rfl _ rfl b w.heap.size fs.length lf cnt rfl hrg HD.out.form ?_ ?_)
        | go_in)
      · intro hl0
        rw [rest_none hl0, Nat.add_zero] at hm
        subst hm
        go_wp2
        go_ret
        exact ⟨rfl, hbl⟩
      · intro x A n' c s zs w2 cnt2 hmem hlk hrg2 hlt hg2 hen
        have hstep := rest_step HU.out hmem hlk
        have hlen := HD.out.len hmem
        have hz2 := hg2.size
        have hb2 : Below w.heap.size w w2 := hbl.grown hg2 (by omega) (fun g he => by injection he with he; omega)
        have hsum : m + n' + rest (fun z => lf z && !z.sameKey (.int .i64 x)) fs = total fs := by rw [← hlen, ← hm, hstep]; simp only; omega
        have hle : m + n' ≤ 4611686018427387904 := by have := HT.out; omega
        have HS := Lib.hid hsum
        have HB := Lib.hid hb2
        clear hstep hlen hm hsum hb2 hbl hmem hlk hg2
        go_wp2
        go_roundw
        case rel => exact ⟨_, cnt2, m + n', hrg2.alloc _, by go_num, HS.out, HB.out.alloc (by omega) _, by simp; omega⟩
        case measure => rw [(hrg2.alloc _).left_eq, hrg.left_eq]; exact hlt
end
end Go.Proofs.YtopogffoiofgbaaDoor
