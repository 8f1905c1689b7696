/-
  The program's operationOf and Do by their contracts.
-/
import Derived.Test.YteifgmdaggiaaaaGreatDoorWOpsClone
import Derived.Test.YteifgmdaggiaaaaGreatDoorWGrF
import Derived.Test.YteifgmdaggiaaaaGreatDoorWOpsAuthFn
import Derived.Test.YteifgmdaggiaaaaGreatDoorWOpsChgG
import Derived.Test.YteifgmdaggiaaaaGreatDoorWGrE
import Derived.Test.YteifgmdaggiaaaaGreatDoorWGrD
set_option linter.unusedSimpArgs false
namespace Go.Proofs.YteifgmdaggiaaaaGreatDoor
open Go Go.RowKit
set_option linter.unusedVariables false
theorem st_func (a : Addr) (f : Fn) (x y : Array Value) (m : Mode) (w : World) : (store a (.func f x y) m).run Tryz.prog w = stored Tryz.prog w a (.func f x y) m := run_store Tryz.prog w a _ m rfl
set_option maxRecDepth 100000 in
theorem opOf_0 (w : World) : Calls Tryz.prog 101 #[.int .i64 0] w fun e w' => e = .returned (.func (.func 131) #[] #[]) ∧ Below w.heap.size w w' := by
 have hst := st_func
 go_enter Tryz.func101, Tryz.ntmps101
 go_wp2
 go_ret
 exact ⟨rfl, (Below.refl _ _).alloc (Nat.le_refl _) _⟩
set_option maxRecDepth 100000 in
theorem opOf_1 (w : World) : Calls Tryz.prog 101 #[.int .i64 1] w fun e w' => e = .returned (.func (.func 132) #[] #[]) ∧ Below w.heap.size w w' := by
 have hst := st_func
 go_enter Tryz.func101, Tryz.ntmps101
 go_wp2
 go_ret
 exact ⟨rfl, (Below.refl _ _).alloc (Nat.le_refl _) _⟩
set_option maxRecDepth 100000 in
theorem opOf_2 (w : World) : Calls Tryz.prog 101 #[.int .i64 2] w fun e w' => e = .returned (.func (.func 133) #[] #[]) ∧ Below w.heap.size w w' := by
 have hst := st_func
 go_enter Tryz.func101, Tryz.ntmps101
 go_wp2
 go_ret
 exact ⟨rfl, (Below.refl _ _).alloc (Nat.le_refl _) _⟩
set_option maxRecDepth 100000 in
theorem opOf_3 (w : World) : Calls Tryz.prog 101 #[.int .i64 3] w fun e w' => e = .returned (.func (.func 134) #[] #[]) ∧ Below w.heap.size w w' := by
 have hst := st_func
 go_enter Tryz.func101, Tryz.ntmps101
 go_wp2
 go_ret
 exact ⟨rfl, (Below.refl _ _).alloc (Nat.le_refl _) _⟩
set_option maxRecDepth 100000 in
theorem opOf_4 (w : World) : Calls Tryz.prog 101 #[.int .i64 4] w fun e w' => e = .returned (.func (.func 135) #[] #[]) ∧ Below w.heap.size w w' := by
 have hst := st_func
 go_enter Tryz.func101, Tryz.ntmps101
 go_wp2
 go_ret
 exact ⟨rfl, (Below.refl _ _).alloc (Nat.le_refl _) _⟩
set_option maxRecDepth 100000 in
theorem opOf_5 (w : World) : Calls Tryz.prog 101 #[.int .i64 5] w fun e w' => e = .returned (.func (.func 136) #[] #[]) ∧ Below w.heap.size w w' := by
 have hst := st_func
 go_enter Tryz.func101, Tryz.ntmps101
 go_wp2
 go_ret
 exact ⟨rfl, (Below.refl _ _).alloc (Nat.le_refl _) _⟩
set_option maxRecDepth 100000 in
theorem opOf_6 (w : World) : Calls Tryz.prog 101 #[.int .i64 6] w fun e w' => e = .returned (.func (.func 137) #[] #[]) ∧ Below w.heap.size w w' := by
 have hst := st_func
 go_enter Tryz.func101, Tryz.ntmps101
 go_wp2
 go_ret
 exact ⟨rfl, (Below.refl _ _).alloc (Nat.le_refl _) _⟩
set_option maxRecDepth 100000 in
theorem opOf_7 (w : World) : Calls Tryz.prog 101 #[.int .i64 7] w fun e w' => e = .returned (.func (.func 138) #[] #[]) ∧ Below w.heap.size w w' := by
 have hst := st_func
 go_enter Tryz.func101, Tryz.ntmps101
 go_wp2
 go_ret
 exact ⟨rfl, (Below.refl _ _).alloc (Nat.le_refl _) _⟩
set_option maxRecDepth 100000 in
theorem opOf_no (k : Int) (w : World) (h : ¬ (0 ≤ k ∧ k ≤ 7)) : Calls Tryz.prog 101 #[.int .i64 k] w fun e w' => e = .returned (.func (.func 139) #[] #[]) ∧ Below w.heap.size w w' := by
 by_cases h0 : k < 0
 · have q := decide_eq_true h0
   clear h
   have hst := st_func
   go_enter Tryz.func101, Tryz.ntmps101
   go_wp2
   go_ret
   exact ⟨rfl, (Below.refl _ _).alloc (Nat.le_refl _) _⟩
 · have q := decide_eq_false h0
   have q2 := decide_eq_true (show 8 ≤ k by omega)
   clear h h0
   have hst := st_func
   go_enter Tryz.func101, Tryz.ntmps101
   go_wp2
   go_ret
   exact ⟨rfl, (Below.refl _ _).alloc (Nat.le_refl _) _⟩
theorem StAt.re {w : World} {s : St} {X Y X' Y' : Value} {A : Option Addr} {c : Nat} {B : Option Addr} {d : Nat} (h : StAt w s X Y A c B d) : StAt w s X' Y' A c B d := ⟨h.accs, h.pays, h.sa, h.sp⟩
theorem OwnS.more {α : Type} {S : Shape α} {w : World} {b0 base : Nat} {v : Value} {zs : List α} (h : OwnS S w b0 v zs) (hb : ∀ b, v.ownBlock = some b → base ≤ b) : OwnS S w base v zs := by
 refine ⟨h.1, ?_⟩
 rcases h.2 with h | ⟨g, cap, cur, hv, hg, r⟩
 · exact .inl h
 · exact .inr ⟨g, cap, cur, hv, hb g (by rw [hv]; rfl), r⟩
theorem OwnA.more {w : World} {b0 base : Nat} {v : Value} {zs : List Ac} (h : OwnA w b0 v zs) (hb : ∀ b, v.ownBlock = some b → base ≤ b) : OwnA w base v zs := by
 refine ⟨h.1, ?_⟩
 rcases h.2 with h | ⟨g, cap, cur, hv, hg, r⟩
 · exact .inl h
 · exact .inr ⟨g, cap, cur, hv, hb g (by rw [hv]; rfl), r⟩
theorem told_ownS {α : Type} {S : Shape α} {W : World} {base g k : Nat} {v : Value} {zs : List α} (h : OwnS S W base v zs) (hg : g < base) (hk : k < base) (a b x y z e i : Value) :
  OwnS S (((((((W.setCell ⟨g, 0, none⟩ a).setCell ⟨g, 1, none⟩ b).setCell ⟨g, 2, none⟩ x).setCell ⟨g, 3, none⟩ y).setCell ⟨g, 4, none⟩ z).setCell ⟨k, 0, none⟩ e).setCell ⟨k, 1, none⟩ i) base v zs := by
 have n2 : ∀ j, v.ownBlock = some j → j ≠ g := fun j e => by have := h.rowLt j e; omega
 have n3 : ∀ j, v.ownBlock = some j → j ≠ k := fun j e => by have := h.rowLt j e; omega
 exact ((((((h.setOther (p := ⟨g, 0, none⟩) n2).setOther (p := ⟨g, 1, none⟩) n2).setOther (p := ⟨g, 2, none⟩) n2).setOther (p := ⟨g, 3, none⟩) n2).setOther (p := ⟨g, 4, none⟩) n2).setOther (p := ⟨k, 0, none⟩) n3).setOther (p := ⟨k, 1, none⟩) n3
theorem Blk.on {F : Nat → Prop} {w w' : World} {g : Nat} {t : TypeId} {vs : Array Value} (h : Blk w g t vs) (ho : On F w w') (hF : F g) : Blk w' g t vs := (ho.block g hF).trans h
/-- A state and a reply are told; sagas and keys read as they did; nothing below is turned. -/
def DoRes (w : World) (T : St) (sl : List Sg) (kl : List Kn) (E I : Int) (e : Ending) (w' : World) : Prop :=
 ∃ X Y A c B d, e = .returned (.tuple #[stV T X Y A c B d, .agg #[.int .i64 E, .int .i64 I]]) ∧ StAt w' T X Y A c B d ∧ RdV sagas w' X sl ∧ RdV known w' Y kl ∧ Below w.heap.size w w'
/-- The block of a slice that is not empty. -/
def fullBlock : Value → Option Nat
 | .slice (some a) (_ + 1) _ => some a.block
 | _ => none
theorem full_own {v : Value} {b : Nat} (h : fullBlock v = some b) : v.ownBlock = some b := by
 unfold fullBlock at h
 split at h
 · exact h
 · cases h
/-- All blocks of a state's slices that are not empty have p. -/
def inP (p : Nat → Prop) (A : Option Addr) (n : Nat) (B : Option Addr) (q : Nat) (X Y : Value) : Prop := (0 < n → ∀ a, A = some a → p a.block) ∧ (0 < q → ∀ a, B = some a → p a.block) ∧ (∀ b, fullBlock X = some b → p b) ∧ (∀ b, fullBlock Y = some b → p b)
/-- The same; what is told lies in new blocks, or in those that came in. -/
def DoResF (w : World) (Q0 : (Nat → Prop) → Prop) (T : St) (sl : List Sg) (kl : List Kn) (E I : Int) (e : Ending) (w' : World) : Prop :=
 ∃ X Y A c B d, e = .returned (.tuple #[stV T X Y A c B d, .agg #[.int .i64 E, .int .i64 I]]) ∧ StAt w' T X Y A c B d ∧ RdV sagas w' X sl ∧ RdV known w' Y kl ∧ Below w.heap.size w w' ∧ ∀ p : Nat → Prop, (∀ b, w.heap.size ≤ b → p b) → Q0 p → inP p A T.acs.length B T.pys.length X Y
theorem DoResF.res {w w' : World} {Q0 : (Nat → Prop) → Prop} {T : St} {sl : List Sg} {kl : List Kn} {E I : Int} {e : Ending} (h : DoResF w Q0 T sl kl E I e w') : DoRes w T sl kl E I e w' := by
 obtain ⟨X, Y, A, c, B, d, h1, h2, h3, h4, h5, _⟩ := h
 exact ⟨X, Y, A, c, B, d, h1, h2, h3, h4, h5⟩
theorem d4_all (w : World) (vs rs : Array Value) : 
  Blk ((((w.alloc (.cells vs 35)).alloc (.cells rs 42)).alloc (.cells st0 35)).alloc (.cells rp0 46)) w.heap.size 35 vs ∧
  Blk ((((w.alloc (.cells vs 35)).alloc (.cells rs 42)).alloc (.cells st0 35)).alloc (.cells rp0 46)) (w.heap.size + 1) 42 rs ∧
  Blk ((((w.alloc (.cells vs 35)).alloc (.cells rs 42)).alloc (.cells st0 35)).alloc (.cells rp0 46)) (w.heap.size + 1 + 1) 35 st0 ∧
  Blk ((((w.alloc (.cells vs 35)).alloc (.cells rs 42)).alloc (.cells st0 35)).alloc (.cells rp0 46)) (w.heap.size + 1 + 1 + 1) 46 rp0 ∧
  Below w.heap.size w ((((w.alloc (.cells vs 35)).alloc (.cells rs 42)).alloc (.cells st0 35)).alloc (.cells rp0 46)) := by
 refine ⟨(((Blk.new w _ _).more _).more _).more _, ?_, ?_, ?_, ((((Below.refl w.heap.size w).alloc (Nat.le_refl _) _).alloc (by simp) _).alloc (by simp; omega) _).alloc (by simp; omega) _⟩
 · have h := ((Blk.new (w.alloc (.cells vs 35)) 42 rs).more (.cells st0 35)).more (.cells rp0 46)
   rw [alloc_size] at h
   exact h
 · have h := (Blk.new ((w.alloc (.cells vs 35)).alloc (.cells rs 42)) 35 st0).more (.cells rp0 46)
   rw [alloc_size, alloc_size] at h
   exact h
 · have h := Blk.new (((w.alloc (.cells vs 35)).alloc (.cells rs 42)).alloc (.cells st0 35)) 46 rp0
   rw [alloc_size, alloc_size, alloc_size] at h
   exact h
set_option maxRecDepth 100000 in
set_option maxHeartbeats 1000000 in
theorem do_err (f : FuncId) (s T : St) (r : Rq) (X Y : Value) (A : Option Addr) (c : Nat) (B : Option Addr) (d : Nat) (sl : List Sg) (kl : List Kn) (w : World) (hs : StAt w s X Y A c B d) (hX : RdV sagas w X sl) (hY : RdV known w Y kl) (hh : HasErr w) (hn : s.acs.length ≤ 64) (hq : s.pys.length ≤ 2000000) (hsl : sl.length ≤ 2000000) (hkl : kl.length ≤ 2000000) (E I : Int) (HOP : ∀ W, Calls Tryz.prog 101 #[.int .i64 r.op] W fun e w' => e = .returned (.func (.func f) #[] #[]) ∧ Below W.heap.size W w') (HC : ∀ args W, (callFunc f args).run Tryz.prog W = .ok (.enter f args) W) (HM : ∀ (F : Nat → Prop) (g : Nat) (va vp X Y : Value) (W : World), Dr F W g va vp X Y s → Calls Tryz.prog f #[.pointer (some ⟨g, 0, none⟩), r.val] W (DrI F W g X Y T I E)) (hE : ¬ E = 0) :
  Calls Tryz.prog 75 #[stV s X Y A c B d, r.val] w (DoResF w (fun p => inP p A s.acs.length B s.pys.length X Y) s sl kl E 0) := by
 obtain ⟨zs, ps, now⟩ := s
 obtain ⟨k, o, a, b, m, l, u⟩ := r
 obtain ⟨XA, XC, rfl, hxr, hxs⟩ := hX
 obtain ⟨YA, YC, rfl, hyr, hys⟩ := hY
 unfold DrI at HM
 simp only [errV, if_neg hE] at HM
 unfold stV Rq.val at *
 dsimp only at *
 obtain ⟨n, hn'⟩ : ∃ n, zs.length = n := ⟨_, rfl⟩
 obtain ⟨q, hq'⟩ : ∃ q, ps.length = q := ⟨_, rfl⟩
 obtain ⟨xn, hxn⟩ : ∃ xn, sl.length = xn := ⟨_, rfl⟩
 obtain ⟨yn, hyn⟩ : ∃ yn, kl.length = yn := ⟨_, rfl⟩
 have HN := Lib.hid hn'
 have HQ := Lib.hid hq'
 have HXN := Lib.hid hxn
 have HYN := Lib.hid hyn
 have HXV : Hid (RdV sagas w (.slice XA sl.length XC) sl) := Lib.hid ⟨XA, XC, rfl, hxr, hxs⟩
 have HYV : Hid (RdV known w (.slice YA kl.length YC) kl) := Lib.hid ⟨YA, YC, rfl, hyr, hys⟩
 have HST := Lib.hid hs
 obtain ⟨q1, q2, q3, q4, q5⟩ := d4_all w #[.slice A n c, .slice B q d, .slice XA xn XC, .slice YA yn YC, .int .i64 now] (rqC k o a b m l u)
 have HBS := Lib.hid q1
 have HBR := Lib.hid q2
 have HB2 := Lib.hid q3
 have HB3 := Lib.hid q4
 have HBL := Lib.hid q5
 have HDF := Lib.hid (fun W (hb : Below w.heap.size w W) => draftOf_any ⟨zs, ps, now⟩ (.slice XA sl.length XC) (.slice YA kl.length YC) A c B d sl kl W (hs.below hb) (HXV.out.below hb) (HYV.out.below hb) (by omega) (by omega) hsl hkl)
 have HH := Lib.hid (fun W (hb : Below w.heap.size w W) => hh.below hb)
 have HNB := Lib.hid (fun W (hb : Below w.heap.size w W) => number_of E W (hh.below hb))
 simp only [errV, if_neg hE] at HNB
 unfold DrOf stV at HDF
 dsimp only at HDF
 simp only [hn', hq', hxn, hyn] at HDF HXV HYV ⊢
 have HHM := Lib.hid HM
 have HOPH := Lib.hid HOP
 clear hs hxr hxs hyr hys hh HM HOP hn' hq' hxn hyn q1 q2 q3 q4 q5 hn hq hsl hkl
 go_enter Tryz.func75, Tryz.ntmps75
 go_upto_region 1 with fail
 generalize ((((w.alloc (.cells #[.slice A n c, .slice B q d, .slice XA xn XC, .slice YA yn YC, .int .i64 now] 35)).alloc (.cells (rqC k o a b m l u) 42)).alloc (.cells st0 35)).alloc (.cells rp0 46)) = w4 at HBS HBR HB2 HB3 HBL ⊢
 obtain ⟨x0, x1, x2, x3, x4⟩ := (show _ ∧ _ ∧ _ ∧ _ ∧ _ from ⟨HBS.out.cell 0 rfl, HBS.out.cell 1 rfl, HBS.out.cell 2 rfl, HBS.out.cell 3 rfl, HBS.out.cell 4 rfl⟩)
 go_upto_region 2 with (first | (go_at_call 100; refine (HDF.out _ HBL.out).mono ?_; rintro _ w5 ⟨g, va, vp, vX, vY, rfl, hd, hx, hy, hb5⟩))
 clear x0 x1 x2 x3 x4
 have hsz4 : w.heap.size + 1 + 1 + 1 < w4.heap.size := HB3.out.lt
 have HX5 := Lib.hid hx
 have HY5 := Lib.hid hy
 have HD5 := Lib.hid hd
 have HB5 := Lib.hid hb5
 obtain ⟨F, hF⟩ : ∃ F : Nat → Prop, F = (fun b => b < w4.heap.size ∨ vX.ownBlock = some b ∨ vY.ownBlock = some b) := ⟨_, rfl⟩
 rw [← hF] at HD5
 have HFL : Hid (∀ b, b < w4.heap.size → F b) := Lib.hid (fun b hb => by rw [hF]; exact .inl hb)
 have HFX : Hid (∀ b, vX.ownBlock = some b → F b) := Lib.hid (fun b hb => by rw [hF]; exact .inr (.inl hb))
 have HFY : Hid (∀ b, vY.ownBlock = some b → F b) := Lib.hid (fun b hb => by rw [hF]; exact .inr (.inr hb))
 clear hF hd hx hy hb5
 have HR5 := Lib.hid (HBR.out.later HB5.out)
 refine wp_region_held_drew (S := fun w' => On F w5 w') (by kernel_rfl) (On.refl F w5).drew (fun hHeld => ?_)
 refine tk 0 12 (v := ?_) ?_ ?_
 rotate_left
 · intro w' hSw
   go_simp
   (try with_reducible rfl)
 (try simp only [Act.put, sA, sB, sC])
 refine tk 1 13 (v := ?_) ?_ ?_
 rotate_left
 · intro w' hSw
   have hSw' := hSw
   (try dsimp only at hSw')
   obtain ⟨k0, k1, k2, k3, k4, k5, k6⟩ := (show _ ∧ _ ∧ _ ∧ _ ∧ _ ∧ _ ∧ _ from ⟨(HR5.out.on hSw' (HFL.out _ (by omega))).cell 0 rfl, (HR5.out.on hSw' (HFL.out _ (by omega))).cell 1 rfl, (HR5.out.on hSw' (HFL.out _ (by omega))).cell 2 rfl, (HR5.out.on hSw' (HFL.out _ (by omega))).cell 3 rfl, (HR5.out.on hSw' (HFL.out _ (by omega))).cell 4 rfl, (HR5.out.on hSw' (HFL.out _ (by omega))).cell 5 rfl, (HR5.out.on hSw' (HFL.out _ (by omega))).cell 6 rfl⟩)
   go_simp
   (try with_reducible rfl)
 (try simp only [Act.put, sA, sB, sC])
 refine tk 3 15 (v := ?_) ?_ ?_
 rotate_left
 · intro w' hSw
   go_simp
   (try with_reducible rfl)
 (try simp only [Act.put, sA, sB, sC])
 refine tk 4 16 (v := ?_) ?_ ?_
 rotate_left
 · intro w' hSw
   have hSw' := hSw
   (try dsimp only at hSw')
   obtain ⟨k0, k1, k2, k3, k4, k5, k6⟩ := (show _ ∧ _ ∧ _ ∧ _ ∧ _ ∧ _ ∧ _ from ⟨(HR5.out.on hSw' (HFL.out _ (by omega))).cell 0 rfl, (HR5.out.on hSw' (HFL.out _ (by omega))).cell 1 rfl, (HR5.out.on hSw' (HFL.out _ (by omega))).cell 2 rfl, (HR5.out.on hSw' (HFL.out _ (by omega))).cell 3 rfl, (HR5.out.on hSw' (HFL.out _ (by omega))).cell 4 rfl, (HR5.out.on hSw' (HFL.out _ (by omega))).cell 5 rfl, (HR5.out.on hSw' (HFL.out _ (by omega))).cell 6 rfl⟩)
   go_simp
   (try with_reducible rfl)
 (try simp only [Act.put, sA, sB, sC])
 refine wpAnyH_ready (rs := [2]) (by kernel_rfl) (by simp) ?_
 refine AllReadyH.cons (i := 2) rfl (fun K hK => ?_) AllReadyH.nil
 go_simp
 go_at_call 101
 refine (HOPH.out _).mono ?_
 rintro _ w6 ⟨rfl, hb6⟩
 have hb6' : Below w5.heap.size w5 w6 := (Below.refl w5.heap.size w5).drew.trans hb6
 clear hb6
 refine hK.out _ _ (HD5.out.on hb6') (fun hHeld => ?_)
 clear hK K
 (try simp only [Act.put, sA, sB, sC])
 refine wpAnyH_ready (rs := [5]) (by kernel_rfl) (by simp) ?_
 refine AllReadyH.cons (i := 5) rfl (fun K hK => ?_) AllReadyH.nil
 go_simp
 refine (HHM.out F g va vp vX vY _ (HD5.out.below hb6')).mono ?_
 rintro _ w7 ⟨va7, vp7, rfl, hd7, ho7⟩
 have ho7' : On F w5 w7 := (HD5.out.on hb6').trans ho7
 clear ho7
 refine hK.out _ _ ho7' (fun hHeld => ?_)
 clear hK K
 (try simp only [Act.put, sA, sB, sC])
 refine tk 6 11 (v := ?_) ?_ ?_
 rotate_left
 · intro w' hSw
   go_simp
   (try with_reducible rfl)
 (try simp only [Act.put, sA, sB, sC])
 refine tk 7 18 (v := ?_) ?_ ?_
 rotate_left
 · intro w' hSw
   go_simp
   (try with_reducible rfl)
 (try simp only [Act.put, sA, sB, sC])
 refine tk 8 19 (v := ?_) ?_ ?_
 rotate_left
 · intro w' hSw
   go_simp
   (try with_reducible rfl)
 (try simp only [Act.put, sA, sB, sC])
 refine tk 9 7 (v := ?_) ?_ ?_
 rotate_left
 · intro w' hSw
   go_simp
   (try with_reducible rfl)
 (try simp only [Act.put, sA, sB, sC])
 refine tk 10 8 (v := ?_) ?_ ?_
 rotate_left
 · intro w' hSw
   go_simp
   (try with_reducible rfl)
 (try simp only [Act.put, sA, sB, sC])
 refine wpAnyH_done (by kernel_rfl) ?_ _
 have HD7 := Lib.hid hd7
 have HO7 := Lib.hid ho7'
 clear hd7 ho7' hHeld
 have HB7 := Lib.hid (HO7.out.below HFL.out)
 have HS7 := Lib.hid (Blk.on (HBS.out.later HB5.out) HO7.out (HFL.out _ (by omega)))
 have H27 := Lib.hid (Blk.on (HB2.out.later HB5.out) HO7.out (HFL.out _ (by omega)))
 have H37 := Lib.hid (Blk.on (HB3.out.later HB5.out) HO7.out (HFL.out _ (by omega)))
 have HX7 := Lib.hid (HX5.out.same (w' := w7) (fun b e => HO7.out.block b (HFX.out b e)))
 have HY7 := Lib.hid (HY5.out.same (w' := w7) (fun b e => HO7.out.block b (HFY.out b e)))
 have HFA := Lib.hid (fun b (e : va7.ownBlock = some b) => Nat.le_of_not_lt fun hb => (HD7.out.ag b e).2.2 (HFL.out b hb))
 have HFP := Lib.hid (fun b (e : vp7.ownBlock = some b) => Nat.le_of_not_lt fun hb => (HD7.out.pg b e).2 (HFL.out b hb))
 have HW7 := Lib.hid ((HBL.out.trans (HB5.out.mono HBL.out.size)).trans (HB7.out.mono HBL.out.size))
 clear HO7 HFX HFY HFL HX5 HY5 HD5 HR5 HBR HBS HB2 HB3 hb6'
 go_upto_region 4 with fail
 refine wp_region_held_drew (S := fun w' => Blk w' w.heap.size 35 #[.slice A n c, .slice B q d, .slice XA xn XC, .slice YA yn YC, .int .i64 now]) (by kernel_rfl) HS7.out.drew (fun hHeld => ?_)
 refine tk 0 22 (v := ?_) ?_ ?_
 rotate_left
 · intro w' hSw
   have hSw' := hSw
   (try dsimp only at hSw')
   obtain ⟨k0, k1, k2, k3, k4⟩ := (show _ ∧ _ ∧ _ ∧ _ ∧ _ from ⟨hSw'.cell 0 rfl, hSw'.cell 1 rfl, hSw'.cell 2 rfl, hSw'.cell 3 rfl, hSw'.cell 4 rfl⟩)
   go_simp
   (try with_reducible rfl)
 (try simp only [Act.put, sA, sB, sC])
 refine tk 1 23 (v := ?_) ?_ ?_
 rotate_left
 · intro w' hSw
   go_simp
   (try with_reducible rfl)
 (try simp only [Act.put, sA, sB, sC])
 refine wpAnyH_ready (rs := [2]) (by kernel_rfl) (by simp) ?_
 refine AllReadyH.cons (i := 2) rfl (fun K hK => ?_) AllReadyH.nil
 go_simp
 go_at_call 73
 refine (HNB.out _ HW7.out.drew).mono ?_
 rintro _ w8 ⟨rfl, hb8⟩
 have hb8' : Below w7.heap.size w7 w8 := (Below.refl w7.heap.size w7).drew.trans hb8
 clear hb8
 refine hK.out _ _ (HS7.out.later hb8') (fun hHeld => ?_)
 clear hK K
 (try simp only [Act.put, sA, sB, sC])
 have H28 := Lib.hid (H27.out.later hb8')
 have H38 := Lib.hid (H37.out.later hb8')
 have HW8 := Lib.hid (HW7.out.trans (hb8'.mono HW7.out.size))
 clear hb8'
 refine tk 3 25 (v := ?_) ?_ ?_
 rotate_left
 · intro w' hSw
   go_simp
   (try with_reducible rfl)
 (try simp only [Act.put, sA, sB, sC])
 obtain ⟨y0, y1, y2, y3, y4⟩ := (show _ ∧ _ ∧ _ ∧ _ ∧ _ from ⟨H28.out.cell 0 rfl, H28.out.cell 1 rfl, H28.out.cell 2 rfl, H28.out.cell 3 rfl, H28.out.cell 4 rfl⟩)
 obtain ⟨f0, f1, f2, f3, f4⟩ := (show _ ∧ _ ∧ _ ∧ _ ∧ _ from ⟨H28.out.loose 0, H28.out.loose 1, H28.out.loose 2, H28.out.loose 3, H28.out.loose 4⟩)
 refine wpAnyH_ready (rs := [4]) (by kernel_rfl) (by simp) ?_
 refine AllReadyH.cons (i := 4) rfl (fun K hK => ?_) AllReadyH.nil
 go_simp
 refine hK.out _ (((((w8.setCell ⟨w.heap.size + 1 + 1, 0, none⟩ (.slice A n c)).setCell ⟨w.heap.size + 1 + 1, 1, none⟩ (.slice B q d)).setCell ⟨w.heap.size + 1 + 1, 2, none⟩ (.slice XA xn XC)).setCell ⟨w.heap.size + 1 + 1, 3, none⟩ (.slice YA yn YC)).setCell ⟨w.heap.size + 1 + 1, 4, none⟩ (.int .i64 now)) (st_other (g := w.heap.size + 1 + 1) hHeld (by omega) (.slice A n c) (.slice B q d) (.slice XA xn XC) (.slice YA yn YC) (.int .i64 now)) (fun hHeld => ?_)
 clear hK K
 (try simp only [Act.put, sA, sB, sC])
 have H29 := Lib.hid (st_put H28.out rfl (.slice A n c) (.slice B q d) (.slice XA xn XC) (.slice YA yn YC) (.int .i64 now))
 have H39 := Lib.hid (st_other H38.out (show w.heap.size + 1 + 1 ≠ w.heap.size + 1 + 1 + 1 by omega) (.slice A n c) (.slice B q d) (.slice XA xn XC) (.slice YA yn YC) (.int .i64 now))
 have HW9 := Lib.hid (st_below HW8.out (show w.heap.size ≤ w.heap.size + 1 + 1 by omega) (.slice A n c) (.slice B q d) (.slice XA xn XC) (.slice YA yn YC) (.int .i64 now))
 clear y0 f0 y1 f1 y2 f2 y3 f3 y4 f4 H28 H38 HW8
 generalize (((((w8.setCell ⟨w.heap.size + 1 + 1, 0, none⟩ (.slice A n c)).setCell ⟨w.heap.size + 1 + 1, 1, none⟩ (.slice B q d)).setCell ⟨w.heap.size + 1 + 1, 2, none⟩ (.slice XA xn XC)).setCell ⟨w.heap.size + 1 + 1, 3, none⟩ (.slice YA yn YC)).setCell ⟨w.heap.size + 1 + 1, 4, none⟩ (.int .i64 now)) = w9 at H29 H39 HW9 hHeld ⊢
 obtain ⟨z0, z1⟩ := (show _ ∧ _ from ⟨H39.out.cell 0 rfl, H39.out.cell 1 rfl⟩)
 obtain ⟨e0, e1⟩ := (show _ ∧ _ from ⟨H39.out.loose 0, H39.out.loose 1⟩)
 refine wpAnyH_ready (rs := [5]) (by kernel_rfl) (by simp) ?_
 refine AllReadyH.cons (i := 5) rfl (fun K hK => ?_) AllReadyH.nil
 go_simp
 refine hK.out _ ((w9.setCell ⟨w.heap.size + 1 + 1 + 1, 0, none⟩ (.int .i64 E)).setCell ⟨w.heap.size + 1 + 1 + 1, 1, none⟩ (.int .i64 0)) (rp_other (g := w.heap.size + 1 + 1 + 1) hHeld (by omega) (.int .i64 E) (.int .i64 0)) (fun hHeld => ?_)
 clear hK K
 (try simp only [Act.put, sA, sB, sC])
 have HT2 := Lib.hid (rp_other H29.out (show w.heap.size + 1 + 1 + 1 ≠ w.heap.size + 1 + 1 by omega) (.int .i64 E) (.int .i64 0))
 have HT3 := Lib.hid (rp_put H39.out rfl (.int .i64 E) (.int .i64 0))
 have HTB := Lib.hid (rp_below HW9.out (show w.heap.size ≤ w.heap.size + 1 + 1 + 1 by omega) (.int .i64 E) (.int .i64 0))
 clear z0 z1 e0 e1 hHeld H29 H39 HW9
 generalize ((w9.setCell ⟨w.heap.size + 1 + 1 + 1, 0, none⟩ (.int .i64 E)).setCell ⟨w.heap.size + 1 + 1 + 1, 1, none⟩ (.int .i64 0)) = w10 at HT2 HT3 HTB ⊢
 refine wpAnyH_done (by kernel_rfl) ?_ _
 go_wp2
 refine bodyPost_ret (results_two (p := 4) (q := 5) (ty := 35) (tz := 46) rfl _ _ (w.heap.size + 1 + 1) (w.heap.size + 1 + 1 + 1) _ _ _ _ (0, 0) _ _ rfl HT2.out Tryz.underlying35 rfl (by kernel_rfl) rfl HT3.out Tryz.underlying46 rfl (by kernel_rfl)) rfl ?_
 exact ⟨.slice XA xn XC, .slice YA yn YC, A, c, B, d, by unfold stV; dsimp only; rw [HN.out, HQ.out], (HST.out.below HTB.out).re, HXV.out.below HTB.out, HYV.out.below HTB.out, HTB.out, fun p _ h => by have h1 := HN.out; have h2 := HQ.out; (try dsimp only at h ⊢); (try simp only [h1, h2] at h ⊢); exact h⟩
set_option maxRecDepth 100000 in
set_option maxHeartbeats 1000000 in
theorem do_yes (f : FuncId) (s T : St) (r : Rq) (X Y : Value) (A : Option Addr) (c : Nat) (B : Option Addr) (d : Nat) (sl : List Sg) (kl : List Kn) (w : World) (hs : StAt w s X Y A c B d) (hX : RdV sagas w X sl) (hY : RdV known w Y kl) (hh : HasErr w) (hn : s.acs.length ≤ 64) (hq : s.pys.length ≤ 2000000) (hsl : sl.length ≤ 2000000) (hkl : kl.length ≤ 2000000) (E I : Int) (HOP : ∀ W, Calls Tryz.prog 101 #[.int .i64 r.op] W fun e w' => e = .returned (.func (.func f) #[] #[]) ∧ Below W.heap.size W w') (HC : ∀ args W, (callFunc f args).run Tryz.prog W = .ok (.enter f args) W) (HM : ∀ (F : Nat → Prop) (g : Nat) (va vp X Y : Value) (W : World), Dr F W g va vp X Y s → Calls Tryz.prog f #[.pointer (some ⟨g, 0, none⟩), r.val] W (DrI F W g X Y T I E)) (hE : E = 0) :
  Calls Tryz.prog 75 #[stV s X Y A c B d, r.val] w (DoResF w (fun p => inP p A s.acs.length B s.pys.length X Y) T sl kl 0 I) := by
 obtain ⟨zs, ps, now⟩ := s
 obtain ⟨k, o, a, b, m, l, u⟩ := r
 obtain ⟨XA, XC, rfl, hxr, hxs⟩ := hX
 obtain ⟨YA, YC, rfl, hyr, hys⟩ := hY
 subst hE
 unfold DrI at HM
 simp only [show errV 0 = .nilIface from rfl] at HM
 unfold stV Rq.val at *
 dsimp only at *
 obtain ⟨n, hn'⟩ : ∃ n, zs.length = n := ⟨_, rfl⟩
 obtain ⟨q, hq'⟩ : ∃ q, ps.length = q := ⟨_, rfl⟩
 obtain ⟨xn, hxn⟩ : ∃ xn, sl.length = xn := ⟨_, rfl⟩
 obtain ⟨yn, hyn⟩ : ∃ yn, kl.length = yn := ⟨_, rfl⟩
 have HN := Lib.hid hn'
 have HQ := Lib.hid hq'
 have HXN := Lib.hid hxn
 have HYN := Lib.hid hyn
 have HXV : Hid (RdV sagas w (.slice XA sl.length XC) sl) := Lib.hid ⟨XA, XC, rfl, hxr, hxs⟩
 have HYV : Hid (RdV known w (.slice YA kl.length YC) kl) := Lib.hid ⟨YA, YC, rfl, hyr, hys⟩
 have HST := Lib.hid hs
 obtain ⟨q1, q2, q3, q4, q5⟩ := d4_all w #[.slice A n c, .slice B q d, .slice XA xn XC, .slice YA yn YC, .int .i64 now] (rqC k o a b m l u)
 have HBS := Lib.hid q1
 have HBR := Lib.hid q2
 have HB2 := Lib.hid q3
 have HB3 := Lib.hid q4
 have HBL := Lib.hid q5
 have HDF := Lib.hid (fun W (hb : Below w.heap.size w W) => draftOf_any ⟨zs, ps, now⟩ (.slice XA sl.length XC) (.slice YA kl.length YC) A c B d sl kl W (hs.below hb) (HXV.out.below hb) (HYV.out.below hb) (by omega) (by omega) hsl hkl)
 have HH := Lib.hid (fun W (hb : Below w.heap.size w W) => hh.below hb)
 have HNB := Lib.hid (fun W (hb : Below w.heap.size w W) => number_of 0 W (hh.below hb))
 unfold DrOf stV at HDF
 dsimp only at HDF
 simp only [hn', hq', hxn, hyn] at HDF HXV HYV ⊢
 have HHM := Lib.hid HM
 have HOPH := Lib.hid HOP
 clear hs hxr hxs hyr hys hh HM HOP hn' hq' hxn hyn q1 q2 q3 q4 q5 hn hq hsl hkl
 go_enter Tryz.func75, Tryz.ntmps75
 go_upto_region 1 with fail
 generalize ((((w.alloc (.cells #[.slice A n c, .slice B q d, .slice XA xn XC, .slice YA yn YC, .int .i64 now] 35)).alloc (.cells (rqC k o a b m l u) 42)).alloc (.cells st0 35)).alloc (.cells rp0 46)) = w4 at HBS HBR HB2 HB3 HBL ⊢
 obtain ⟨x0, x1, x2, x3, x4⟩ := (show _ ∧ _ ∧ _ ∧ _ ∧ _ from ⟨HBS.out.cell 0 rfl, HBS.out.cell 1 rfl, HBS.out.cell 2 rfl, HBS.out.cell 3 rfl, HBS.out.cell 4 rfl⟩)
 go_upto_region 2 with (first | (go_at_call 100; refine (HDF.out _ HBL.out).mono ?_; rintro _ w5 ⟨g, va, vp, vX, vY, rfl, hd, hx, hy, hb5⟩))
 clear x0 x1 x2 x3 x4
 have hsz4 : w.heap.size + 1 + 1 + 1 < w4.heap.size := HB3.out.lt
 have HX5 := Lib.hid hx
 have HY5 := Lib.hid hy
 have HD5 := Lib.hid hd
 have HB5 := Lib.hid hb5
 obtain ⟨F, hF⟩ : ∃ F : Nat → Prop, F = (fun b => b < w4.heap.size ∨ vX.ownBlock = some b ∨ vY.ownBlock = some b) := ⟨_, rfl⟩
 rw [← hF] at HD5
 have HFL : Hid (∀ b, b < w4.heap.size → F b) := Lib.hid (fun b hb => by rw [hF]; exact .inl hb)
 have HFX : Hid (∀ b, vX.ownBlock = some b → F b) := Lib.hid (fun b hb => by rw [hF]; exact .inr (.inl hb))
 have HFY : Hid (∀ b, vY.ownBlock = some b → F b) := Lib.hid (fun b hb => by rw [hF]; exact .inr (.inr hb))
 clear hF hd hx hy hb5
 have HR5 := Lib.hid (HBR.out.later HB5.out)
 refine wp_region_held_drew (S := fun w' => On F w5 w') (by kernel_rfl) (On.refl F w5).drew (fun hHeld => ?_)
 refine tk 0 12 (v := ?_) ?_ ?_
 rotate_left
 · intro w' hSw
   go_simp
   (try with_reducible rfl)
 (try simp only [Act.put, sA, sB, sC])
 refine tk 1 13 (v := ?_) ?_ ?_
 rotate_left
 · intro w' hSw
   have hSw' := hSw
   (try dsimp only at hSw')
   obtain ⟨k0, k1, k2, k3, k4, k5, k6⟩ := (show _ ∧ _ ∧ _ ∧ _ ∧ _ ∧ _ ∧ _ from ⟨(HR5.out.on hSw' (HFL.out _ (by omega))).cell 0 rfl, (HR5.out.on hSw' (HFL.out _ (by omega))).cell 1 rfl, (HR5.out.on hSw' (HFL.out _ (by omega))).cell 2 rfl, (HR5.out.on hSw' (HFL.out _ (by omega))).cell 3 rfl, (HR5.out.on hSw' (HFL.out _ (by omega))).cell 4 rfl, (HR5.out.on hSw' (HFL.out _ (by omega))).cell 5 rfl, (HR5.out.on hSw' (HFL.out _ (by omega))).cell 6 rfl⟩)
   go_simp
   (try with_reducible rfl)
 (try simp only [Act.put, sA, sB, sC])
 refine tk 3 15 (v := ?_) ?_ ?_
 rotate_left
 · intro w' hSw
   go_simp
   (try with_reducible rfl)
 (try simp only [Act.put, sA, sB, sC])
 refine tk 4 16 (v := ?_) ?_ ?_
 rotate_left
 · intro w' hSw
   have hSw' := hSw
   (try dsimp only at hSw')
   obtain ⟨k0, k1, k2, k3, k4, k5, k6⟩ := (show _ ∧ _ ∧ _ ∧ _ ∧ _ ∧ _ ∧ _ from ⟨(HR5.out.on hSw' (HFL.out _ (by omega))).cell 0 rfl, (HR5.out.on hSw' (HFL.out _ (by omega))).cell 1 rfl, (HR5.out.on hSw' (HFL.out _ (by omega))).cell 2 rfl, (HR5.out.on hSw' (HFL.out _ (by omega))).cell 3 rfl, (HR5.out.on hSw' (HFL.out _ (by omega))).cell 4 rfl, (HR5.out.on hSw' (HFL.out _ (by omega))).cell 5 rfl, (HR5.out.on hSw' (HFL.out _ (by omega))).cell 6 rfl⟩)
   go_simp
   (try with_reducible rfl)
 (try simp only [Act.put, sA, sB, sC])
 refine wpAnyH_ready (rs := [2]) (by kernel_rfl) (by simp) ?_
 refine AllReadyH.cons (i := 2) rfl (fun K hK => ?_) AllReadyH.nil
 go_simp
 go_at_call 101
 refine (HOPH.out _).mono ?_
 rintro _ w6 ⟨rfl, hb6⟩
 have hb6' : Below w5.heap.size w5 w6 := (Below.refl w5.heap.size w5).drew.trans hb6
 clear hb6
 refine hK.out _ _ (HD5.out.on hb6') (fun hHeld => ?_)
 clear hK K
 (try simp only [Act.put, sA, sB, sC])
 refine wpAnyH_ready (rs := [5]) (by kernel_rfl) (by simp) ?_
 refine AllReadyH.cons (i := 5) rfl (fun K hK => ?_) AllReadyH.nil
 go_simp
 refine (HHM.out F g va vp vX vY _ (HD5.out.below hb6')).mono ?_
 rintro _ w7 ⟨va7, vp7, rfl, hd7, ho7⟩
 have ho7' : On F w5 w7 := (HD5.out.on hb6').trans ho7
 clear ho7
 refine hK.out _ _ ho7' (fun hHeld => ?_)
 clear hK K
 (try simp only [Act.put, sA, sB, sC])
 refine tk 6 11 (v := ?_) ?_ ?_
 rotate_left
 · intro w' hSw
   go_simp
   (try with_reducible rfl)
 (try simp only [Act.put, sA, sB, sC])
 refine tk 7 18 (v := ?_) ?_ ?_
 rotate_left
 · intro w' hSw
   go_simp
   (try with_reducible rfl)
 (try simp only [Act.put, sA, sB, sC])
 refine tk 8 19 (v := ?_) ?_ ?_
 rotate_left
 · intro w' hSw
   go_simp
   (try with_reducible rfl)
 (try simp only [Act.put, sA, sB, sC])
 refine tk 9 7 (v := ?_) ?_ ?_
 rotate_left
 · intro w' hSw
   go_simp
   (try with_reducible rfl)
 (try simp only [Act.put, sA, sB, sC])
 refine tk 10 8 (v := ?_) ?_ ?_
 rotate_left
 · intro w' hSw
   go_simp
   (try with_reducible rfl)
 (try simp only [Act.put, sA, sB, sC])
 refine wpAnyH_done (by kernel_rfl) ?_ _
 have HD7 := Lib.hid hd7
 have HO7 := Lib.hid ho7'
 clear hd7 ho7' hHeld
 have HB7 := Lib.hid (HO7.out.below HFL.out)
 have HS7 := Lib.hid (Blk.on (HBS.out.later HB5.out) HO7.out (HFL.out _ (by omega)))
 have H27 := Lib.hid (Blk.on (HB2.out.later HB5.out) HO7.out (HFL.out _ (by omega)))
 have H37 := Lib.hid (Blk.on (HB3.out.later HB5.out) HO7.out (HFL.out _ (by omega)))
 have HX7 := Lib.hid (HX5.out.same (w' := w7) (fun b e => HO7.out.block b (HFX.out b e)))
 have HY7 := Lib.hid (HY5.out.same (w' := w7) (fun b e => HO7.out.block b (HFY.out b e)))
 have HFA := Lib.hid (fun b (e : va7.ownBlock = some b) => Nat.le_of_not_lt fun hb => (HD7.out.ag b e).2.2 (HFL.out b hb))
 have HFP := Lib.hid (fun b (e : vp7.ownBlock = some b) => Nat.le_of_not_lt fun hb => (HD7.out.pg b e).2 (HFL.out b hb))
 have HW7 := Lib.hid ((HBL.out.trans (HB5.out.mono HBL.out.size)).trans (HB7.out.mono HBL.out.size))
 clear HO7 HFX HFY HFL HX5 HY5 HD5 HR5 HBR HBS HB2 HB3 hb6'
 obtain ⟨tz, tp, tn⟩ := T
 obtain ⟨A7, c7, rfl, _, _, _, _⟩ := HD7.out.oa.form
 obtain ⟨B7, d7, rfl, _, _, _, _⟩ := HD7.out.op.form
 obtain ⟨X7, e7, rfl, _, _, _, _⟩ := HX7.out.form
 obtain ⟨Y7, i7, rfl, _, _, _, _⟩ := HY7.out.form
 dsimp only at HD7
 obtain ⟨n7, hn7⟩ : ∃ n7, tz.length = n7 := ⟨_, rfl⟩
 obtain ⟨q7, hq7⟩ : ∃ q7, tp.length = q7 := ⟨_, rfl⟩
 have HN7 := Lib.hid hn7
 have HQ7 := Lib.hid hq7
 rw [hn7, hq7] at HD7
 rw [hn7] at HFA
 rw [hq7] at HFP
 rw [HXN.out] at HD7 HX7
 rw [HYN.out] at HD7 HY7
 (try rw [hn7])
 (try rw [hq7])
 (try simp only [hn7, hq7, HXN.out, HYN.out])
 clear hn7 hq7
 obtain ⟨d0, d1, d2, d3, d4⟩ := (show _ ∧ _ ∧ _ ∧ _ ∧ _ from ⟨HD7.out.blk.cell 0 rfl, HD7.out.blk.cell 1 rfl, HD7.out.blk.cell 2 rfl, HD7.out.blk.cell 3 rfl, HD7.out.blk.cell 4 rfl⟩)
 obtain ⟨y0, y1, y2, y3, y4⟩ := (show _ ∧ _ ∧ _ ∧ _ ∧ _ from ⟨H27.out.cell 0 rfl, H27.out.cell 1 rfl, H27.out.cell 2 rfl, H27.out.cell 3 rfl, H27.out.cell 4 rfl⟩)
 obtain ⟨f0, f1, f2, f3, f4⟩ := (show _ ∧ _ ∧ _ ∧ _ ∧ _ from ⟨H27.out.loose 0, H27.out.loose 1, H27.out.loose 2, H27.out.loose 3, H27.out.loose 4⟩)
 obtain ⟨z0, z1⟩ := (show _ ∧ _ from ⟨H37.out.cell 0 rfl, H37.out.cell 1 rfl⟩)
 obtain ⟨e0, e1⟩ := (show _ ∧ _ from ⟨H37.out.loose 0, H37.out.loose 1⟩)
 go_wp2
 have HT := told_at H27.out H37.out rfl rfl (by omega) (.slice A7 n7 c7) (.slice B7 q7 d7) (.slice X7 xn e7) (.slice Y7 yn i7) (.int .i64 tn) (.int .i64 0) (.int .i64 I)
 have HBT := told_below HW7.out (show w.heap.size ≤ w.heap.size + 1 + 1 by omega) (show w.heap.size ≤ w.heap.size + 1 + 1 + 1 by omega) (.slice A7 n7 c7) (.slice B7 q7 d7) (.slice X7 xn e7) (.slice Y7 yn i7) (.int .i64 tn) (.int .i64 0) (.int .i64 I)
 refine bodyPost_ret (results_two (p := 4) (q := 5) (ty := 35) (tz := 46) rfl _ _ (w.heap.size + 1 + 1) (w.heap.size + 1 + 1 + 1) _ _ _ _ (0, 0) _ _ rfl HT.1 Tryz.underlying35 rfl (by kernel_rfl) rfl HT.2 Tryz.underlying46 rfl (by kernel_rfl)) rfl ?_
 have OA := rp_ownA (st_ownA (HD7.out.oa.more HFA.out) (show w.heap.size + 1 + 1 < w4.heap.size by omega) (.slice A7 n7 c7) (.slice B7 q7 d7) (.slice X7 xn e7) (.slice Y7 yn i7) (.int .i64 tn)) (show w.heap.size + 1 + 1 + 1 < w4.heap.size by omega) (.int .i64 0) (.int .i64 I)
 have OP := told_ownS (HD7.out.op.more HFP.out) (show w.heap.size + 1 + 1 < w4.heap.size by omega) (show w.heap.size + 1 + 1 + 1 < w4.heap.size by omega) (.slice A7 n7 c7) (.slice B7 q7 d7) (.slice X7 xn e7) (.slice Y7 yn i7) (.int .i64 tn) (.int .i64 0) (.int .i64 I)
 have OX := told_ownS HX7.out (show w.heap.size + 1 + 1 < w4.heap.size by omega) (show w.heap.size + 1 + 1 + 1 < w4.heap.size by omega) (.slice A7 n7 c7) (.slice B7 q7 d7) (.slice X7 xn e7) (.slice Y7 yn i7) (.int .i64 tn) (.int .i64 0) (.int .i64 I)
 have OY := told_ownS HY7.out (show w.heap.size + 1 + 1 < w4.heap.size by omega) (show w.heap.size + 1 + 1 + 1 < w4.heap.size by omega) (.slice A7 n7 c7) (.slice B7 q7 d7) (.slice X7 xn e7) (.slice Y7 yn i7) (.int .i64 tn) (.int .i64 0) (.int .i64 I)
 exact ⟨.slice X7 xn e7, .slice Y7 yn i7, A7, c7, B7, d7, by unfold stV; dsimp only; rw [HN7.out, HQ7.out], st_own OA OP HN7.out HQ7.out, OX.rdV, OY.rdV, HBT, fun p hp _ => ⟨fun _ a e => hp _ (by subst e; have := HFA.out a.block rfl; omega), fun _ a e => hp _ (by subst e; have := HFP.out a.block rfl; omega), fun b e => hp _ (by have := OX.rowLt b (full_own e); omega), fun b e => hp _ (by have := OY.rowLt b (full_own e); omega)⟩⟩
/-- Do of any request: the state behind it, and what is told. -/
theorem do_allF (s : St) (r : Rq) (X Y : Value) (A : Option Addr) (c : Nat) (B : Option Addr) (d : Nat) (sl : List Sg) (kl : List Kn) (w : World) (hs : StAt w s X Y A c B d) (hX : RdV sagas w X sl) (hY : RdV known w Y kl) (hh : HasErr w) (hrt : rightB s.acs = true) (hp64 : s.pys.length ≤ 2000000) (hsl : sl.length ≤ 2000000) (hkl : kl.length ≤ 2000000) :
  Calls Tryz.prog 75 #[stV s X Y A c B d, r.val] w (DoResF w (fun p => inP p A s.acs.length B s.pys.length X Y) (opS s r) sl kl (opE s r) (opI s r)) := by
 have hn := (right_len hrt).2
 have hq : s.pys.length ≤ 2000000 := by omega
 have key : ∀ (f : FuncId), (∀ W, Calls Tryz.prog 101 #[.int .i64 r.op] W fun e w' => e = .returned (.func (.func f) #[] #[]) ∧ Below W.heap.size W w') → (∀ args W, (callFunc f args).run Tryz.prog W = .ok (.enter f args) W) →
   (∀ (F : Nat → Prop) (g : Nat) (va vp X Y : Value) (W : World), Dr F W g va vp X Y s → Calls Tryz.prog f #[.pointer (some ⟨g, 0, none⟩), r.val] W (DrI F W g X Y (opS s r) (opI s r) (opE s r))) →
   Calls Tryz.prog 75 #[stV s X Y A c B d, r.val] w (DoResF w (fun p => inP p A s.acs.length B s.pys.length X Y) (opS s r) sl kl (opE s r) (opI s r)) := fun f HOP HC HM => by
  by_cases hE : opE s r = 0
  · have h := do_yes f s (opS s r) r X Y A c B d sl kl w hs hX hY hh hn hq hsl hkl (opE s r) (opI s r) HOP HC HM hE
    rw [← hE] at h
    exact h
  · have h := do_err f s (opS s r) r X Y A c B d sl kl w hs hX hY hh hn hq hsl hkl (opE s r) (opI s r) HOP HC HM hE
    rw [opS_no hE, show opI s r = 0 by unfold opI; rw [if_neg hE]]
    exact h
 by_cases h : 0 ≤ r.op ∧ r.op ≤ 7
 · have hx : r.op = 0 ∨ r.op = 1 ∨ r.op = 2 ∨ r.op = 3 ∨ r.op = 4 ∨ r.op = 5 ∨ r.op = 6 ∨ r.op = 7 := by omega
   rcases hx with h0 | h0 | h0 | h0 | h0 | h0 | h0 | h0
   · exact key 131 (fun W => by rw [h0]; exact opOf_0 W) (fun args W => by kernel_rfl) (fun F g va vp X Y W hd => oopen_any F g va vp X Y s r W hd hrt h0)
   · exact key 132 (fun W => by rw [h0]; exact opOf_1 W) (fun args W => by kernel_rfl) (fun F g va vp X Y W hd => odeposit_any F g va vp X Y s r W hd hrt h0)
   · exact key 133 (fun W => by rw [h0]; exact opOf_2 W) (fun args W => by kernel_rfl) (fun F g va vp X Y W hd => otransfer_any F g va vp X Y s r W hd hrt h0)
   · exact key 134 (fun W => by rw [h0]; exact opOf_3 W) (fun args W => by kernel_rfl) (fun F g va vp X Y W hd => oauth_any F g va vp X Y s r W hd hrt h0 hp64)
   · exact key 135 (fun W => by rw [h0]; exact opOf_4 W) (fun args W => by kernel_rfl) (fun F g va vp X Y W hd => ocapture_any F g va vp X Y s r W hd hrt h0 hp64)
   · exact key 136 (fun W => by rw [h0]; exact opOf_5 W) (fun args W => by kernel_rfl) (fun F g va vp X Y W hd => ovoid_any F g va vp X Y s r W hd hrt h0 hp64)
   · exact key 137 (fun W => by rw [h0]; exact opOf_6 W) (fun args W => by kernel_rfl) (fun F g va vp X Y W hd => orefund_any F g va vp X Y s r W hd hrt h0 hp64)
   · exact key 138 (fun W => by rw [h0]; exact opOf_7 W) (fun args W => by kernel_rfl) (fun F g va vp X Y W hd => ocharge_any F g va vp X Y s r W hd hrt h0 hp64)
 · exact key 139 (fun W => opOf_no r.op W h) (fun args W => by kernel_rfl) (fun F g va vp X Y W hd => orefuse_any F g va vp X Y s r W hd h)
end Go.Proofs.YteifgmdaggiaaaaGreatDoor
