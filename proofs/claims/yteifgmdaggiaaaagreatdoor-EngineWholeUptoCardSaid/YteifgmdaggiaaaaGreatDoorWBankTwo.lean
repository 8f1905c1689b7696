/-
  The program's Reserve, Settle and Undo by their contracts.
-/
import Derived.Test.YteifgmdaggiaaaaGreatDoorWBankSt
import Derived.Test.YteifgmdaggiaaaaGreatDoorWBankPlain
import Derived.Test.YteifgmdaggiaaaaGreatDoorWGrF
import Derived.Test.YteifgmdaggiaaaaGreatDoorWGrC
namespace Go.Proofs.YteifgmdaggiaaaaGreatDoor
open Go Go.RowKit
set_option linter.unusedVariables false
/-- A struct and one more value that are told. -/
theorem results_st1 {P : Program} {fn : Func} {p x : Tmp} {ty : TypeId} (h : fn.results = #[.cell p ty, .tmp x]) (tmps : Array Value) (w : World) (g : Nat) (t : TypeId) (cs : Array Value) (fr : Nat × Nat) (d : TypeDesc)
  (hp : tmps.getD p undef = .pointer (some ⟨g, 0, none⟩)) (hg : w.heap[g]? = some (.cells cs t fr))
  (hu : P.underlying ty = some d) (hd : (match d with | .struct _ | .array _ _ => true | _ => false) = true) (hi : (P.info? ty).map (·.size) = some cs.size) :
  (results fn tmps).run P w = .ok (.tuple #[.agg cs, tmps.getD x undef]) w := by
 have hp' : tmps[p]?.getD undef = .pointer (some ⟨g, 0, none⟩) := by simpa using hp
 simp [results, h, hp', asAddr, run_loadVar_row w g t ty cs fr d hg hu hd hi, Result.andThen]
/-- The two blocks that a function begins with: a state, and the one that is told. -/
theorem st2_all (w : World) (vs : Array Value) :
  Blk ((w.alloc (.cells vs 35)).alloc (.cells st0 35)) w.heap.size 35 vs ∧
  Blk ((w.alloc (.cells vs 35)).alloc (.cells st0 35)) (w.heap.size + 1) 35 st0 ∧
  Below w.heap.size w ((w.alloc (.cells vs 35)).alloc (.cells st0 35)) := by
 refine ⟨(Blk.new w _ _).more _, ?_, ((Below.refl w.heap.size w).alloc (Nat.le_refl _) _).alloc (by simp) _⟩
 have h := Blk.new (w.alloc (.cells vs 35)) 35 st0
 rw [alloc_size] at h
 exact h
/-- The three blocks: a state, a request, and the state that is told. -/
theorem st3_all (w : World) (vs rs : Array Value) :
  Blk (((w.alloc (.cells vs 35)).alloc (.cells rs 42)).alloc (.cells st0 35)) w.heap.size 35 vs ∧
  Blk (((w.alloc (.cells vs 35)).alloc (.cells rs 42)).alloc (.cells st0 35)) (w.heap.size + 1) 42 rs ∧
  Blk (((w.alloc (.cells vs 35)).alloc (.cells rs 42)).alloc (.cells st0 35)) (w.heap.size + 1 + 1) 35 st0 ∧
  Below w.heap.size w (((w.alloc (.cells vs 35)).alloc (.cells rs 42)).alloc (.cells st0 35)) := by
 refine ⟨((Blk.new w _ _).more _).more _, ?_, ?_, (((Below.refl w.heap.size w).alloc (Nat.le_refl _) _).alloc (by simp) _).alloc (by simp; omega) _⟩
 · have h := (Blk.new (w.alloc (.cells vs 35)) 42 rs).more (.cells st0 35)
   rw [alloc_size] at h
   exact h
 · have h := Blk.new ((w.alloc (.cells vs 35)).alloc (.cells rs 42)) 35 st0
   rw [alloc_size, alloc_size] at h
   exact h
/-- Two lists of the call's own, of two types, share no block. -/
theorem own_far {α β : Type} {S : Shape α} {R : Shape β} {w : World} {b1 b2 : Nat} {v u : Value} {zs : List α} {ys : List β} (h : OwnS S w b1 v zs) (k : OwnS R w b2 u ys) (ht : S.ty ≠ R.ty) (b : Nat) (e : v.ownBlock = some b) (e' : u.ownBlock = some b) : False := by
 rcases k.2 with ⟨hv, _⟩ | ⟨g', cap, cur, hv, _, hg', _⟩
 · rw [hv] at e'
   cases e'
 · rw [hv] at e'
   injection e' with e'
   dsimp only at e'
   subst e'
   exact h.ne hg' ht _ e rfl
/-- Few enough of all. -/
structure Fits (T : St) (sl : List Sg) (kl : List Kn) : Prop where
 rt : rightB T.acs = true
 q : T.pys.length ≤ 2000000
 sl : sl.length ≤ 2000000
 kl : kl.length ≤ 2000000
theorem Fits.n {T : St} {sl : List Sg} {kl : List Kn} (h : Fits T sl kl) : T.acs.length ≤ 64 := (right_len h.rt).2
/-- draftOf: a state in a block of its own. -/
theorem sk_draft (V : Sv) (T : St) (sl : List Sg) (kl : List Kn) (w : World) (h : SkAt w V T sl kl) (hf : Fits T sl kl) :
  Calls Tryz.prog 100 #[V.val] w fun e w' => ∃ (g : Nat) (V' : Sv), e = .returned (.pointer (some ⟨g, 0, none⟩)) ∧ w.heap.size ≤ g ∧ Blk w' g 171 V'.cells ∧ SkAt w' V' T sl kl ∧ Below w.heap.size w w' ∧ (∀ p : Nat → Prop, (∀ b, w.heap.size ≤ b → p b) → V'.in_ p) ∧ Apart w' V' w.heap.size sl := by
 rw [← h.val_eq]
 refine (draftOf_any T _ _ _ _ _ _ sl kl w h.st h.rx h.ry hf.n hf.q hf.sl hf.kl).mono ?_
 rintro e w' ⟨g, va, vp, X, Y, he, hd, hx, hy, hb⟩
 obtain ⟨A, c, rfl, ha1, ha2, ha3, ha4⟩ := hd.oa.form
 obtain ⟨B, d, rfl, hp1, hp2, hp3, hp4⟩ := hd.op.form
 obtain ⟨XA, xc, rfl, hx1, hx2, hx3, hx4⟩ := hx.form
 obtain ⟨YA, yc, rfl, hy1, hy2, hy3, hy4⟩ := hy.form
 refine ⟨g, ⟨A, T.acs.length, c, B, T.pys.length, d, XA, sl.length, xc, YA, kl.length, yc, T.now⟩, he, ?_, hd.blk, ⟨rfl, rfl, rfl, rfl, rfl, ha1, hp1, hx1, hy1, ⟨ha4, ha2, ha3⟩, ⟨hp4, hp2, hp3⟩, ⟨hx4, hx2, hx3⟩, ⟨hy4, hy2, hy3⟩⟩, hb, fun p hp => ⟨fun _ a e => hp _ ?_, fun _ a e => hp _ ?_, fun b e => hp _ (hx.rowLt b (full_own e)), fun b e => hp _ (hy.rowLt b (full_own e))⟩, ⟨hx, fun b e => ⟨fun _ a ea => ?_, fun _ a ea => ?_, (fun b' e' => by cases e'), fun b' e' => ?_⟩⟩⟩
 · exact Nat.le_of_not_lt fun hg => hd.gF (.inl hg)
 · dsimp only at e
   subst e
   exact Nat.le_of_not_lt fun hg => (hd.ag a.block rfl).2.2 (.inl hg)
 · dsimp only at e
   subst e
   exact Nat.le_of_not_lt fun hg => (hd.pg a.block rfl).2 (.inl hg)
 · dsimp only at ea
   subst ea
   exact fun hb => (hd.ag a.block rfl).2.2 (.inr (.inl (by rw [hb]; exact e)))
 · dsimp only at ea
   subst ea
   exact fun hb => (hd.pg a.block rfl).2 (.inr (.inl (by rw [hb]; exact e)))
 · intro hb
   subst hb
   exact own_far hx hy (by decide) b' e (full_own e')
/-- The same, and the sagas stay apart. -/
def SkEA (w : World) (V : Sv) (Q : (Nat → Prop) → Prop) (T : St) (sl : List Sg) (kl : List Kn) (E : Int) (e : Ending) (w' : World) : Prop :=
 ∃ V' : Sv, e = .returned (.tuple #[V'.val, errV E]) ∧ SkAt w' V' T sl kl ∧ Below w.heap.size w w' ∧ (∀ p : Nat → Prop, (∀ b, w.heap.size ≤ b → p b) → Q p → V'.in_ p) ∧ ∀ base, base ≤ w.heap.size → Apart w V base sl → Apart w' V' base sl
/-- A state, and an error by its number. -/
def SkE (w : World) (Q : (Nat → Prop) → Prop) (T : St) (sl : List Sg) (kl : List Kn) (E : Int) (e : Ending) (w' : World) : Prop :=
 ∃ V' : Sv, e = .returned (.tuple #[V'.val, errV E]) ∧ SkAt w' V' T sl kl ∧ Below w.heap.size w w' ∧ ∀ p : Nat → Prop, (∀ b, w.heap.size ≤ b → p b) → Q p → V'.in_ p
set_option maxRecDepth 100000 in
theorem owith_ok (V : Sv) (T : St) (sl : List Sg) (kl : List Kn) (A2 : Option Addr) (n2 c2 : Nat) (zs : List Ac) (w : World) (h : SkAt w V T sl kl) (hf : Fits T sl kl) (hr : RdA w A2 zs) (hn : zs.length = n2) (hs : Sl A2 n2 c2) :
  Calls Tryz.prog 142 #[V.val, .slice A2 n2 c2, .nilIface] w (SkEA w V (fun p => V.in_ p ∧ (0 < n2 → ∀ a, A2 = some a → p a.block)) ⟨zs, T.pys, T.now⟩ sl kl 0) := by
 have HDR := Lib.hid (fun W (hb : Below w.heap.size w W) => sk_draft V T sl kl W (h.below hb) hf)
 have HR := Lib.hid hr
 have HN := Lib.hid hn
 have HS := Lib.hid hs
 obtain ⟨A, n, c, B, q, d, X, xn, xc, Y, yn, yc, t⟩ := V
 obtain ⟨q1, q2, q3⟩ := st2_all w #[.slice A n c, .slice B q d, .slice X xn xc, .slice Y yn yc, .int .i64 t]
 have HB1 := Lib.hid q1
 have HB2 := Lib.hid q2
 have HBL := Lib.hid q3
 unfold Sv.val Sv.cells at HDR ⊢
 dsimp only at HDR ⊢
 clear h hf hr hn hs q1 q2 q3
 go_enter Tryz.func142, Tryz.ntmps142
 go_upto_region 1 with fail
 generalize ((w.alloc (.cells #[.slice A n c, .slice B q d, .slice X xn xc, .slice Y yn yc, .int .i64 t] 35)).alloc (.cells st0 35)) = w2 at HB1 HB2 HBL ⊢
 obtain ⟨x0, x1, x2, x3, x4⟩ := (show _ ∧ _ ∧ _ ∧ _ ∧ _ from ⟨HB1.out.cell 0 rfl, HB1.out.cell 1 rfl, HB1.out.cell 2 rfl, HB1.out.cell 3 rfl, HB1.out.cell 4 rfl⟩)
 go_upto_region 4 with (first | (go_at_call 100; refine (HDR.out _ HBL.out).mono ?_; rintro _ w5 ⟨g, V5, rfl, hg5, hbk5, hv5, hb5, hn5, ha5⟩))
 clear x0 x1 x2 x3 x4
 obtain ⟨A5, n5, c5, B5, q5, d5, X5, xn5, xc5, Y5, yn5, yc5, t5⟩ := V5
 have hsz2 : w.heap.size + 1 < w2.heap.size := HB2.out.lt
 dsimp only at hbk5 hv5
 have HN5 := Lib.hid hn5
 have HA5 := Lib.hid ha5
 have hw25 := HBL.out.size
 clear hn5 ha5
 have HBK5 := Lib.hid hbk5
 have HV5 := Lib.hid hv5
 have HZ5 := Lib.hid (HB2.out.later hb5)
 have HL5 := Lib.hid (HBL.out.trans (hb5.mono HBL.out.size))
 obtain ⟨k0, f0⟩ := (show _ ∧ _ from ⟨hbk5.cell 0 rfl, hbk5.loose 0⟩)
 clear hbk5 hv5 hb5 HB1 HB2 HBL HDR
 go_upto_region 5 with fail
 have hV6 := HV5.out.far HBK5.out (thin_st _ _ _ _ _ _ _ _ _ _ _ _ _) (w' := w5.setCell ⟨g, 0, none⟩ (.slice A2 n2 c2)) (fun k hk => Below.heap_setCell _ _ _ _ hk)
 have HB6 := Lib.hid (show Blk (w5.setCell ⟨g, 0, none⟩ (.slice A2 n2 c2)) g 171 #[.slice A2 n2 c2, .slice B5 q5 d5, .slice X5 xn5 xc5, .slice Y5 yn5 yc5, .int .i64 t5] from HBK5.out.set 0 _)
 have HZ6 := Lib.hid (HZ5.out.setOther (b := g) (by omega) 0 (.slice A2 n2 c2))
 have HL6 := Lib.hid (HL5.out.setCell (p := ⟨g, 0, none⟩) (by dsimp only; omega) (.slice A2 n2 c2))
 have HV6 := Lib.hid (show SkAt (w5.setCell ⟨g, 0, none⟩ (.slice A2 n2 c2)) ⟨A2, n2, c2, B5, q5, d5, X5, xn5, xc5, Y5, yn5, yc5, t5⟩ ⟨zs, T.pys, T.now⟩ sl kl from
   ⟨HN.out, hV6.q, hV6.xn, hV6.yn, hV6.t, HR.out.below HL6.out, hV6.pays, hV6.sag, hV6.kn, HS.out, hV6.sp, hV6.sx, hV6.sy⟩)
 have HX5 := Lib.hid (HA5.out.own.ne HBK5.out (by decide))
 have HA6 := Lib.hid (HA5.out.own.setOther (p := ⟨g, 0, none⟩) (u := .slice A2 n2 c2) HX5.out)
 clear hV6 k0 f0 HV5 HBK5 HZ5 HL5 HX5
 generalize w5.setCell ⟨g, 0, none⟩ (.slice A2 n2 c2) = w6 at HB6 HZ6 HL6 HV6 HA6 ⊢
 obtain ⟨x0, x1, x2, x3, x4⟩ := (show _ ∧ _ ∧ _ ∧ _ ∧ _ from ⟨HB6.out.cell 0 rfl, HB6.out.cell 1 rfl, HB6.out.cell 2 rfl, HB6.out.cell 3 rfl, HB6.out.cell 4 rfl⟩)
 obtain ⟨y0, y1, y2, y3, y4⟩ := (show _ ∧ _ ∧ _ ∧ _ ∧ _ from ⟨HZ6.out.cell 0 rfl, HZ6.out.cell 1 rfl, HZ6.out.cell 2 rfl, HZ6.out.cell 3 rfl, HZ6.out.cell 4 rfl⟩)
 obtain ⟨f0, f1, f2, f3, f4⟩ := (show _ ∧ _ ∧ _ ∧ _ ∧ _ from ⟨HZ6.out.loose 0, HZ6.out.loose 1, HZ6.out.loose 2, HZ6.out.loose 3, HZ6.out.loose 4⟩)
 go_wp2
 have HP := st_put HZ6.out rfl (.slice A2 n2 c2) (.slice B5 q5 d5) (.slice X5 xn5 xc5) (.slice Y5 yn5 yc5) (.int .i64 t5)
 have HPB := st_below HL6.out (show w.heap.size ≤ w.heap.size + 1 by omega) (.slice A2 n2 c2) (.slice B5 q5 d5) (.slice X5 xn5 xc5) (.slice Y5 yn5 yc5) (.int .i64 t5)
 have HPV := sk_zero HV6.out HZ6.out (.slice A2 n2 c2) (.slice B5 q5 d5) (.slice X5 xn5 xc5) (.slice Y5 yn5 yc5) (.int .i64 t5)
 refine bodyPost_ret (results_st1 (p := 6) (x := 7) (ty := 35) rfl _ _ (w.heap.size + 1) _ _ (0, 0) _ rfl HP Tryz.underlying35 rfl (by kernel_rfl)) rfl ?_
 exact ⟨⟨A2, n2, c2, B5, q5, d5, X5, xn5, xc5, Y5, yn5, yc5, t5⟩, rfl, HPV, HPB, fun p hp hq => ⟨hq.2, (HN5.out p (fun b hb => hp b (by omega))).2⟩, fun base hbase _ => ⟨own_st (HA6.out.less (by omega)) (HA6.out.ne HZ6.out (by decide)) _ _ _ _ _, fun b e => ⟨fun hn2 a ea hb => by
   have h1 := HR.out.lt (by rw [HN.out]; exact hn2) a ea
   have h2 := HA5.out.own.rowLt b e
   omega, (HA5.out.far b e).2⟩⟩⟩
set_option maxRecDepth 100000 in
theorem owith_no (V : Sv) (T : St) (sl : List Sg) (kl : List Kn) (v : Value) (E : Int) (hE : ¬ E = 0) (w : World) (h : SkAt w V T sl kl) :
  Calls Tryz.prog 142 #[V.val, v, eno E] w (SkEA w V (fun p => V.in_ p) T sl kl E) := by
 have HV := Lib.hid h
 obtain ⟨A, n, c, B, q, d, X, xn, xc, Y, yn, yc, t⟩ := V
 obtain ⟨q1, q2, q3⟩ := st2_all w #[.slice A n c, .slice B q d, .slice X xn xc, .slice Y yn yc, .int .i64 t]
 have HB1 := Lib.hid q1
 have HB2 := Lib.hid q2
 have HBL := Lib.hid q3
 have HE := Lib.hid hE
 unfold Sv.val Sv.cells
 dsimp only
 clear h q1 q2 q3 hE
 go_enter Tryz.func142, Tryz.ntmps142
 go_upto_region 1 with fail
 generalize ((w.alloc (.cells #[.slice A n c, .slice B q d, .slice X xn xc, .slice Y yn yc, .int .i64 t] 35)).alloc (.cells st0 35)) = w2 at HB1 HB2 HBL ⊢
 obtain ⟨x0, x1, x2, x3, x4⟩ := (show _ ∧ _ ∧ _ ∧ _ ∧ _ from ⟨HB1.out.cell 0 rfl, HB1.out.cell 1 rfl, HB1.out.cell 2 rfl, HB1.out.cell 3 rfl, HB1.out.cell 4 rfl⟩)
 obtain ⟨y0, y1, y2, y3, y4⟩ := (show _ ∧ _ ∧ _ ∧ _ ∧ _ from ⟨HB2.out.cell 0 rfl, HB2.out.cell 1 rfl, HB2.out.cell 2 rfl, HB2.out.cell 3 rfl, HB2.out.cell 4 rfl⟩)
 obtain ⟨f0, f1, f2, f3, f4⟩ := (show _ ∧ _ ∧ _ ∧ _ ∧ _ from ⟨HB2.out.loose 0, HB2.out.loose 1, HB2.out.loose 2, HB2.out.loose 3, HB2.out.loose 4⟩)
 go_wp2
 have HP := st_put HB2.out rfl (.slice A n c) (.slice B q d) (.slice X xn xc) (.slice Y yn yc) (.int .i64 t)
 have HPB := st_below HBL.out (show w.heap.size ≤ w.heap.size + 1 by omega) (.slice A n c) (.slice B q d) (.slice X xn xc) (.slice Y yn yc) (.int .i64 t)
 refine bodyPost_ret (results_st1 (p := 6) (x := 7) (ty := 35) rfl _ _ (w.heap.size + 1) _ _ (0, 0) _ rfl HP Tryz.underlying35 rfl (by kernel_rfl)) rfl ?_
 exact ⟨⟨A, n, c, B, q, d, X, xn, xc, Y, yn, yc, t⟩, by rw [errV, if_neg HE.out]; rfl, HV.out.below HPB, HPB, fun p _ hq => hq, fun base _ ha => (ha.below HBL.out).put HB2.out _ _ _ _ _⟩
end Go.Proofs.YteifgmdaggiaaaaGreatDoor
