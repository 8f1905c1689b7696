/-
  What stays where only the answers' block is turned; undo by its contract.
-/
import Derived.Test.YteifgmdaggiaaaaGreatDoorWBankFin
namespace Go.Proofs.YteifgmdaggiaaaaGreatDoor
open Go Go.RowKit
set_option linter.unusedVariables false
theorem cell_lt {w : World} {ad : Addr} {v : Value} (h : w.cell? ad = some v) : ad.block < w.heap.size := by
 refine Decidable.byContradiction fun hn => ?_
 have hx : w.heap[ad.block]? = none := Array.getElem?_eq_none (by omega)
 simp [World.cell?, hx] at h
section
variable {w w' : World} {g : Nat} {t : TypeId} {vs : Array Value}
theorem RdA.on {A : Option Addr} {zs : List Ac} (h : RdA w A zs) (hg : Blk w g t vs) (hv : Thin vs) (ho : On (fun k => k < w.heap.size ∧ k ≠ g) w w') : RdA w' A zs := fun hn => by
 obtain ⟨ad, he, hc⟩ := h hn
 obtain ⟨a, ha⟩ : ∃ a, zs[0]? = some a := ⟨_, List.getElem?_eq_getElem hn⟩
 have h0 := hc 0 a ha
 have e0 : w.cell? ad = some (.int .i64 a.cur) := by have := h0.c0; rw [Nat.zero_mul] at this; simpa [Addr.add] using this
 have hne : ad.block ≠ g := three_ints hg hv e0 (by have := h0.c1; rw [Nat.zero_mul, Nat.zero_add] at this; exact this) (by have := h0.c2; rw [Nat.zero_mul, Nat.zero_add] at this; exact this)
 have hb : ∀ i, w'.cell? (ad.add i) = w.cell? (ad.add i) := fun i => World.cell?_of_block (ho.block _ ⟨by rw [add_block]; exact cell_lt e0, by rw [add_block]; exact hne⟩)
 exact ⟨ad, he, fun j b hj => ⟨by rw [hb]; exact (hc j b hj).c0, by rw [hb]; exact (hc j b hj).c1, by rw [hb]; exact (hc j b hj).c2⟩⟩
theorem RdS.on {α : Type} {S : Shape α} {A : Option Addr} {zs : List α} (h : RdS S w A zs) (hf : ∀ a : α, ∃ x y z, (S.cells a)[0]? = some (.int .i64 x) ∧ (S.cells a)[1]? = some (.int .i64 y) ∧ (S.cells a)[2]? = some (.int .i64 z)) (hg : Blk w g t vs) (hv : Thin vs) (ho : On (fun k => k < w.heap.size ∧ k ≠ g) w w') : RdS S w' A zs := fun hn => by
 obtain ⟨ad, he, hc⟩ := h hn
 obtain ⟨a, ha⟩ : ∃ a, zs[0]? = some a := ⟨_, List.getElem?_eq_getElem hn⟩
 have h0 := hc 0 a ha
 obtain ⟨x, y, z, f0, f1, f2⟩ := hf a
 have e0 : w.cell? ad = some (.int .i64 x) := by have := h0 0 _ f0; rw [Nat.zero_mul] at this; simpa [Addr.add] using this
 have hne : ad.block ≠ g := three_ints hg hv e0 (by have := h0 1 _ f1; rw [Nat.zero_mul, Nat.zero_add] at this; exact this) (by have := h0 2 _ f2; rw [Nat.zero_mul, Nat.zero_add] at this; exact this)
 have hb : ∀ i, w'.cell? (ad.add i) = w.cell? (ad.add i) := fun i => World.cell?_of_block (ho.block _ ⟨by rw [add_block]; exact cell_lt e0, by rw [add_block]; exact hne⟩)
 exact ⟨ad, he, fun j b hj i u hu => by rw [hb]; exact hc j b hj i u hu⟩
theorem SkAt.on {V : Sv} {T : St} {sl : List Sg} {kl : List Kn} (h : SkAt w V T sl kl) (hg : Blk w g t vs) (hv : Thin vs) (ho : On (fun k => k < w.heap.size ∧ k ≠ g) w w') : SkAt w' V T sl kl :=
 ⟨h.n, h.q, h.xn, h.yn, h.t, h.accs.on hg hv ho, h.pays.on (fun a => ⟨_, _, _, rfl, rfl, rfl⟩) hg hv ho, h.sag.on (fun a => ⟨_, _, _, rfl, rfl, rfl⟩) hg hv ho, h.kn.on (fun a => ⟨_, _, _, rfl, rfl, rfl⟩) hg hv ho, h.sa, h.sp, h.sx, h.sy⟩
/-- What is stored into a state's block. -/
theorem st_on {F : Nat → Prop} {a : World} (h : On F a w) (hg : ¬ F g) (x0 x1 x2 x3 x4 : Value) : On F a (((((w.setCell ⟨g, 0, none⟩ x0).setCell ⟨g, 1, none⟩ x1).setCell ⟨g, 2, none⟩ x2).setCell ⟨g, 3, none⟩ x3).setCell ⟨g, 4, none⟩ x4) :=
 ((((h.setCell (p := ⟨g, 0, none⟩) hg x0).setCell (p := ⟨g, 1, none⟩) hg x1).setCell (p := ⟨g, 2, none⟩) hg x2).setCell (p := ⟨g, 3, none⟩) hg x3).setCell (p := ⟨g, 4, none⟩) hg x4
theorem rp_on {F : Nat → Prop} {a : World} (h : On F a w) (hg : ¬ F g) (x0 x1 : Value) : On F a ((w.setCell ⟨g, 0, none⟩ x0).setCell ⟨g, 1, none⟩ x1) :=
 (h.setCell (p := ⟨g, 0, none⟩) hg x0).setCell (p := ⟨g, 1, none⟩) hg x1
theorem st0_no_bool (i : Nat) (b : Bool) : (st0 : Array Value)[i]? ≠ some (.bool b) := by
 match i with
 | 0 | 1 | 2 | 3 | 4 => simp
 | k + 5 => simp
theorem rp_no_bool (e x : Int) (i : Nat) (b : Bool) : (#[.int .i64 e, .int .i64 x] : Array Value)[i]? ≠ some (.bool b) := by
 match i with
 | 0 | 1 => simp
 | k + 2 => simp
theorem AnsAt.st {ga : Nat} {la : Option Addr} {ln lc : Nat} {ls : List Bool} {u : Nat} (h : AnsAt w ga la ln lc ls u) (hg : Blk w g t st0) (hne : g ≠ ga) (x0 x1 x2 x3 x4 : Value) : AnsAt (((((w.setCell ⟨g, 0, none⟩ x0).setCell ⟨g, 1, none⟩ x1).setCell ⟨g, 2, none⟩ x2).setCell ⟨g, 3, none⟩ x3).setCell ⟨g, 4, none⟩ x4) ga la ln lc ls u :=
 ⟨st_other h.blk hne _ _ _ _ _, flags_far h.rd hg st0_no_bool (fun k hk => st_heap w g x0 x1 x2 x3 x4 k hk), h.len, h.us⟩
theorem AnsAt.rp {ga : Nat} {la : Option Addr} {ln lc : Nat} {ls : List Bool} {u : Nat} {e x : Int} (h : AnsAt w ga la ln lc ls u) (hg : Blk w g t #[.int .i64 e, .int .i64 x]) (hne : g ≠ ga) (x0 x1 : Value) : AnsAt ((w.setCell ⟨g, 0, none⟩ x0).setCell ⟨g, 1, none⟩ x1) ga la ln lc ls u :=
 ⟨rp_other h.blk hne _ _, flags_far h.rd hg (rp_no_bool e x) (fun k hk => by rw [Below.heap_setCell _ _ _ _ hk, Below.heap_setCell _ _ _ _ hk]), h.len, h.us⟩
theorem HasErr.on {ga : Nat} {la : Option Addr} {ln lc : Nat} {ls : List Bool} {u : Nat} (h : HasErr w) (ha : AnsAt w ga la ln lc ls u) (ho : On (fun k => k < w.heap.size ∧ k ≠ ga) w w') : HasErr w' := by
 unfold HasErr at h ⊢
 have hne : (⟨0, 0, none⟩ : Addr).block ≠ ga := fun e => by
  have := cell_in ha.blk e h
  simp at this
 rw [World.cell?_of_block (ho.block _ ⟨cell_lt h, hne⟩)]
 exact h
end
set_option maxRecDepth 100000 in
theorem bundo_any (V : Sv) (T : St) (sl : List Sg) (kl : List Kn) (r : Rq) (w : World) (h : SkAt w V T sl kl) (hf : Fits T sl kl) :
  Calls Tryz.prog 105 #[V.val, r.val] w fun e w' => ∃ V' : Sv, e = .returned V'.val ∧ SkAt w' V' (undS T r) sl kl ∧ Below w.heap.size w w' ∧ V.new V' w.heap.size := by
 have HUN := Lib.hid (fun W (hb : Below w.heap.size w W) => oundo_any V T sl kl r W (h.below hb) hf)
 obtain ⟨A, n, c, B, q, d, X, xn, xc, Y, yn, yc, t⟩ := V
 generalize undS T r = S9 at HUN ⊢
 generalize undE T r = E at HUN
 obtain ⟨k, o, a, b, m, l, u⟩ := r
 obtain ⟨q1, q2, q3, q4⟩ := st3_all w #[.slice A n c, .slice B q d, .slice X xn xc, .slice Y yn yc, .int .i64 t] (rqC k o a b m l u)
 have HB1 := Lib.hid q1
 have HBR := Lib.hid q2
 have HB2 := Lib.hid q3
 have HBL := Lib.hid q4
 unfold SkE at HUN
 unfold Sv.val Sv.cells Rq.val at HUN ⊢
 dsimp only at HUN ⊢
 clear h hf q1 q2 q3 q4
 go_enter Tryz.func105, Tryz.ntmps105
 go_upto_region 1 with fail
 generalize (((w.alloc (.cells #[.slice A n c, .slice B q d, .slice X xn xc, .slice Y yn yc, .int .i64 t] 35)).alloc (.cells (rqC k o a b m l u) 42)).alloc (.cells st0 35)) = w3 at HB1 HBR HB2 HBL ⊢
 have hsz3 : w.heap.size + 1 + 1 < w3.heap.size := HB2.out.lt
 obtain ⟨x0, x1, x2, x3, x4⟩ := (show _ ∧ _ ∧ _ ∧ _ ∧ _ from ⟨HB1.out.cell 0 rfl, HB1.out.cell 1 rfl, HB1.out.cell 2 rfl, HB1.out.cell 3 rfl, HB1.out.cell 4 rfl⟩)
 obtain ⟨r0, r1, r2, r3, r4, r5, r6⟩ := (show _ ∧ _ ∧ _ ∧ _ ∧ _ ∧ _ ∧ _ from ⟨HBR.out.cell 0 rfl, HBR.out.cell 1 rfl, HBR.out.cell 2 rfl, HBR.out.cell 3 rfl, HBR.out.cell 4 rfl, HBR.out.cell 5 rfl, HBR.out.cell 6 rfl⟩)
 go_upto_region 2 with (first | (go_at_call 143; refine (HUN.out _ HBL.out).mono ?_; rintro _ w4 ⟨V4, rfl, hv4, hb4, hn4⟩
                                 obtain ⟨A4, n4, c4, B4, q4, d4, X4, xn4, xc4, Y4, yn4, yc4, t4⟩ := V4
                                 dsimp only at hv4 ⊢
                                 have HV4 := Lib.hid hv4
                                 have HN4 := Lib.hid hn4
                                 have HZ4 := Lib.hid (HB2.out.later hb4)
                                 have HL4 := Lib.hid (HBL.out.trans (hb4.mono HBL.out.size))
                                 clear hv4 hb4 hn4 x0 x1 x2 x3 x4 r0 r1 r2 r3 r4 r5 r6))
 have HN5 := Lib.hid (Blk.new w4 35 #[.slice A4 n4 c4, .slice B4 q4 d4, .slice X4 xn4 xc4, .slice Y4 yn4 yc4, .int .i64 t4])
 have HV5 := Lib.hid (HV4.out.alloc (.cells #[.slice A4 n4 c4, .slice B4 q4 d4, .slice X4 xn4 xc4, .slice Y4 yn4 yc4, .int .i64 t4] 35))
 have HZ5 := Lib.hid (HZ4.out.more (.cells #[.slice A4 n4 c4, .slice B4 q4 d4, .slice X4 xn4 xc4, .slice Y4 yn4 yc4, .int .i64 t4] 35))
 have HL5 := Lib.hid (HL4.out.alloc HL4.out.size (.cells #[.slice A4 n4 c4, .slice B4 q4 d4, .slice X4 xn4 xc4, .slice Y4 yn4 yc4, .int .i64 t4] 35))
 have hsz4 : w.heap.size + 1 + 1 < w4.heap.size := HZ4.out.lt
 clear HV4 HZ4 HL4 HB1 HBR HB2 HBL
 generalize w4.alloc (.cells #[.slice A4 n4 c4, .slice B4 q4 d4, .slice X4 xn4 xc4, .slice Y4 yn4 yc4, .int .i64 t4] 35) = w5 at HN5 HV5 HZ5 HL5 ⊢
 generalize w4.heap.size = g5 at HN5 hsz4 ⊢
 obtain ⟨x0, x1, x2, x3, x4⟩ := (show _ ∧ _ ∧ _ ∧ _ ∧ _ from ⟨HN5.out.cell 0 rfl, HN5.out.cell 1 rfl, HN5.out.cell 2 rfl, HN5.out.cell 3 rfl, HN5.out.cell 4 rfl⟩)
 obtain ⟨y0, y1, y2, y3, y4⟩ := (show _ ∧ _ ∧ _ ∧ _ ∧ _ from ⟨HZ5.out.cell 0 rfl, HZ5.out.cell 1 rfl, HZ5.out.cell 2 rfl, HZ5.out.cell 3 rfl, HZ5.out.cell 4 rfl⟩)
 obtain ⟨f0, f1, f2, f3, f4⟩ := (show _ ∧ _ ∧ _ ∧ _ ∧ _ from ⟨HZ5.out.loose 0, HZ5.out.loose 1, HZ5.out.loose 2, HZ5.out.loose 3, HZ5.out.loose 4⟩)
 go_wp2
 have HP := st_put HZ5.out rfl (.slice A4 n4 c4) (.slice B4 q4 d4) (.slice X4 xn4 xc4) (.slice Y4 yn4 yc4) (.int .i64 t4)
 have HPB := st_below HL5.out (show w.heap.size ≤ w.heap.size + 1 + 1 by omega) (.slice A4 n4 c4) (.slice B4 q4 d4) (.slice X4 xn4 xc4) (.slice Y4 yn4 yc4) (.int .i64 t4)
 have HPV := sk_zero HV5.out HZ5.out (.slice A4 n4 c4) (.slice B4 q4 d4) (.slice X4 xn4 xc4) (.slice Y4 yn4 yc4) (.int .i64 t4)
 refine bodyPost_ret (results_cell_row (p := 4) (ty := 35) rfl _ _ (w.heap.size + 1 + 1) _ _ (0, 0) _ rfl HP Tryz.underlying35 rfl (by kernel_rfl)) rfl ?_
 exact ⟨⟨A4, n4, c4, B4, q4, d4, X4, xn4, xc4, Y4, yn4, yc4, t4⟩, rfl, HPV, HPB, fun p hp hV => HN4.out p (fun b hb => hp b (by omega)) hV⟩
end Go.Proofs.YteifgmdaggiaaaaGreatDoor
