/-
  The program's Tick by its contract.
-/
import Derived.Test.YtjnmppdohglcaaaGreatDoorOpsTickPlain
import Derived.Test.YtjnmppdohglcaaaGreatDoorOpsDoFn
import Derived.Test.YtjnmppdohglcaaaGreatDoorDueFnBy
import Derived.LoopTactic
namespace Go.Proofs.YtjnmppdohglcaaaGreatDoor
open Go Go.RowKit
set_option linter.unusedVariables false

theorem Dr.tick {F : Nat → Prop} {w : World} {g : Nat} {va vp X Y : Value} {s : St} (h : Dr F w g va vp X Y s) (t : Int) : Dr F (w.setCell ⟨g, 4, none⟩ (.int .i64 t)) g va vp X Y ⟨s.acs, s.pys, t⟩ ∧ On F w (w.setCell ⟨g, 4, none⟩ (.int .i64 t)) := by
  refine ⟨⟨h.blk.set 4 (.int .i64 t), h.oa.setOther (p := ⟨g, 4, none⟩) fun b e => (h.ag b e).1, h.op.setOther (p := ⟨g, 4, none⟩) fun b e => (h.pg b e).1, h.ag, h.pg, h.gF, fun k hk => ?_⟩, (On.refl F w).setCell h.gF _⟩
  have := h.lt k hk
  simpa [World.setCell] using this
/-- What was made since is kept too. -/
theorem Dr.wider {F : Nat → Prop} {w w' : World} {g : Nat} {va vp X Y v : Value} {s : St} (h : Dr F w g va vp X Y s) (hb : Below w.heap.size w w') (hv : ∀ b, v.ownBlock = some b → w.heap.size ≤ b ∧ b < w'.heap.size) : Dr (fun b => F b ∨ v.ownBlock = some b) w' g va vp X Y s := by
  have h2 := h.below hb
  have hg := h.blk.lt
  refine ⟨h2.blk, h2.oa, h2.op, fun b e => ⟨(h.ag b e).1, (h.ag b e).2.1, ?_⟩, fun b e => ⟨(h.pg b e).1, ?_⟩, ?_, ?_⟩
  · rintro (k | k)
    · exact (h.ag b e).2.2 k
    · have := hv b k; have := h.alt b e; omega
  · rintro (k | k)
    · exact (h.pg b e).2 k
    · have := hv b k; have := h.plt b e; omega
  · rintro (k | k)
    · exact h.gF k
    · have := hv g k; omega
  · rintro b (k | k)
    · exact h2.lt b k
    · exact (hv b k).2
theorem st_ownG {α : Type} {S : Shape α} {W : World} {base g : Nat} {v : Value} {zs : List α} (h : OwnS S W base v zs) (hg : g < base) (a b x y z : Value) : OwnS S (((((W.setCell ⟨g, 0, none⟩ a).setCell ⟨g, 1, none⟩ b).setCell ⟨g, 2, none⟩ x).setCell ⟨g, 3, none⟩ y).setCell ⟨g, 4, none⟩ z) base v zs := by
  have n2 : ∀ k, v.ownBlock = some k → k ≠ g := fun k e => by have := h.rowLt k e; omega
  exact ((((h.setOther (p := ⟨g, 0, none⟩) n2).setOther (p := ⟨g, 1, none⟩) n2).setOther (p := ⟨g, 2, none⟩) n2).setOther (p := ⟨g, 3, none⟩) n2).setOther (p := ⟨g, 4, none⟩) n2
theorem Own.kept2 {e : TypeId} {k : IntKind} {w w' : World} {base n : Nat} {v : Value} {zs : List Int} (h : Own e k w base v n zs) (hs : ∀ g, v.ownBlock = some g → w'.heap[g]? = w.heap[g]?) : Own e k w' base v n zs := by
  refine ⟨h.1, ?_⟩
  rcases h.2 with h | ⟨g, cap, cur, hv, hg, hh, r⟩
  · exact .inl h
  · exact .inr ⟨g, cap, cur, hv, hg, by rw [hs g (by rw [hv]; rfl)]; exact hh, r⟩
theorem nodup_fresh {l : List Int} {j : Nat} {x : Int} (h : l.Nodup) (hx : l[j]? = some x) : x ∉ l.take j := fun hm => by
  obtain ⟨i, hi⟩ := List.getElem?_of_mem hm
  rw [List.getElem?_take] at hi
  split at hi
  · rename_i hij
    have hlt : j < l.length := (List.getElem?_eq_some_iff.1 hx).1
    have e1 : l[i]'(by omega) = x := by have := hi; rw [List.getElem?_eq_getElem (by omega)] at this; exact Option.some.inj this
    have e2 : l[j] = x := by have := hx; rw [List.getElem?_eq_getElem hlt] at this; exact Option.some.inj this
    exact (List.pairwise_iff_getElem.1 h) i j (by omega) hlt hij (e1.trans e2.symm)
  · cases hi
/-- A state is told; sagas and keys read as they did; nothing below is turned. -/
def TkRes (w : World) (T : St) (sl : List Sg) (kl : List Kn) (e : Ending) (w' : World) : Prop :=
  ∃ X Y A c B d, e = .returned (stV T X Y A c B d) ∧ StAt w' T X Y A c B d ∧ RdV sagas w' X sl ∧ RdV known w' Y kl ∧ Below w.heap.size w w'

set_option maxRecDepth 100000 in
theorem tick_end (s : St) (X Y : Value) (A : Option Addr) (c : Nat) (B : Option Addr) (d : Nat) (sl : List Sg) (kl : List Kn) (w : World) (hs : StAt w s X Y A c B d) (hX : RdV sagas w X sl) (hY : RdV known w Y kl) (hok : Ok s) (hsl : sl.length ≤ 2000000) (hkl : kl.length ≤ 2000000) (he : s.now = 1073741824) :
    Calls Tryz.prog 9 #[stV s X Y A c B d] w (TkRes w (tickS s) sl kl) := by
  rw [show tickS s = s by unfold tickS; rw [if_pos he]]
  obtain ⟨zs, ps, now⟩ := s
  have hn := (right_len hok.right).2
  have hq := hok.few
  have hnow := hok.now
  obtain ⟨XA, XC, rfl, hxr, hxs⟩ := hX
  obtain ⟨YA, YC, rfl, hyr, hys⟩ := hY
  unfold stV
  dsimp only at *
  obtain ⟨n, hn'⟩ : ∃ n, zs.length = n := ⟨_, rfl⟩
  obtain ⟨q, hq'⟩ : ∃ q, ps.length = q := ⟨_, rfl⟩
  obtain ⟨xn, hxn⟩ : ∃ xn, sl.length = xn := ⟨_, rfl⟩
  obtain ⟨yn, hyn⟩ : ∃ yn, kl.length = yn := ⟨_, rfl⟩
  have HN := Lib.hid hn'
  have HQ := Lib.hid hq'
  have HXN := Lib.hid hxn
  have HYN := Lib.hid hyn
  have HOK := Lib.hid hok
  have HXV : Hid (RdV sagas w (.slice XA sl.length XC) sl) := Lib.hid ⟨XA, XC, rfl, hxr, hxs⟩
  have HYV : Hid (RdV known w (.slice YA kl.length YC) kl) := Lib.hid ⟨YA, YC, rfl, hyr, hys⟩
  have HST := Lib.hid hs
  have q1 := (Blk.new w 34 #[.slice A n c, .slice B q d, .slice XA xn XC, .slice YA yn YC, .int .i64 now]).more (.cells st0 34)
  have q2 := Blk.new (w.alloc (.cells #[.slice A n c, .slice B q d, .slice XA xn XC, .slice YA yn YC, .int .i64 now] 34)) 34 st0
  rw [alloc_size] at q2
  have HBS := Lib.hid q1
  have HB2 := Lib.hid q2
  have HBL := Lib.hid (((Below.refl w.heap.size w).alloc (Nat.le_refl _) (.cells #[.slice A n c, .slice B q d, .slice XA xn XC, .slice YA yn YC, .int .i64 now] 34)).alloc (by simp) (.cells st0 34))
  have HDF := Lib.hid (fun W (hb : Below w.heap.size w W) => draftOf_any ⟨zs, ps, now⟩ (.slice XA sl.length XC) (.slice YA kl.length YC) A c B d sl kl W (hs.below hb) (HXV.out.below hb) (HYV.out.below hb) (by omega) (by omega) hsl hkl)
  unfold DrOf stV at HDF
  dsimp only at HDF
  simp only [hn', hq', hxn, hyn] at HDF HXV HYV ⊢
  have hq64 : q ≤ 2000000 := by omega
  clear hs hxr hxs hyr hys hn' hq' hxn hyn q1 q2 hn hq hsl hkl hok
  have qe := eqT he
  clear he HDF
  go_enter Tryz.func9, Tryz.ntmps9
  go_upto_region 1 with fail
  generalize ((w.alloc (.cells #[.slice A n c, .slice B q d, .slice XA xn XC, .slice YA yn YC, .int .i64 now] 34)).alloc (.cells st0 34)) = w2 at HBS HB2 HBL ⊢
  obtain ⟨x0, x1, x2, x3, x4⟩ := (show _ ∧ _ ∧ _ ∧ _ ∧ _ from ⟨HBS.out.cell 0 rfl, HBS.out.cell 1 rfl, HBS.out.cell 2 rfl, HBS.out.cell 3 rfl, HBS.out.cell 4 rfl⟩)
  obtain ⟨y0, y1, y2, y3, y4⟩ := (show _ ∧ _ ∧ _ ∧ _ ∧ _ from ⟨HB2.out.cell 0 rfl, HB2.out.cell 1 rfl, HB2.out.cell 2 rfl, HB2.out.cell 3 rfl, HB2.out.cell 4 rfl⟩)
  obtain ⟨f0, f1, f2, f3, f4⟩ := (show _ ∧ _ ∧ _ ∧ _ ∧ _ from ⟨HB2.out.loose 0, HB2.out.loose 1, HB2.out.loose 2, HB2.out.loose 3, HB2.out.loose 4⟩)
  go_wp2
  have HP := st_put HB2.out rfl (.slice A n c) (.slice B q d) (.slice XA xn XC) (.slice YA yn YC) (.int .i64 now)
  have HPB := st_below HBL.out (show w.heap.size ≤ w.heap.size + 1 by omega) (.slice A n c) (.slice B q d) (.slice XA xn XC) (.slice YA yn YC) (.int .i64 now)
  refine bodyPost_ret (results_cell_row (p := 2) (ty := 34) rfl _ _ (w.heap.size + 1) _ _ (0, 0) _ rfl HP Tryz.underlying34 rfl (by kernel_rfl)) rfl ?_
  exact ⟨.slice XA xn XC, .slice YA yn YC, A, c, B, d, by unfold stV; dsimp only; rw [HN.out, HQ.out], (HST.out.below HPB).re, HXV.out.below HPB, HYV.out.below HPB, HPB⟩

set_option maxRecDepth 100000 in
set_option maxHeartbeats 1000000 in
theorem tick_go (s : St) (X Y : Value) (A : Option Addr) (c : Nat) (B : Option Addr) (d : Nat) (sl : List Sg) (kl : List Kn) (w : World) (hs : StAt w s X Y A c B d) (hX : RdV sagas w X sl) (hY : RdV known w Y kl) (hok : Ok s) (hsl : sl.length ≤ 2000000) (hkl : kl.length ≤ 2000000) (he : ¬ s.now = 1073741824) :
    Calls Tryz.prog 9 #[stV s X Y A c B d] w (TkRes w (tickS s) sl kl) := by
  rw [show tickS s = ⟨heldL (s.pys.map (closeP (s.now + 1))) s.acs, s.pys.map (closeP (s.now + 1)), s.now + 1⟩ by unfold tickS; rw [if_neg he]]
  obtain ⟨zs, ps, now⟩ := s
  have hn := (right_len hok.right).2
  have hq := hok.few
  have hnow := hok.now
  obtain ⟨XA, XC, rfl, hxr, hxs⟩ := hX
  obtain ⟨YA, YC, rfl, hyr, hys⟩ := hY
  unfold stV
  dsimp only at *
  obtain ⟨n, hn'⟩ : ∃ n, zs.length = n := ⟨_, rfl⟩
  obtain ⟨q, hq'⟩ : ∃ q, ps.length = q := ⟨_, rfl⟩
  obtain ⟨xn, hxn⟩ : ∃ xn, sl.length = xn := ⟨_, rfl⟩
  obtain ⟨yn, hyn⟩ : ∃ yn, kl.length = yn := ⟨_, rfl⟩
  have HN := Lib.hid hn'
  have HQ := Lib.hid hq'
  have HXN := Lib.hid hxn
  have HYN := Lib.hid hyn
  have HOK := Lib.hid hok
  have HXV : Hid (RdV sagas w (.slice XA sl.length XC) sl) := Lib.hid ⟨XA, XC, rfl, hxr, hxs⟩
  have HYV : Hid (RdV known w (.slice YA kl.length YC) kl) := Lib.hid ⟨YA, YC, rfl, hyr, hys⟩
  have HST := Lib.hid hs
  have q1 := (Blk.new w 34 #[.slice A n c, .slice B q d, .slice XA xn XC, .slice YA yn YC, .int .i64 now]).more (.cells st0 34)
  have q2 := Blk.new (w.alloc (.cells #[.slice A n c, .slice B q d, .slice XA xn XC, .slice YA yn YC, .int .i64 now] 34)) 34 st0
  rw [alloc_size] at q2
  have HBS := Lib.hid q1
  have HB2 := Lib.hid q2
  have HBL := Lib.hid (((Below.refl w.heap.size w).alloc (Nat.le_refl _) (.cells #[.slice A n c, .slice B q d, .slice XA xn XC, .slice YA yn YC, .int .i64 now] 34)).alloc (by simp) (.cells st0 34))
  have HDF := Lib.hid (fun W (hb : Below w.heap.size w W) => draftOf_any ⟨zs, ps, now⟩ (.slice XA sl.length XC) (.slice YA kl.length YC) A c B d sl kl W (hs.below hb) (HXV.out.below hb) (HYV.out.below hb) (by omega) (by omega) hsl hkl)
  unfold DrOf stV at HDF
  dsimp only at HDF
  simp only [hn', hq', hxn, hyn] at HDF HXV HYV ⊢
  have hq64 : q ≤ 2000000 := by omega
  clear hs hxr hxs hyr hys hn' hq' hxn hyn q1 q2 hn hq hsl hkl hok
  have qe := eqF he
  have hnow2 : now + 1 ≤ 1073741824 := by omega
  have hok1 : Ok ⟨zs, ps, now + 1⟩ := ⟨HOK.out.right, HOK.out.sums, HOK.out.few, HOK.out.pays, HOK.out.held, by dsimp only; omega⟩
  have HOK1 := Lib.hid hok1
  clear he hok1
  go_enter Tryz.func9, Tryz.ntmps9
  go_upto_region 1 with fail
  generalize ((w.alloc (.cells #[.slice A n c, .slice B q d, .slice XA xn XC, .slice YA yn YC, .int .i64 now] 34)).alloc (.cells st0 34)) = w2 at HBS HB2 HBL ⊢
  obtain ⟨x0, x1, x2, x3, x4⟩ := (show _ ∧ _ ∧ _ ∧ _ ∧ _ from ⟨HBS.out.cell 0 rfl, HBS.out.cell 1 rfl, HBS.out.cell 2 rfl, HBS.out.cell 3 rfl, HBS.out.cell 4 rfl⟩)
  go_upto_region 4 with (first | (go_at_call 21; refine (HDF.out _ HBL.out).mono ?_; rintro _ w5 ⟨g, va, vp, vX, vY, rfl, hd, hx, hy, hb5⟩))
  clear x0 x1 x2 x3 x4
  have hsz2 : w.heap.size + 1 < w2.heap.size := HB2.out.lt
  obtain ⟨F, hF⟩ : ∃ F : Nat → Prop, F = (fun b => b < w2.heap.size ∨ vX.ownBlock = some b ∨ vY.ownBlock = some b) := ⟨_, rfl⟩
  rw [← hF] at hd
  have HFL : Hid (∀ b, b < w2.heap.size → F b) := Lib.hid (fun b hb => by rw [hF]; exact .inl hb)
  have HFX : Hid (∀ b, vX.ownBlock = some b → F b) := Lib.hid (fun b hb => by rw [hF]; exact .inr (.inl hb))
  have HFY : Hid (∀ b, vY.ownBlock = some b → F b) := Lib.hid (fun b hb => by rw [hF]; exact .inr (.inr hb))
  have HX5 := Lib.hid hx
  have HY5 := Lib.hid hy
  have HB5 := Lib.hid hb5
  have HR5 := Lib.hid (HB2.out.later hb5)
  obtain ⟨A6, c6, rfl, _, _, _, _⟩ := hd.oa.form
  obtain ⟨B6, d6, rfl, _, _, _, _⟩ := hd.op.form
  dsimp only at hd
  rw [HN.out, HQ.out] at hd
  have HD5 := Lib.hid hd
  have k4 := hd.blk.cell 4 rfl
  have f4 := hd.blk.loose 4
  have HTK := Lib.hid (hd.tick (now + 1))
  clear hF hd hx hy hb5
  go_upto_region 5 with fail
  have HD6 := Lib.hid HTK.out.1
  have HO6 := Lib.hid HTK.out.2
  clear k4 f4 HTK
  generalize w5.setCell ⟨g, 4, none⟩ (.int .i64 (now + 1)) = w6 at HD6 HO6 ⊢
  refine wp_region_held_drew (S := fun w' => Below w6.heap.size w6 w') (by kernel_rfl) (Below.refl _ _).drew (fun hHeld => ?_)
  refine take_at 0 19 (v := ?_) rfl rfl (by kernel_rfl) (by kernel_rfl) (by kernel_rfl) (fun _ _ _ h => h) (Or.inl ⟨by rfl, ?_⟩) (by assumption) ?_
  rotate_left
  · intro w' hSw
    go_simp
    (try with_reducible rfl)
  (try simp only [Act.put]); (try simp only [List.setIfInBounds_toArray]); (try simp only [List.set_cons_succ]); (try simp only [List.set_cons_zero])
  refine take_at 1 20 (v := ?_) rfl rfl (by kernel_rfl) (by kernel_rfl) (by kernel_rfl) (fun _ _ _ h => h) (Or.inl ⟨by rfl, ?_⟩) (by assumption) ?_
  rotate_left
  · intro w' hSw
    go_simp
    (try with_reducible rfl)
  (try simp only [Act.put]); (try simp only [List.setIfInBounds_toArray]); (try simp only [List.set_cons_succ]); (try simp only [List.set_cons_zero])
  refine take_at 2 21 (v := ?_) rfl rfl (by kernel_rfl) (by kernel_rfl) (by kernel_rfl) (fun _ _ _ h => h) (Or.inl ⟨by rfl, ?_⟩) (by assumption) ?_
  rotate_left
  · intro w' hSw
    go_simp
    (try with_reducible rfl)
  (try simp only [Act.put]); (try simp only [List.setIfInBounds_toArray]); (try simp only [List.set_cons_succ]); (try simp only [List.set_cons_zero])
  refine take_at 3 22 (v := ?_) rfl rfl (by kernel_rfl) (by kernel_rfl) (by kernel_rfl) (fun _ _ _ h => h) (Or.inl ⟨by rfl, ?_⟩) (by assumption) ?_
  rotate_left
  · intro w' hSw
    have hSw' := hSw
    (try dsimp only at hSw')
    have k1 := (HD6.out.below hSw').blk.cell 1 rfl
    go_simp
    (try with_reducible rfl)
  (try simp only [Act.put]); (try simp only [List.setIfInBounds_toArray]); (try simp only [List.set_cons_succ]); (try simp only [List.set_cons_zero])
  refine take_at 4 23 (v := ?_) rfl rfl (by kernel_rfl) (by kernel_rfl) (by kernel_rfl) (fun _ _ _ h => h) (Or.inl ⟨by rfl, ?_⟩) (by assumption) ?_
  rotate_left
  · intro w' hSw
    go_simp
    (try with_reducible rfl)
  (try simp only [Act.put]); (try simp only [List.setIfInBounds_toArray]); (try simp only [List.set_cons_succ]); (try simp only [List.set_cons_zero])
  refine take_at 5 24 (v := ?_) rfl rfl (by kernel_rfl) (by kernel_rfl) (by kernel_rfl) (fun _ _ _ h => h) (Or.inl ⟨by rfl, ?_⟩) (by assumption) ?_
  rotate_left
  · intro w' hSw
    go_simp
    (try with_reducible rfl)
  (try simp only [Act.put]); (try simp only [List.setIfInBounds_toArray]); (try simp only [List.set_cons_succ]); (try simp only [List.set_cons_zero])
  refine take_at 6 25 (v := ?_) rfl rfl (by kernel_rfl) (by kernel_rfl) (by kernel_rfl) (fun _ _ _ h => h) (Or.inl ⟨by rfl, ?_⟩) (by assumption) ?_
  rotate_left
  · intro w' hSw
    go_simp
    (try with_reducible rfl)
  (try simp only [Act.put]); (try simp only [List.setIfInBounds_toArray]); (try simp only [List.set_cons_succ]); (try simp only [List.set_cons_zero])
  refine take_at 7 26 (v := ?_) rfl rfl (by kernel_rfl) (by kernel_rfl) (by kernel_rfl) (fun _ _ _ h => h) (Or.inl ⟨by rfl, ?_⟩) (by assumption) ?_
  rotate_left
  · intro w' hSw
    have hSw' := hSw
    (try dsimp only at hSw')
    have k4 := (HD6.out.below hSw').blk.cell 4 rfl
    go_simp
    (try with_reducible rfl)
  (try simp only [Act.put]); (try simp only [List.setIfInBounds_toArray]); (try simp only [List.set_cons_succ]); (try simp only [List.set_cons_zero])
  refine take_at 10 29 (v := ?_) rfl rfl (by kernel_rfl) (by kernel_rfl) (by kernel_rfl) (fun _ _ _ h => h) (Or.inl ⟨by rfl, ?_⟩) (by assumption) ?_
  rotate_left
  · intro w' hSw
    go_simp
    (try with_reducible rfl)
  (try simp only [Act.put]); (try simp only [List.setIfInBounds_toArray]); (try simp only [List.set_cons_succ]); (try simp only [List.set_cons_zero])
  refine wpAnyH_ready (rs := [8]) (by kernel_rfl) (by simp) ?_
  refine AllReadyH.cons (i := 8) rfl (fun K hK => ?_) AllReadyH.nil
  go_simp
  go_at_call 15
  refine (fn_by (w0 := w6.drew) (A := B6) (n := q) (cap := d6) (ps := ps) (now + 1) HD6.out.op.rd.drew HQ.out hq64).mono ?_
  rintro _ w7 ⟨v, out, rfl, hdue, how, hb7⟩
  have hb7' : Below w6.heap.size w6 w7 := (Below.refl w6.heap.size w6).drew.trans hb7
  obtain ⟨AL, cL, rfl, _, _, _, _⟩ := how.form
  have HOW := Lib.hid how
  have HDU := Lib.hid hdue
  obtain ⟨m, hm⟩ : ∃ m, (byL ps (now + 1) out).length = m := ⟨_, rfl⟩
  rw [hm] at HOW ⊢
  have HM := Lib.hid hm
  clear how hdue hb7 hm
  refine hK.out _ _ hb7' (fun hHeld => ?_)
  clear hK K
  (try simp only [Act.put]); (try simp only [List.setIfInBounds_toArray]); (try simp only [List.set_cons_succ]); (try simp only [List.set_cons_zero])
  refine take_at 9 28 (v := ?_) rfl rfl (by kernel_rfl) (by kernel_rfl) (by kernel_rfl) (fun _ _ _ h => h) (Or.inl ⟨by rfl, ?_⟩) (by assumption) ?_
  rotate_left
  · intro w' hSw
    go_simp
    (try with_reducible rfl)
  (try simp only [Act.put]); (try simp only [List.setIfInBounds_toArray]); (try simp only [List.set_cons_succ]); (try simp only [List.set_cons_zero])
  refine wpAnyH_done (by kernel_rfl) ?_ _
  clear hHeld
  have HB7 := Lib.hid hb7'
  clear hb7'
  have hmB : m ≤ 2000000 := by
    rw [← HM.out]
    exact Nat.le_trans (byL_len ps (now + 1) out) (Nat.le_trans HDU.out.len (by rw [HQ.out]; exact hq64))
  have D7 := Lib.hid (HD6.out.wider (v := .slice AL m cL) HB7.out (fun b e => World.ownsRow.lt HOW.out b e))
  have O7 := Lib.hid (HO6.out.trans (HD6.out.on HB7.out))
  go_wp2
  go_loopw [29] (fun i wr => ∃ (j : Nat) (va vp : Value) (s' : St), j ≤ m ∧ i = .int .i64 (j : Int) ∧ Dr (fun b => F b ∨ (Value.slice AL m cL).ownBlock = some b) wr g va vp vX vY s' ∧ VoidTo ⟨zs, ps, now + 1⟩ ((byL ps (now + 1) out).take j) s' ∧ On (fun b => F b ∨ (Value.slice AL m cL).ownBlock = some b) w7 wr) (fun i _ => m - (intOf i).toNat)
  case atStart => exact ⟨0, _, _, _, Nat.zero_le _, rfl, D7.out, VoidTo.none HOK1.out, On.refl _ _⟩
  case round =>
    obtain ⟨j, va, vp, s', hj, rfl, hD, hV, hO⟩ := hrel
    have HD := Lib.hid hD
    have HV := Lib.hid hV
    have HO := Lib.hid hO
    clear hD hV hO
    by_cases hlt : j < m
    · obtain ⟨x, hx⟩ : ∃ x, (byL ps (now + 1) out)[j]? = some x := ⟨_, List.getElem?_eq_getElem (by rw [HM.out]; exact hlt)⟩
      have hxo : x ∈ out := List.takeWhile_subset _ (List.mem_of_getElem? hx)
      obtain ⟨k, hk, rfl, hks⟩ := (HDU.out.mem x).1 hxo
      obtain ⟨p, hp⟩ : ∃ p, ps[k]? = some p := ⟨_, List.getElem?_eq_getElem hk⟩
      have hps : p.stg = 0 := by rw [List.getD_eq_getElem?_getD, hp] at hks; exact hks
      have hnot : (k : Int) ∉ (byL ps (now + 1) out).take j := by
        have hnd : (byL ps (now + 1) out).Nodup := (List.takeWhile_sublist _).nodup HDU.out.once
        exact nodup_fresh hnd hx
      have HNX := Lib.hid (HV.out.next hp hps hnot)
      have htk : (byL ps (now + 1) out).take (j + 1) = (byL ps (now + 1) out).take j ++ [(k : Int)] := by rw [List.take_add_one, hx]; rfl
      have HTK := Lib.hid htk
      have hrd : Rd .i64 wr AL m (byL ps (now + 1) out) := by
        obtain ⟨A', c', e, _, _, hr, _⟩ := (Own.kept2 (w' := wr) HOW.out (fun g' e => HO.out.block g' (.inr e))).form
        injection e with e1 _ _
        subst e1
        exact hr
      obtain ⟨ad, rfl, hcell⟩ := hrd.at_ hlt
      rw [show (byL ps (now + 1) out).getD j 0 = (k : Int) by rw [List.getD_eq_getElem?_getD, hx]; rfl] at hcell
      have HVD := Lib.hid (ovoid_any (fun b => F b ∨ (Value.slice (some ad) m cL).ownBlock = some b) g va vp vX vY s' ⟨0, 5, k, 0, 0, 0, 0⟩ wr HD.out HV.out.ok.right rfl HV.out.ok.few)
      unfold DrI Rq.val at HVD
      dsimp only at HVD
      clear hx hxo hk hks hp hps hnot htk hrd
      go_wp2_with fail
      refine HVD.out.mono ?_
      rintro _ wv ⟨va2, vp2, rfl, hd2, ho2⟩
      have HD2 := Lib.hid hd2
      have HO2 := Lib.hid (HO.out.trans ho2)
      clear hd2 ho2
      go_wp2
      go_roundw
      · exact ⟨j + 1, va2, vp2, _, by omega, rfl, HD2.out, by rw [HTK.out]; exact HNX.out, HO2.out⟩
      · simp [intOf]; omega
    · obtain rfl : j = m := by omega
      have hfin : s' = ⟨heldL (ps.map (closeP (now + 1))) zs, ps.map (closeP (now + 1)), now + 1⟩ := VoidTo.tick HOK1.out HDU.out (by have h := HV.out; rwa [List.take_of_length_le (by rw [HM.out]; exact Nat.le_refl _)] at h)
      have HFIN := Lib.hid hfin
      obtain ⟨tz, tp, tn⟩ := s'
      obtain ⟨A7, c7, rfl, _, _, _, _⟩ := HD.out.oa.form
      obtain ⟨B7, d7, rfl, _, _, _, _⟩ := HD.out.op.form
      dsimp only at HD
      obtain ⟨n7, hn7⟩ : ∃ n7, tz.length = n7 := ⟨_, rfl⟩
      obtain ⟨q7, hq7⟩ : ∃ q7, tp.length = q7 := ⟨_, rfl⟩
      have HN7 := Lib.hid hn7
      have HQ7 := Lib.hid hq7
      rw [hn7, hq7] at HD
      have HOO := Lib.hid (O7.out.trans (⟨HO.out.os, HO.out.tape, HO.out.output, HO.out.size, fun k hk => HO.out.block k (.inl hk)⟩ : On F w7 wr))
      have HX7 := Lib.hid (HX5.out.same (w' := wr) (fun b e => HOO.out.block b (HFX.out b e)))
      have HY7 := Lib.hid (HY5.out.same (w' := wr) (fun b e => HOO.out.block b (HFY.out b e)))
      obtain ⟨X7, e7, rfl, _, _, _, _⟩ := HX7.out.form
      obtain ⟨Y7, i7, rfl, _, _, _, _⟩ := HY7.out.form
      rw [HXN.out] at HD HX7
      rw [HYN.out] at HD HY7
      have H27 := Lib.hid (Blk.on HR5.out HOO.out (HFL.out _ hsz2))
      have HW7 := Lib.hid ((HBL.out.trans (HB5.out.mono HBL.out.size)).trans ((HOO.out.below HFL.out).mono HBL.out.size))
      have HFA := Lib.hid (fun b (e : (Value.slice A7 n7 c7).ownBlock = some b) => Nat.le_of_not_lt fun hb => (HD.out.ag b e).2.2 (.inl (HFL.out b hb)))
      have HFP := Lib.hid (fun b (e : (Value.slice B7 q7 d7).ownBlock = some b) => Nat.le_of_not_lt fun hb => (HD.out.pg b e).2 (.inl (HFL.out b hb)))
      clear hn7 hq7 hfin
      obtain ⟨d0, d1, d2, d3, d4⟩ := (show _ ∧ _ ∧ _ ∧ _ ∧ _ from ⟨HD.out.blk.cell 0 rfl, HD.out.blk.cell 1 rfl, HD.out.blk.cell 2 rfl, HD.out.blk.cell 3 rfl, HD.out.blk.cell 4 rfl⟩)
      obtain ⟨y0, y1, y2, y3, y4⟩ := (show _ ∧ _ ∧ _ ∧ _ ∧ _ from ⟨H27.out.cell 0 rfl, H27.out.cell 1 rfl, H27.out.cell 2 rfl, H27.out.cell 3 rfl, H27.out.cell 4 rfl⟩)
      obtain ⟨f0, f1, f2, f3, f4⟩ := (show _ ∧ _ ∧ _ ∧ _ ∧ _ from ⟨H27.out.loose 0, H27.out.loose 1, H27.out.loose 2, H27.out.loose 3, H27.out.loose 4⟩)
      go_wp2
      have HP := st_put H27.out rfl (.slice A7 n7 c7) (.slice B7 q7 d7) (.slice X7 xn e7) (.slice Y7 yn i7) (.int .i64 tn)
      have HPB := st_below HW7.out (show w.heap.size ≤ w.heap.size + 1 by omega) (.slice A7 n7 c7) (.slice B7 q7 d7) (.slice X7 xn e7) (.slice Y7 yn i7) (.int .i64 tn)
      have OA := st_ownA (HD.out.oa.more HFA.out) hsz2 (.slice A7 n7 c7) (.slice B7 q7 d7) (.slice X7 xn e7) (.slice Y7 yn i7) (.int .i64 tn)
      have OP := st_ownG (HD.out.op.more HFP.out) hsz2 (.slice A7 n7 c7) (.slice B7 q7 d7) (.slice X7 xn e7) (.slice Y7 yn i7) (.int .i64 tn)
      have OX := st_ownG HX7.out hsz2 (.slice A7 n7 c7) (.slice B7 q7 d7) (.slice X7 xn e7) (.slice Y7 yn i7) (.int .i64 tn)
      have OY := st_ownG HY7.out hsz2 (.slice A7 n7 c7) (.slice B7 q7 d7) (.slice X7 xn e7) (.slice Y7 yn i7) (.int .i64 tn)
      refine bodyPost_ret (results_cell_row (p := 2) (ty := 34) rfl _ _ (w.heap.size + 1) _ _ (0, 0) _ rfl HP Tryz.underlying34 rfl (by kernel_rfl)) rfl ?_
      rw [← HFIN.out]
      exact ⟨.slice X7 xn e7, .slice Y7 yn i7, A7, c7, B7, d7, by unfold stV; dsimp only; rw [HN7.out, HQ7.out], st_own OA OP HN7.out HQ7.out, OX.rdV, OY.rdV, HPB⟩
/-- A tick of a right state. -/
theorem tick_all (s : St) (X Y : Value) (A : Option Addr) (c : Nat) (B : Option Addr) (d : Nat) (sl : List Sg) (kl : List Kn) (w : World) (hs : StAt w s X Y A c B d) (hX : RdV sagas w X sl) (hY : RdV known w Y kl) (hok : Ok s) (hsl : sl.length ≤ 2000000) (hkl : kl.length ≤ 2000000) : Calls Tryz.prog 9 #[stV s X Y A c B d] w (TkRes w (tickS s) sl kl) := by
  by_cases he : s.now = 1073741824
  · exact tick_end s X Y A c B d sl kl w hs hX hY hok hsl hkl he
  · exact tick_go s X Y A c B d sl kl w hs hX hY hok hsl hkl he
end Go.Proofs.YtjnmppdohglcaaaGreatDoor

