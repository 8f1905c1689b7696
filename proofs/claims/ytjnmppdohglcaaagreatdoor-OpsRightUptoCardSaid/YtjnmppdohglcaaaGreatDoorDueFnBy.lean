/-
  due.By by its contract.
-/
import Derived.Test.YtjnmppdohglcaaaGreatDoorDueNew
import Derived.Test.YtjnmppdohglcaaaGreatDoorDueBy
namespace Go.Proofs.YtjnmppdohglcaaaGreatDoor
open Go Go.RowKit
set_option linter.unusedVariables false

theorem byL_take {ps : List Py} {now : Int} : ∀ (out : List Int) (j : Nat), (∀ a ∈ out.take j, tilP ps a ≤ now) → (∀ a, out[j]? = some a → now < tilP ps a) → byL ps now out = out.take j := by
  intro out
  induction out with
  | nil => intro j _ _; simp [byL_nil]
  | cons x l ih =>
    intro j h1 h2
    cases j with
    | zero => rw [byL_cons, if_neg (by have := h2 x rfl; omega)]; rfl
    | succ j =>
      rw [byL_cons, if_pos (h1 x (by simp)), List.take_succ_cons, ih j (fun a ha => h1 a (by rw [List.take_succ_cons]; exact List.mem_cons_of_mem _ ha)) (fun a ha => h2 a (by simpa using ha))]
/-- Taken so far, and the next one's time is not over. -/
theorem byL_stop {ps : List Py} {now : Int} {out l : List Int} (h : ∀ a ∈ out, tilP ps a ≤ now) (hn : ∀ a r, l = a :: r → now < tilP ps a) : byL ps now (out ++ l) = out := by
  rw [byL_take (out ++ l) out.length (fun a ha => h a (by rwa [List.take_left] at ha)) (fun a ha => ?_), List.take_left]
  rw [List.getElem?_append_right (Nat.le_refl _), Nat.sub_self] at ha
  cases l with
  | nil => cases ha
  | cons b r => injection ha with ha; exact ha ▸ hn b r rfl
theorem byL_all {ps : List Py} {now : Int} {out : List Int} (h : ∀ a ∈ out, tilP ps a ≤ now) : byL ps now out = out := by
  have := byL_stop (l := []) h (fun a r h => by cases h)
  rwa [List.append_nil] at this
theorem drain_head {ps : List Py} {xs : List Int} {m : Nat} (hm : xs.length = m) (h0 : 0 < m) : drainL (dlt ps) 0 m xs = xs.getD 0 0 :: drainL (dlt ps) 0 (m - 1) (popL (dlt ps) 0 xs) := by
  obtain ⟨m', rfl⟩ : ∃ m', m = m' + 1 := ⟨m - 1, by omega⟩
  rfl

section
variable {w0 : World} {z : Nat} {A : Option Addr} {n cap : Nat} {ps : List Py}

theorem Own.kept {z M : Nat} {e : TypeId} {k : IntKind} {w w' : World} {base n : Nat} {v : Value} {zs : List Int} (h : Own e k w base v n zs) (hv : ∀ g, v.ownBlock = some g → M ≤ g ∨ g < z) (hl : Leaves z M w w') : Own e k w' base v n zs := by
  have hr := World.ownsRow.lt h
  refine ⟨h.1, ?_⟩
  rcases h.2 with h2 | ⟨g, cap, cur, hv', hg, hh, r⟩
  · exact .inl h2
  · have e : v.ownBlock = some g := by rw [hv']; rfl
    exact .inr ⟨g, cap, cur, hv', hg, by rw [hl.2 g (hv g e) (hr g e).2]; exact hh, r⟩
theorem WHeap.grown {W W' : World} {v : Value} {xs : List Int} {M : Nat} {r : Option Nat} (h : WHeap w0 z A n cap ps W v xs) (hv : ∀ g, v.ownBlock = some g → g < M) (hM : z < M) (hr : ∀ g, r = some g → w0.heap.size ≤ g ∧ (M ≤ g ∨ g < z)) (hg : W.grownBy W' r) : WHeap w0 z A n cap ps W' v xs := by
  have hb := h.base
  have hl := World.ownsRow.lt h.own
  have hne : ∀ k, z ≤ k → k < M → some k ≠ r := fun k hz hk e => by have := (hr k e.symm).2; omega
  refine ⟨(hg.block _ h.lt (hne _ (Nat.le_refl _) hM)).trans h.obj, ?_, h.below.grown hg (Nat.le_trans hb (Nat.le_of_lt h.lt)) (fun g e => (hr g e).1), hb, h.ins⟩
  refine ⟨h.own.1, ?_⟩
  rcases h.own.2 with h2 | ⟨g, cap, cur, hvv, hgg, hh, rr⟩
  · exact .inl h2
  · have e := hv g (by rw [hvv]; rfl)
    exact .inr ⟨g, cap, cur, hvv, hgg, by rw [hg.block g (hl g (by rw [hvv]; rfl)).2 (hne g (by omega) e)]; exact hh, rr⟩
theorem Shrinks.of {W : World} {xs : List Int} (h : Grows w0 z A n cap ps W xs) : Shrinks w0 z A n cap ps W.heap.size W xs := by
  obtain ⟨h1, v, h2⟩ := h
  exact ⟨h1, h2.lt, v, fun g hg => (World.ownsRow.lt h2.own g hg).2, h2⟩
def vlen' : Value → Nat
  | .slice _ n _ => n
  | _ => 0
theorem own_vlen' {e : TypeId} {k : IntKind} {w : World} {b n : Nat} {v : Value} {zs : List Int} (h : Own e k w b v n zs) : vlen' v = n := by
  obtain ⟨A, c, rfl, _⟩ := h.form
  rfl

set_option maxRecDepth 100000 in
theorem take_any {M : Nat} (H : HeapShrink (.pointer (some ⟨z, 0, none⟩)) (dlt ps) (Shrinks w0 z A n cap ps M) (Leaves z M)) (xs : List Int) (w : World) (hs : Shrinks w0 z A n cap ps M w xs) (h0 : 0 < xs.length) :
    Calls Tryz.prog 35 #[.pointer (some ⟨z, 0, none⟩)] w fun e w' => e = .returned (.int .i64 (xs.getD 0 0)) ∧ Shrinks w0 z A n cap ps M w' (popL (dlt ps) 0 xs) ∧ Leaves z M w w' := by
  have HP := Lib.hid (pop_any H xs w hs h0)
  obtain ⟨x, hx⟩ : ∃ x, xs.getD 0 0 = x := ⟨_, rfl⟩
  rw [hx] at HP ⊢
  have ta := int_assert x
  clear H hs hx
  go_enter Tryz.func35, Tryz.ntmps35
  go_wp2_with fail
  refine HP.out.mono ?_
  rintro _ w3 ⟨rfl, hs3, hle3⟩
  have HS3 := Lib.hid hs3
  have HL3 := Lib.hid hle3
  clear hs3 hle3 HP
  go_wp2
  go_ret
  exact ⟨rfl, HS3.out, HL3.out⟩

theorem suntil_any {M : Nat} (hr : RdS pays w0 A ps) (hl : ps.length = n) (hn : n ≤ 2000000) (xs : List Int) (w : World) (hs : Shrinks w0 z A n cap ps M w xs) (h0 : 0 < xs.length) :
    Calls Tryz.prog 34 #[.pointer (some ⟨z, 0, none⟩), .int .i64 0] w fun e w' => e = .returned (.int .i64 (tilP ps (xs.getD 0 0))) ∧ Shrinks w0 z A n cap ps M w' xs ∧ Leaves z M w w' := by
  obtain ⟨h1, hM, v, hv, h⟩ := hs
  refine (huntil_any w v xs h hr hl (by omega) 0 h0).mono ?_
  rintro _ _ ⟨rfl, m, rfl⟩
  exact ⟨rfl, ⟨h1, hM, v, hv, h.drewN m⟩, Nat.le_refl _, fun _ _ _ => rfl⟩

theorem WHeap.weaken {W0 W : World} {v : Value} {xs : List Int} (h : WHeap W0 z A n cap ps W v xs) (hb : Below w0.heap.size w0 W0) : WHeap w0 z A n cap ps W v xs :=
  ⟨h.obj, h.own, hb.trans (h.below.mono hb.size), Nat.le_trans hb.size h.base, h.ins⟩
theorem Grows.weaken {W0 W : World} {xs : List Int} (h : Grows W0 z A n cap ps W xs) (hb : Below w0.heap.size w0 W0) : Grows w0 z A n cap ps W xs := by
  obtain ⟨h1, v, h2⟩ := h
  exact ⟨h1, v, h2.weaken hb⟩
theorem Grows.below {W : World} {xs : List Int} (h : Grows w0 z A n cap ps W xs) : Below w0.heap.size w0 W := by
  obtain ⟨_, _, h⟩ := h
  exact h.below
theorem Grows.lt {W : World} {xs : List Int} (h : Grows w0 z A n cap ps W xs) : z < W.heap.size := by
  obtain ⟨_, _, h⟩ := h
  exact h.lt
/-- A slice written out with nothing in it. -/
theorem Own.none_yet (w : World) : Own 3 .i64 (w.alloc (.cells #[] 3)) w.heap.size (.slice (some ⟨w.heap.size, 0, none⟩) 0 0) 0 [] :=
  World.ownsRow_made w #[] 0 (Nat.le_refl _) (Nat.zero_le _) rfl

set_option maxRecDepth 100000 in
set_option maxHeartbeats 1000000 in
theorem fn_by (now : Int) (hr : RdS pays w0 A ps) (hl : ps.length = n) (hn : n ≤ 2000000) :
    Calls Tryz.prog 15 #[.slice A n cap, .int .i64 now] w0 fun e w' => ∃ v out, e = .returned v ∧ DueIs ps out ∧ Own 3 .i64 w' w0.heap.size v (byL ps now out).length (byL ps now out) ∧ Below w0.heap.size w0 w' := by
  have HB0 := Lib.hid ((Below.refl w0.heap.size w0).alloc (Nat.le_refl _) (.cells #[] 3))
  have HNW := Lib.hid (dnew_any (w0 := w0.alloc (.cells #[] 3)) (cap := cap) (Below.refl _ _) (hr.alloc _) hl hn)
  have HO0 := Lib.hid (Own.none_yet w0)
  have hz0 : w0.heap.size < (w0.alloc (.cells #[] 3)).heap.size := by simp
  have HR := Lib.hid hr
  have HL := Lib.hid hl
  clear hr hl
  go_enter Tryz.func15, Tryz.ntmps15
  go_wp2_with fail
  obtain ⟨W0, hW0⟩ : ∃ W0, w0.alloc (.cells #[] 3) = W0 := ⟨_, rfl⟩
  rw [hW0] at HB0 HNW HO0 hz0 ⊢
  clear hW0
  refine HNW.out.mono ?_
  rintro _ w1 ⟨rfl, x0, hg, hh, hp⟩
  obtain ⟨z, hz⟩ : ∃ z, W0.heap.size = z := ⟨_, rfl⟩
  have ho1 := HO0.out.below hg.below
  rw [hz] at hg hz0 ⊢
  have hg2 := hg.weaken HB0.out
  have HS0 := Lib.hid (Shrinks.of hg2)
  have HH0 := Lib.hid hh
  have HP := Lib.hid hp
  have HO1 := Lib.hid ho1
  obtain ⟨M, hM⟩ : ∃ M, w1.heap.size = M := ⟨_, rfl⟩
  rw [hM] at HS0
  have HOPS := Lib.hid (shrinks_ops (z := z) (cap := cap) HR.out HL.out (by omega) M)
  have hx0 := hg.1
  obtain ⟨N, hN⟩ : ∃ N, x0.length = N := ⟨_, rfl⟩
  rw [hN] at hx0
  have HN := Lib.hid hN
  have hM1 : z < M := by rw [← hM]; exact hg.lt
  have hM2 : M ≤ w1.heap.size := by omega
  clear hg hg2 hh hp hN HNW hM ho1 HO0 HB0 hz
  go_wp2
  go_loopw [5] (fun v wr => ∃ (xs out : List Int), Shrinks w0 z A n cap ps M wr xs ∧ Heap (dlt ps) 0 xs ∧ Own 3 .i64 wr w0.heap.size v out.length out ∧ (∀ g, v.ownBlock = some g → M ≤ g ∨ g < z) ∧ out ++ drainL (dlt ps) 0 xs.length xs = drainL (dlt ps) 0 N x0 ∧ out.length + xs.length = N ∧ M ≤ wr.heap.size ∧ (∀ a ∈ out, tilP ps a ≤ now)) (fun v _ => N - vlen' v)
  case atStart => exact ⟨x0, [], HS0.out, HH0.out, HO1.out, (fun g hg => by injection hg with hg; exact .inr (hg ▸ hz0)), by rw [HN.out]; rfl, by rw [HN.out]; simp, hM2, fun a h => by cases h⟩
  case round =>
    obtain ⟨xs, out, hs, hh, ho, hv, he, hlen, hMr, hov⟩ := hrel
    have HS := Lib.hid hs
    have HH := Lib.hid hh
    have HO := Lib.hid ho
    have HV := Lib.hid hv
    have HE := Lib.hid he
    have HLEN := Lib.hid hlen
    have HOV := Lib.hid hov
    have HDUE := Lib.hid (show DueIs ps (drainL (dlt ps) 0 N x0) from DueIs.of_perm ((drainL_perm N x0 HN.out).trans (HL.out ▸ HP.out)) (drainL_order (dlt_weak ps) N x0 HN.out HH0.out))
    have hlr := HOPS.out.len _ _ hs
    obtain ⟨m, hm⟩ : ∃ m, xs.length = m := ⟨_, rfl⟩
    rw [hm] at hlr
    have HLR := Lib.hid hlr
    have HM := Lib.hid hm
    have hm3 : m ≤ 2000000 := by rw [← hm]; exact hs.1
    clear hs hh ho hv he hlen hlr hm hov
    go_wp2_with fail
    refine HLR.out.mono ?_
    rintro _ w2 ⟨rfl, hs2, hle2⟩
    have HS2 := Lib.hid hs2
    have HO2 := Lib.hid (HO.out.kept HV.out hle2)
    have hM3 : M ≤ w2.heap.size := Nat.le_trans hMr hle2.1
    clear hs2 hle2 HLR HO HS
    by_cases h0 : 0 < m
    · have q1 : decide ((0 : Int) < (m : Int)) = true := decide_eq_true (by omega)
      have HUN := Lib.hid (suntil_any HR.out HL.out hn xs w2 HS2.out (by rw [HM.out]; exact h0))
      obtain ⟨x, hx⟩ : ∃ x, xs.getD 0 0 = x := ⟨_, rfl⟩
      obtain ⟨u, hu⟩ : ∃ u, tilP ps x = u := ⟨_, rfl⟩
      rw [hx, hu] at HUN
      have HX := Lib.hid hx
      have HU := Lib.hid hu
      clear hx hu
      go_wp2_with fail
      refine HUN.out.mono ?_
      rintro _ w3 ⟨rfl, hs3, hle3⟩
      have HS3 := Lib.hid hs3
      have HO3 := Lib.hid (HO2.out.kept HV.out hle3)
      have hM4 : M ≤ w3.heap.size := Nat.le_trans hM3 hle3.1
      clear hs3 hle3 HUN HS2 HO2
      have HDR := Lib.hid (drain_head (ps := ps) HM.out h0)
      rw [HX.out] at HDR
      by_cases hun : u ≤ now
      · have q2 : decide (u ≤ now) = true := decide_eq_true hun
        have HTK := Lib.hid (take_any HOPS.out xs w3 HS3.out (by rw [HM.out]; exact h0))
        rw [HX.out] at HTK
        have HOV2 := Lib.hid (show ∀ a ∈ out ++ [x], tilP ps a ≤ now by
          intro a ha
          rcases List.mem_append.1 ha with ha | ha
          · exact HOV.out a ha
          · simp at ha; rw [ha, HU.out]; exact hun)
        clear hun
        go_wp2_with fail
        refine HTK.out.mono ?_
        rintro _ w4 ⟨rfl, hs4, hle4⟩
        have HS4 := Lib.hid hs4
        have HO4 := Lib.hid (HO3.out.kept HV.out hle4)
        have hM5 : M ≤ w4.heap.size := Nat.le_trans hM4 hle4.1
        obtain ⟨l, hl⟩ : ∃ l, out.length = l := ⟨_, rfl⟩
        rw [hl] at HO4
        have HLL := Lib.hid hl
        have hlN : l + m = N := by rw [← hl, ← HM.out]; exact HLEN.out
        have HVL := Lib.hid (own_vlen' HO4.out)
        have hzb : w0.heap.size ≤ w4.heap.size := by omega
        clear hs4 hle4 hl HTK HS3 HO3
        go_wp2_with (at_builtin; refine wpList_append_at _ rfl (.tmp 19) (.tmp 22) 61 rfl .i64 8 w0.heap.size 3 Tryz.underlying61 info_int _ l _ rfl (HO4.out.alloc _) (some ⟨w4.heap.size, 0, none⟩) 1 1 [x] rfl (by first | exact Rd.one _ | (have h := Rd.one (k := .i64) (w := w4) (t := 3) x; simpa using h)) (by omega) (by omega) (by simp; omega) ?_; intro v' w5 ho5 hg5 hw5)
        have HO5 := Lib.hid ho5
        have HG5 := Lib.hid hg5
        have HRL := Lib.hid HO4.out.rowLt
        have HV5 := Lib.hid (show ∀ g, v'.ownBlock = some g → M ≤ g ∨ g < z by
          intro g hg
          rcases hw5 with e | ⟨g', e, h⟩
          · exact HV.out g (e ▸ hg)
          · rw [e] at hg; injection hg with hg; simp at h; omega)
        clear ho5 hg5 hw5
        go_wp2
        go_roundw
        case rel =>
          obtain ⟨hb, hMM, v, hv, hw⟩ := HS4.out
          refine ⟨popL (dlt ps) 0 xs, out ++ [x], ⟨hb, hMM, v, hv, (hw.alloc _).grown hv hMM (fun g hg => ⟨HRL.out g hg, HV.out g hg⟩) HG5.out⟩, popL_heap (dlt_weak ps) HH.out, by rw [List.length_append, HLL.out]; exact HO5.out, HV5.out, ?_, by rw [popL_length, List.length_append, HLL.out, HM.out]; simp; omega, by have := HG5.out.size; simp at this; omega, HOV2.out⟩
          rw [← HE.out, HM.out, popL_length, HM.out, List.append_assoc, HDR.out]
          rfl
        case measure =>
          rw [HVL.out, own_vlen' HO5.out]
          omega
      · have q2 : decide (u ≤ now) = false := decide_eq_false hun
        have HBY := Lib.hid (show byL ps now (drainL (dlt ps) 0 N x0) = out by
          rw [← HE.out, HM.out, HDR.out]
          exact byL_stop HOV.out fun a r h => by injection h with h; rw [← h, HU.out]; omega)
        clear hun
        go_wp2
        go_ret
        obtain ⟨_, _, v, _, hw⟩ := HS3.out
        exact ⟨_, _, rfl, HDUE.out, by rw [HBY.out]; exact HO3.out, hw.below⟩
    · obtain rfl : m = 0 := by omega
      have HBY := Lib.hid (show byL ps now (drainL (dlt ps) 0 N x0) = out by
        rw [← HE.out, HM.out]
        exact byL_stop HOV.out fun a r h => by cases h)
      go_wp2
      go_ret
      obtain ⟨_, _, v, _, hw⟩ := HS2.out
      exact ⟨_, _, rfl, HDUE.out, by rw [HBY.out]; exact HO2.out, hw.below⟩
end
end Go.Proofs.YtjnmppdohglcaaaGreatDoor
