/-
  The statement RequestTwo by its walk.
-/
import Derived.Test.YtenepkhglgfpaaaReqAwake
import Derived.Test.YtenepkhglgfpaaaReqCells
import Derived.Deep.RegionWith
import Derived.Deep.RegionHeld3
import Derived.Deep.CutRange
import Derived.Test.YtenepkhglgfpaaaRebase
namespace Go.Proofs.Ytenepkhglgfpaaa
open Go Go.RowKit
set_option linter.unusedVariables false

theorem drew_heap (w : World) : w.drew.heap = w.heap := rfl
theorem alloc_size (w : World) (o : Obj) : (w.alloc o).heap.size = w.heap.size + 1 := by simp
theorem heap_alloc_if (w : World) (o : Obj) (k : Nat) : (w.alloc o).heap[k]? = if k = w.heap.size then some o else w.heap[k]? := by
  by_cases h : k = w.heap.size
  · rw [if_pos h, h]; exact heap_alloc_new w o
  · rw [if_neg h]
    show (w.heap.push o)[k]? = _
    rw [Array.getElem?_push, if_neg h]

theorem rq_parts (a b c d e f g a' b' c' d' e' f' g' : Int) : (a = a' ∧ b = b' ∧ c = c' ∧ d = d' ∧ e = e' ∧ f = f' ∧ g = g') ∨ ¬ a = a' ∨ (a = a' ∧ ¬ b = b') ∨ (a = a' ∧ b = b' ∧ ¬ c = c') ∨ (a = a' ∧ b = b' ∧ c = c' ∧ ¬ d = d') ∨ (a = a' ∧ b = b' ∧ c = c' ∧ d = d' ∧ ¬ e = e') ∨ (a = a' ∧ b = b' ∧ c = c' ∧ d = d' ∧ e = e' ∧ ¬ f = f') ∨ (a = a' ∧ b = b' ∧ c = c' ∧ d = d' ∧ e = e' ∧ f = f' ∧ ¬ g = g') := by
  by_cases h0 : a = a'
  · by_cases h1 : b = b'
    · by_cases h2 : c = c'
      · by_cases h3 : d = d'
        · by_cases h4 : e = e'
          · by_cases h5 : f = f'
            · by_cases h6 : g = g' <;> simp [h0, h1, h2, h3, h4, h5, h6]
            · simp [h0, h1, h2, h3, h4, h5]
          · simp [h0, h1, h2, h3, h4]
        · simp [h0, h1, h2, h3]
      · simp [h0, h1, h2]
    · simp [h0, h1]
  · simp [h0]
theorem encs_inj (ns ms : List Int) (hl : ns.length = ms.length) (hn : ∀ x ∈ ns, inI x) (hm : ∀ x ∈ ms, inI x) (h : encs ns = encs ms) : ns = ms :=
  (encs_two ns ms [] [] hl hn hm (by rw [h])).1

/-- A request's bytes, behind a world. -/
theorem bytes_after (r : Rq) (W wc : World) (h : Below wc.heap.size wc W) (hf : r.fits) : Calls Try.prog 14 #[r.val] W fun e w' =>
    ∃ A c, e = .returned (.slice A (encs r.nums).length c) ∧ Rd .u8 w' A (encs r.nums).length (ints (encs r.nums)) ∧ Below W.heap.size W w' ∧ Below wc.heap.size wc w' := by
  refine (rbytes_any r W hf).mono ?_
  rintro _ w' ⟨v, rfl, ho, hb⟩
  obtain ⟨A, c, rfl, _, _, hr, _⟩ := ho.form
  exact ⟨A, c, rfl, hr, hb, h.trans (hb.mono h.size)⟩

set_option maxRecDepth 100000 in
set_option maxHeartbeats 8000000 in
theorem requestTwo_walk (w : World) (y : Ak) (hy : y.fits) (z : Ak) (hz : z.fits) :
    Calls Try.prog 7 #[y.val, z.val] w fun e w' => e = .returned (.bool true) ∧ Below w.heap.size w w' := by
  have HY := Lib.hid (fun W => ask_is y hy W)
  have HZ := Lib.hid (fun W => ask_is z hz W)
  obtain ⟨⟨pk, po, pa, pb, pm, pl, pt⟩, hp⟩ : ∃ q, q = y.req := ⟨_, rfl⟩
  obtain ⟨⟨qk, qo, qa, qb, qm, ql, qt⟩, hq⟩ : ∃ q, q = z.req := ⟨_, rfl⟩
  have fp := y.req_fits hy
  have fq := z.req_fits hz
  rw [← hp] at HY fp
  rw [← hq] at HZ fq
  obtain ⟨yk, yo, ya, yb, ym, yl, yt⟩ := y
  obtain ⟨zk, zo, za, zb, zm, zl, zt⟩ := z
  have FP := Lib.hid fp
  have FQ := Lib.hid fq
  clear hp hq fp fq hy hz
  unfold AskIs Rq.val Rq.obj Ak.obj Ak.val at HY HZ
  unfold Ak.val
  dsimp only at HY HZ ⊢
  have H1 := Lib.hid ((Ak7.new w ⟨yk, yo, ya, yb, ym, yl, yt⟩).alloc (.cells #[.int .u8 (zk : Int), .int .u8 (zo : Int), .int .u8 (za : Int), .int .u8 (zb : Int), .int .u16 (zm : Int), .int .u8 (zl : Int), .int .u8 (zt : Int)] 27) (by simp))
  have H2 := Lib.hid (Ak7.new (w.alloc (.cells #[.int .u8 (yk : Int), .int .u8 (yo : Int), .int .u8 (ya : Int), .int .u8 (yb : Int), .int .u16 (ym : Int), .int .u8 (yl : Int), .int .u8 (yt : Int)] 27)) ⟨zk, zo, za, zb, zm, zl, zt⟩)
  have hs0 : (w.alloc (.cells #[.int .u8 (yk : Int), .int .u8 (yo : Int), .int .u8 (ya : Int), .int .u8 (yb : Int), .int .u16 (ym : Int), .int .u8 (yl : Int), .int .u8 (yt : Int)] 27)).heap.size = w.heap.size + 1 := by simp
  rw [hs0] at H2
  have HB0 := Lib.hid (((Below.refl w.heap.size w).alloc (Nat.le_refl _) (.cells #[.int .u8 (yk : Int), .int .u8 (yo : Int), .int .u8 (ya : Int), .int .u8 (yb : Int), .int .u16 (ym : Int), .int .u8 (yl : Int), .int .u8 (yt : Int)] 27)).alloc (by simp) (.cells #[.int .u8 (zk : Int), .int .u8 (zo : Int), .int .u8 (za : Int), .int .u8 (zb : Int), .int .u16 (zm : Int), .int .u8 (zl : Int), .int .u8 (zt : Int)] 27))
  clear hs0
  go_enter Try.func7, Try.ntmps7
  go_wp2_with fail
  refine (awake_ok _).mono ?_
  rintro _ w1 ⟨rfl, hb1⟩
  obtain ⟨c0, c1, c2, c3, c4, c5, c6⟩ := (H1.out.below hb1 (by simp; omega)).cells
  obtain ⟨e0, e1, e2, e3, e4, e5, e6⟩ := (H2.out.below hb1 (by simp)).cells
  dsimp only at c0 c1 c2 c3 c4 c5 c6 e0 e1 e2 e3 e4 e5 e6
  have HB1 := Lib.hid (HB0.out.trans (hb1.mono (by simp; omega)))
  have hz1 : w.heap.size + 2 ≤ w1.heap.size := by have := hb1.size; simp at this; omega
  clear hb1 H1 H2 HB0
  have HS : Hid (∀ w', Below w1.heap.size w1 w' → w'.cell? ⟨w.heap.size, 0, none⟩ = some (.int .u8 (yk : Int)) ∧ w'.cell? ⟨w.heap.size, 1, none⟩ = some (.int .u8 (yo : Int)) ∧ w'.cell? ⟨w.heap.size, 2, none⟩ = some (.int .u8 (ya : Int)) ∧ w'.cell? ⟨w.heap.size, 3, none⟩ = some (.int .u8 (yb : Int)) ∧ w'.cell? ⟨w.heap.size, 4, none⟩ = some (.int .u16 (ym : Int)) ∧ w'.cell? ⟨w.heap.size, 5, none⟩ = some (.int .u8 (yl : Int)) ∧ w'.cell? ⟨w.heap.size, 6, none⟩ = some (.int .u8 (yt : Int)) ∧ w'.cell? ⟨w.heap.size + 1, 0, none⟩ = some (.int .u8 (zk : Int)) ∧ w'.cell? ⟨w.heap.size + 1, 1, none⟩ = some (.int .u8 (zo : Int)) ∧ w'.cell? ⟨w.heap.size + 1, 2, none⟩ = some (.int .u8 (za : Int)) ∧ w'.cell? ⟨w.heap.size + 1, 3, none⟩ = some (.int .u8 (zb : Int)) ∧ w'.cell? ⟨w.heap.size + 1, 4, none⟩ = some (.int .u16 (zm : Int)) ∧ w'.cell? ⟨w.heap.size + 1, 5, none⟩ = some (.int .u8 (zl : Int)) ∧ w'.cell? ⟨w.heap.size + 1, 6, none⟩ = some (.int .u8 (zt : Int))) := Lib.hid (fun w' hb => by
    refine ⟨?_, ?_, ?_, ?_, ?_, ?_, ?_, ?_, ?_, ?_, ?_, ?_, ?_, ?_⟩ <;> (rw [hb.cell (by dsimp only; omega)]; assumption))
  go_upto_region 3 with fail
  go_cut [5, 6] from 9 to 23 (fun s t wx => ∃ g5 g6 : Nat, s = .pointer (some ⟨g5, 0, none⟩) ∧ t = .pointer (some ⟨g6, 0, none⟩) ∧ g5 < wx.heap.size ∧ g6 < wx.heap.size ∧
    Rq7 wx g5 24 pk po pa pb pm pl pt ∧ Rq7 wx g6 24 qk qo qa qb qm ql qt ∧ Below w.heap.size w wx)
  case first =>
    go_region_held3 (fun w' => w'.cell? ⟨w.heap.size, 0, none⟩ = some (.int .u8 (yk : Int)) ∧ w'.cell? ⟨w.heap.size, 1, none⟩ = some (.int .u8 (yo : Int)) ∧ w'.cell? ⟨w.heap.size, 2, none⟩ = some (.int .u8 (ya : Int)) ∧ w'.cell? ⟨w.heap.size, 3, none⟩ = some (.int .u8 (yb : Int)) ∧ w'.cell? ⟨w.heap.size, 4, none⟩ = some (.int .u16 (ym : Int)) ∧ w'.cell? ⟨w.heap.size, 5, none⟩ = some (.int .u8 (yl : Int)) ∧ w'.cell? ⟨w.heap.size, 6, none⟩ = some (.int .u8 (yt : Int)) ∧
        w'.cell? ⟨w.heap.size + 1, 0, none⟩ = some (.int .u8 (zk : Int)) ∧ w'.cell? ⟨w.heap.size + 1, 1, none⟩ = some (.int .u8 (zo : Int)) ∧ w'.cell? ⟨w.heap.size + 1, 2, none⟩ = some (.int .u8 (za : Int)) ∧ w'.cell? ⟨w.heap.size + 1, 3, none⟩ = some (.int .u8 (zb : Int)) ∧ w'.cell? ⟨w.heap.size + 1, 4, none⟩ = some (.int .u16 (zm : Int)) ∧ w'.cell? ⟨w.heap.size + 1, 5, none⟩ = some (.int .u8 (zl : Int)) ∧ w'.cell? ⟨w.heap.size + 1, 6, none⟩ = some (.int .u8 (zt : Int))) ((refine HS.out _ ?_; repeat (first | exact Below.refl _ _ | refine Below.drew ?_ | refine Below.alloc ?_ (by simp; omega) _ | refine Below.alloc ?_ (by simp) _)))
      (first
        | (go_at_call_of 12 (Value.agg #[.int .u8 (yk : Int), .int .u8 (yo : Int), .int .u8 (ya : Int), .int .u8 (yb : Int), .int .u16 (ym : Int), .int .u8 (yl : Int), .int .u8 (yt : Int)]); refine (HY.out _).mono ?_; rintro _ _ ⟨rfl, rfl⟩)
        | (go_at_call_of 12 (Value.agg #[.int .u8 (zk : Int), .int .u8 (zo : Int), .int .u8 (za : Int), .int .u8 (zb : Int), .int .u16 (zm : Int), .int .u8 (zl : Int), .int .u8 (zt : Int)]); refine (HZ.out _).mono ?_; rintro _ _ ⟨rfl, rfl⟩))
    all_goals
      go_wp2_with fail
      go_meet
      refine ⟨_, _, rfl, rfl, by simp; try omega, by simp; try omega, by (simp only [Rq7, drew_heap, heap_alloc_if, alloc_size]; repeat (first | rw [if_pos trivial] | rw [if_pos (by omega)] | rw [if_neg (by omega)])), by (simp only [Rq7, drew_heap, heap_alloc_if, alloc_size]; repeat (first | rw [if_pos trivial] | rw [if_pos (by omega)] | rw [if_neg (by omega)])), ?_⟩
      repeat (first | exact HB1.out | refine Below.drew ?_ | refine Below.alloc ?_ (by simp; omega) _ | refine Below.alloc ?_ (by omega) _)
  case rest =>
    obtain ⟨g5, g6, rfl, rfl, hg5, hg6, hr5, hr6, hb2⟩ := hcut
    have HB2 := Lib.hid hb2
    have HR5 := Lib.hid hr5
    have HR6 := Lib.hid hr6
    obtain ⟨c0, c1, c2, c3, c4, c5, c6⟩ := hr5.cells
    obtain ⟨e0, e1, e2, e3, e4, e5, e6⟩ := hr6.cells
    have HX := Lib.hid (fun W (h : Below wc.heap.size wc W) => bytes_after (Rq.mk pk po pa pb pm pl pt) W wc h FP.out)
    have HW := Lib.hid (fun W (h : Below wc.heap.size wc W) => bytes_after (Rq.mk qk qo qa qb qm ql qt) W wc h FQ.out)
    unfold Rq.val at HX HW
    dsimp only at HX HW
    obtain ⟨xs, hxs⟩ : ∃ xs, xs = encs (Rq.mk pk po pa pb pm pl pt).nums := ⟨_, rfl⟩
    obtain ⟨ys, hys⟩ : ∃ ys, ys = encs (Rq.mk qk qo qa qb qm ql qt).nums := ⟨_, rfl⟩
    rw [← hxs] at HX
    rw [← hys] at HW
    have SE : Hid (((strN xs).toList == (strN ys).toList) = decide (Rq.mk pk po pa pb pm pl pt = Rq.mk qk qo qa qb qm ql qt)) := Lib.hid (by
      rw [strN_beq (by rw [hxs]; exact encs_bytes _) (by rw [hys]; exact encs_bytes _), hxs, hys]
      exact decide_eq_decide.2 ⟨fun h => Rq.nums_inj (encs_inj _ _ rfl FP.out FQ.out h), fun h => by rw [h]⟩)
    clear hxs hys hr5 hr6 hb2 HY HZ HB1 HS FP FQ
    rcases rq_parts pk po pa pb pm pl pt qk qo qa qb qm ql qt with ⟨h0, h1, h2, h3, h4, h5, h6⟩ | h0 | ⟨h0, h1⟩ | ⟨h0, h1, h2⟩ | ⟨h0, h1, h2, h3⟩ | ⟨h0, h1, h2, h3, h4⟩ | ⟨h0, h1, h2, h3, h4, h5⟩ | ⟨h0, h1, h2, h3, h4, h5, h6⟩
    case' inl =>
      have bs := SE.out.trans (decide_eq_true (by rw [h0, h1, h2, h3, h4, h5, h6]))
      have b0 := eqT h0
      have b1 := eqT h1
      have b2 := eqT h2
      have b3 := eqT h3
      have b4 := eqT h4
      have b5 := eqT h5
      have b6 := eqT h6
      clear h0 h1 h2 h3 h4 h5 h6
    case' inr.inl =>
      have b0 := eqF h0
      have bs := SE.out.trans (decide_eq_false (fun h => h0 (congrArg Rq.key h)))
      clear h0
    case' inr.inr.inl =>
      have b0 := eqT h0
      have b1 := eqF h1
      have bs := SE.out.trans (decide_eq_false (fun h => h1 (congrArg Rq.op h)))
      clear h0 h1
    case' inr.inr.inr.inl =>
      have b0 := eqT h0
      have b1 := eqT h1
      have b2 := eqF h2
      have bs := SE.out.trans (decide_eq_false (fun h => h2 (congrArg Rq.a h)))
      clear h0 h1 h2
    case' inr.inr.inr.inr.inl =>
      have b0 := eqT h0
      have b1 := eqT h1
      have b2 := eqT h2
      have b3 := eqF h3
      have bs := SE.out.trans (decide_eq_false (fun h => h3 (congrArg Rq.b h)))
      clear h0 h1 h2 h3
    case' inr.inr.inr.inr.inr.inl =>
      have b0 := eqT h0
      have b1 := eqT h1
      have b2 := eqT h2
      have b3 := eqT h3
      have b4 := eqF h4
      have bs := SE.out.trans (decide_eq_false (fun h => h4 (congrArg Rq.amt h)))
      clear h0 h1 h2 h3 h4
    case' inr.inr.inr.inr.inr.inr.inl =>
      have b0 := eqT h0
      have b1 := eqT h1
      have b2 := eqT h2
      have b3 := eqT h3
      have b4 := eqT h4
      have b5 := eqF h5
      have bs := SE.out.trans (decide_eq_false (fun h => h5 (congrArg Rq.legs h)))
      clear h0 h1 h2 h3 h4 h5
    case' inr.inr.inr.inr.inr.inr.inr =>
      have b0 := eqT h0
      have b1 := eqT h1
      have b2 := eqT h2
      have b3 := eqT h3
      have b4 := eqT h4
      have b5 := eqT h5
      have b6 := eqF h6
      have bs := SE.out.trans (decide_eq_false (fun h => h6 (congrArg Rq.til h)))
      clear h0 h1 h2 h3 h4 h5 h6
    all_goals
      clear SE c0 c1 c2 c3 c4 c5 c6 e0 e1 e2 e3 e4 e5 e6
      go_wp2_with fail
      refine wp_region_held_drew (S := fun w' => Below wc.heap.size wc w') (by kernel_rfl) (Below.refl _ _).drew (fun hHeld => ?_)
      refine take_at 0 13 (v := ?_) rfl rfl (by kernel_rfl) (by kernel_rfl) (by kernel_rfl) (fun _ _ _ h => h) (Or.inl ⟨by rfl, ?_⟩) (by assumption) ?_
      rotate_left
      · intro w' hSw
        have hSw' := hSw
        (try dsimp only at hSw')
        obtain ⟨k0, k1, k2, k3, k4, k5, k6⟩ := (HR5.out.below hSw' hg5).cells
        go_simp
        (try with_reducible rfl)
      (try simp only [Act.put, List.setIfInBounds_toArray, List.set_cons_zero, List.set_cons_succ])
      refine take_at 3 16 (v := ?_) rfl rfl (by kernel_rfl) (by kernel_rfl) (by kernel_rfl) (fun _ _ _ h => h) (Or.inl ⟨by rfl, ?_⟩) (by assumption) ?_
      rotate_left
      · intro w' hSw
        have hSw' := hSw
        (try dsimp only at hSw')
        obtain ⟨k0, k1, k2, k3, k4, k5, k6⟩ := (HR6.out.below hSw' hg6).cells
        go_simp
        (try with_reducible rfl)
      (try simp only [Act.put, List.setIfInBounds_toArray, List.set_cons_zero, List.set_cons_succ])
      refine take_at 7 20 (v := ?_) rfl rfl (by kernel_rfl) (by kernel_rfl) (by kernel_rfl) (fun _ _ _ h => h) (Or.inl ⟨by rfl, ?_⟩) (by assumption) ?_
      rotate_left
      · intro w' hSw
        have hSw' := hSw
        (try dsimp only at hSw')
        obtain ⟨k0, k1, k2, k3, k4, k5, k6⟩ := (HR5.out.below hSw' hg5).cells
        go_simp
        (try with_reducible rfl)
      (try simp only [Act.put, List.setIfInBounds_toArray, List.set_cons_zero, List.set_cons_succ])
      refine take_at 8 21 (v := ?_) rfl rfl (by kernel_rfl) (by kernel_rfl) (by kernel_rfl) (fun _ _ _ h => h) (Or.inl ⟨by rfl, ?_⟩) (by assumption) ?_
      rotate_left
      · intro w' hSw
        have hSw' := hSw
        (try dsimp only at hSw')
        obtain ⟨k0, k1, k2, k3, k4, k5, k6⟩ := (HR6.out.below hSw' hg6).cells
        go_simp
        (try with_reducible rfl)
      (try simp only [Act.put, List.setIfInBounds_toArray, List.set_cons_zero, List.set_cons_succ])
      refine take_at 9 22 (v := ?_) rfl rfl (by kernel_rfl) (by kernel_rfl) (by kernel_rfl) (fun _ _ _ h => h) (Or.inl ⟨by rfl, ?_⟩) (by assumption) ?_
      rotate_left
      · intro w' hSw
        go_simp
        (try with_reducible rfl)
      (try simp only [Act.put, List.setIfInBounds_toArray, List.set_cons_zero, List.set_cons_succ])
      refine wpAnyH_ready (rs := [1]) (by kernel_rfl) (by simp) ?_
      refine AllReadyH.cons (i := 1) rfl (fun K hK => ?_) AllReadyH.nil
      go_simp
      go_at_call 14
      refine (HX.out _ (Below.refl _ _).drew).mono ?_
      rintro _ wp ⟨Ap, kp, rfl, hrp, hbp, hkp⟩
      refine hK.out _ _ hkp (fun hHeld => ?_)
      clear hK K
      (try simp only [Act.put, List.setIfInBounds_toArray, List.set_cons_zero, List.set_cons_succ])
      refine wpAnyH_rebase hkp ?_
      have hHeld : Below wp.heap.size wp wp := Below.refl _ _
      refine take_at 2 15 (v := ?_) rfl rfl (by kernel_rfl) (by kernel_rfl) (by kernel_rfl) (fun _ _ _ h => h) (Or.inl ⟨by rfl, ?_⟩) (by assumption) ?_
      rotate_left
      · intro w' hSw
        have hSw' := hSw
        (try dsimp only at hSw')
        have sp := str_of w' Ap _ kp _ (hrp.below hSw')
        go_simp
        (try with_reducible rfl)
      (try simp only [Act.put, List.setIfInBounds_toArray, List.set_cons_zero, List.set_cons_succ])
      refine wpAnyH_ready (rs := [4]) (by kernel_rfl) (by simp) ?_
      refine AllReadyH.cons (i := 4) rfl (fun K hK => ?_) AllReadyH.nil
      go_simp
      go_at_call 14
      refine (HW.out _ hkp).mono ?_
      rintro _ wq ⟨Aq, kq, rfl, hrq, hbq, hkq⟩
      refine hK.out _ _ hbq (fun hHeld => ?_)
      clear hK K
      (try simp only [Act.put, List.setIfInBounds_toArray, List.set_cons_zero, List.set_cons_succ])
      refine wpAnyH_rebase hbq ?_
      have hHeld : Below wq.heap.size wq wq := Below.refl _ _
      refine take_at 5 18 (v := ?_) rfl rfl (by kernel_rfl) (by kernel_rfl) (by kernel_rfl) (fun _ _ _ h => h) (Or.inl ⟨by rfl, ?_⟩) (by assumption) ?_
      rotate_left
      · intro w' hSw
        have hSw' := hSw
        (try dsimp only at hSw')
        have sq := str_of w' Aq _ kq _ (hrq.below hSw')
        go_simp
        (try with_reducible rfl)
      (try simp only [Act.put, List.setIfInBounds_toArray, List.set_cons_zero, List.set_cons_succ])
      refine take_at 6 19 (v := ?_) rfl rfl (by kernel_rfl) (by kernel_rfl) (by kernel_rfl) (fun _ _ _ h => h) (Or.inl ⟨by rfl, ?_⟩) (by assumption) ?_
      rotate_left
      · intro w' hSw
        go_simp
        (try with_reducible rfl)
      (try simp only [Act.put, List.setIfInBounds_toArray, List.set_cons_zero, List.set_cons_succ])
      refine take_at 10 23 (v := ?_) rfl rfl (by kernel_rfl) (by kernel_rfl) (by kernel_rfl) (fun _ _ _ h => h) (Or.inl ⟨by rfl, ?_⟩) (by assumption) ?_
      rotate_left
      · intro w' hSw
        go_simp
        (try with_reducible rfl)
      (try simp only [Act.put, List.setIfInBounds_toArray, List.set_cons_zero, List.set_cons_succ])
      refine take_at 11 4 (v := ?_) rfl rfl (by kernel_rfl) (by kernel_rfl) (by kernel_rfl) (fun _ _ _ h => h) (Or.inl ⟨by rfl, ?_⟩) (by assumption) ?_
      rotate_left
      · intro w' hSw
        go_simp
        (try with_reducible rfl)
      (try simp only [Act.put, List.setIfInBounds_toArray, List.set_cons_zero, List.set_cons_succ])
      refine wpAnyH_done (by kernel_rfl) ?_ _
      clear hHeld
      have HKQ := Lib.hid hkq
      clear hkp hbp hbq hkq hrp hrq
      go_wp2
      go_ret
      exact ⟨rfl, HB2.out.trans (HKQ.out.mono HB2.out.size)⟩
end Go.Proofs.Ytenepkhglgfpaaa
