/-
  The statement RequestBack by its walk.
-/
import Derived.Test.YtenepkhglgfpaaaReqAwake
import Derived.Test.YtenepkhglgfpaaaReqLawMay
import Derived.Test.YtenepkhglgfpaaaReqCells
import Derived.Test.YtenepkhglgfpaaaReqReadYes
import Derived.Test.YtenepkhglgfpaaaRowArg
import Derived.Test.YtenepkhglgfpaaaRebase
namespace Go.Proofs.Ytenepkhglgfpaaa
open Go Go.RowKit
set_option linter.unusedVariables false

/-- The seven cells of the k-th request of a row, as the walk spells them. -/
structure RqIn (w : World) (ad : Addr) (k : Nat) (x : Rq) : Prop where
  c0 : w.cell? (ad.add (k * 7)) = some (.int .i64 x.key)
  c1 : w.cell? ⟨(ad.add (k * 7)).block, (ad.add (k * 7)).off + 1, none⟩ = some (.int .i64 x.op)
  c2 : w.cell? ⟨(ad.add (k * 7)).block, (ad.add (k * 7)).off + 2, none⟩ = some (.int .i64 x.a)
  c3 : w.cell? ⟨(ad.add (k * 7)).block, (ad.add (k * 7)).off + 3, none⟩ = some (.int .i64 x.b)
  c4 : w.cell? ⟨(ad.add (k * 7)).block, (ad.add (k * 7)).off + 4, none⟩ = some (.int .i64 x.amt)
  c5 : w.cell? ⟨(ad.add (k * 7)).block, (ad.add (k * 7)).off + 5, none⟩ = some (.int .i64 x.legs)
  c6 : w.cell? ⟨(ad.add (k * 7)).block, (ad.add (k * 7)).off + 6, none⟩ = some (.int .i64 x.til)
theorem RqIn.below {w w' : World} {ad : Addr} {k : Nat} {x : Rq} {B : Nat} (h : RqIn w ad k x) (hb : Below B w w') (hg : ad.block < B) : RqIn w' ad k x := by
  obtain ⟨c0, c1, c2, c3, c4, c5, c6⟩ := h
  have hbk : ∀ n, (ad.add n).block < B := fun n => by unfold Addr.add; split <;> exact hg
  exact ⟨(hb.cell (hbk _)).trans c0, (hb.cell (p := ⟨_, _, none⟩) (hbk _)).trans c1, (hb.cell (p := ⟨_, _, none⟩) (hbk _)).trans c2, (hb.cell (p := ⟨_, _, none⟩) (hbk _)).trans c3, (hb.cell (p := ⟨_, _, none⟩) (hbk _)).trans c4, (hb.cell (p := ⟨_, _, none⟩) (hbk _)).trans c5, (hb.cell (p := ⟨_, _, none⟩) (hbk _)).trans c6⟩
/-- Two requests in a row. -/
def el (q r : Rq) (k : Nat) : Rq := if k = 0 then q else r
theorem rq_row (w : World) (g : Nat) (q r : Rq) (t : TypeId) (h : w.heap[g]? = some (.cells #[.int .i64 q.key, .int .i64 q.op, .int .i64 q.a, .int .i64 q.b, .int .i64 q.amt, .int .i64 q.legs, .int .i64 q.til, .int .i64 r.key, .int .i64 r.op, .int .i64 r.a, .int .i64 r.b, .int .i64 r.amt, .int .i64 r.legs, .int .i64 r.til] t (0, 0)))
    (k : Nat) (hk : k < 2) : RqIn w ⟨g, 0, none⟩ k (el q r k) := by
  have hc := fun j => cell_of_row w g j _ _ _ h
  rcases (show k = 0 ∨ k = 1 by omega) with rfl | rfl
  · exact ⟨hc 0, hc 1, hc 2, hc 3, hc 4, hc 5, hc 6⟩
  · exact ⟨hc 7, hc 8, hc 9, hc 10, hc 11, hc 12, hc 13⟩

set_option maxRecDepth 100000 in
set_option maxHeartbeats 4000000 in
theorem back_walk (w : World) (z : Ak) (hz : z.fits) (r : Rq) (hr : r.fits) (A3 : Option Addr) (n3 c3 : Nat) (rs : List Nat) (hrd : Rd .u8 w A3 n3 (ints rs)) (hrb : ∀ x ∈ rs, x < 256) (hn3 : n3 ≤ 140737488351232) :
    Calls Try.prog 4 #[z.val, r.val, .slice A3 n3 c3] w fun e w' => e = .returned (.bool true) ∧ Below w.heap.size w w' := by
  have hrl : rs.length = n3 := by have := hrd.1; rwa [ints_length] at this
  have HA := Lib.hid (fun W => ask_any z hz W)
  have hqf := z.req_fits hz
  obtain ⟨q, hq⟩ : ∃ q, q = z.req := ⟨_, rfl⟩
  rw [← hq] at HA hqf
  have HF : Hid (∀ k, (el q r k).fits) := Lib.hid (fun k => by unfold el; split; exact hqf; exact hr)
  have HRL := Lib.hid hrl
  have HRB := Lib.hid hrb
  have HRD := Lib.hid hrd
  clear hq hqf hr hrl hrb hrd hz
  obtain ⟨key, op, a, b, amt, legs, til⟩ := r
  obtain ⟨qk, qo, qa, qb, qm, ql, qt⟩ := q
  obtain ⟨zk, zo, za, zb, zm, zl, zt⟩ := z
  unfold AskRes Rq.val at HA
  unfold Ak.val at HA
  unfold Rq.val Ak.val
  dsimp only at HA ⊢
  have H2 := Lib.hid ((Ak7.new w ⟨zk, zo, za, zb, zm, zl, zt⟩).alloc (.cells #[.int .i64 key, .int .i64 op, .int .i64 a, .int .i64 b, .int .i64 amt, .int .i64 legs, .int .i64 til] 24) (by simp))
  have hs0 : (w.alloc (.cells #[.int .u8 (zk : Int), .int .u8 (zo : Int), .int .u8 (za : Int), .int .u8 (zb : Int), .int .u16 (zm : Int), .int .u8 (zl : Int), .int .u8 (zt : Int)] 27)).heap.size = w.heap.size + 1 := by simp
  have H1 := Rq7.new (w.alloc (.cells #[.int .u8 (zk : Int), .int .u8 (zo : Int), .int .u8 (za : Int), .int .u8 (zb : Int), .int .u16 (zm : Int), .int .u8 (zl : Int), .int .u8 (zt : Int)] 27)) 24 key op a b amt legs til
  rw [hs0] at H1
  have H1 := Lib.hid H1
  have HB0 := Lib.hid (((Below.refl w.heap.size w).alloc (Nat.le_refl _) (.cells #[.int .u8 (zk : Int), .int .u8 (zo : Int), .int .u8 (za : Int), .int .u8 (zb : Int), .int .u16 (zm : Int), .int .u8 (zl : Int), .int .u8 (zt : Int)] 27)).alloc (by simp) (.cells #[.int .i64 key, .int .i64 op, .int .i64 a, .int .i64 b, .int .i64 amt, .int .i64 legs, .int .i64 til] 24))
  clear hs0
  go_enter Try.func4, Try.ntmps4
  go_wp2_with fail
  refine (awake_ok _).mono ?_
  rintro _ w1 ⟨rfl, hb1⟩
  have hz1 : w.heap.size + 2 ≤ w1.heap.size := by have := hb1.size; simp at this; omega
  have HR1 := Lib.hid (H1.out.below hb1 (by simp))
  have HA1 := Lib.hid (H2.out.below hb1 (by simp; omega))
  have HB1 := Lib.hid (HB0.out.trans (hb1.mono (by simp; omega)))
  clear hb1 H1 H2 HB0
  go_wp2_with fail
  refine wp_region_held_drew (S := fun w' => Below w1.heap.size w1 w') (by kernel_rfl) (Below.refl _ _).drew (fun hHeld => ?_)
  refine take_at 0 15 (v := ?_) rfl rfl (by kernel_rfl) (by kernel_rfl) (by kernel_rfl) (fun _ _ _ h => h) (Or.inl ⟨by rfl, ?_⟩) (by assumption) ?_
  rotate_left
  · intro w' hSw
    have hSw' := hSw
    (try dsimp only at hSw')
    obtain ⟨k0, k1, k2, k3, k4, k5, k6⟩ := (HA1.out.below hSw' (by omega)).cells
    dsimp only at k0 k1 k2 k3 k4 k5 k6
    go_simp
    (try with_reducible rfl)
  (try simp only [Act.put, List.setIfInBounds_toArray, List.set_cons_zero, List.set_cons_succ])
  refine take_at 2 17 (v := ?_) rfl rfl (by kernel_rfl) (by kernel_rfl) (by kernel_rfl) (fun _ _ _ h => h) (Or.inl ⟨by rfl, ?_⟩) (by assumption) ?_
  rotate_left
  · intro w' hSw
    have hSw' := hSw
    (try dsimp only at hSw')
    obtain ⟨k0, k1, k2, k3, k4, k5, k6⟩ := (HR1.out.below hSw' (by omega)).cells
    go_simp
    (try with_reducible rfl)
  (try simp only [Act.put, List.setIfInBounds_toArray, List.set_cons_zero, List.set_cons_succ])
  refine take_at 5 20 (v := ?_) rfl rfl (by kernel_rfl) (by kernel_rfl) (by kernel_rfl) (fun _ _ _ h => h) (Or.inl ⟨by rfl, ?_⟩) (by assumption) ?_
  rotate_left
  · intro w' hSw
    go_simp
    (try with_reducible rfl)
  (try simp only [Act.put, List.setIfInBounds_toArray, List.set_cons_zero, List.set_cons_succ])
  refine wpAnyH_ready (rs := [1]) (by kernel_rfl) (by simp) ?_
  refine AllReadyH.cons (i := 1) rfl (fun K hK => ?_) AllReadyH.nil
  go_simp
  go_at_call 12
  refine (HA.out _).mono ?_
  rintro _ w2 ⟨rfl, hb2⟩
  have hb2 : Below w1.heap.size w1 w2 := (Below.refl w1.heap.size w1).drew.trans hb2
  refine hK.out _ _ hb2 (fun hHeld => ?_)
  clear hK K
  (try simp only [Act.put, List.setIfInBounds_toArray, List.set_cons_zero, List.set_cons_succ])
  refine wpAnyH_rebase hb2 ?_
  have hHeld : Below w2.heap.size w2 w2 := Below.refl _ _
  refine wpAnyH_ready (rs := [3]) (by kernel_rfl) (by simp) ?_
  refine AllReadyH.cons (i := 3) rfl (fun K hK => ?_) AllReadyH.nil
  go_simp
  refine hK.out _ _ ((Below.refl w2.heap.size w2).alloc (Nat.le_refl _) _) (fun hHeld => ?_)
  clear hK K
  (try simp only [Act.put, List.setIfInBounds_toArray, List.set_cons_zero, List.set_cons_succ])
  refine take_at 4 19 (v := ?_) rfl rfl (by kernel_rfl) (by kernel_rfl) (by kernel_rfl) (fun _ _ _ h => h) (Or.inl ⟨by rfl, ?_⟩) (by assumption) ?_
  rotate_left
  · intro w' hSw
    go_simp
    (try with_reducible rfl)
  (try simp only [Act.put, List.setIfInBounds_toArray, List.set_cons_zero, List.set_cons_succ])
  refine wpAnyH_done (by kernel_rfl) ?_ _
  clear hHeld
  have HB2 := Lib.hid (HB1.out.trans (hb2.mono HB1.out.size))
  have hz2 := HB2.out.size
  obtain ⟨W3, hW3⟩ : ∃ W3, W3 = w2.alloc (.cells #[.int .i64 qk, .int .i64 qo, .int .i64 qa, .int .i64 qb, .int .i64 qm, .int .i64 ql, .int .i64 qt, .int .i64 key, .int .i64 op, .int .i64 a, .int .i64 b, .int .i64 amt, .int .i64 legs, .int .i64 til] 24) := ⟨_, rfl⟩
  have hE3 := fun k hk => rq_row W3 w2.heap.size ⟨qk, qo, qa, qb, qm, ql, qt⟩ ⟨key, op, a, b, amt, legs, til⟩ 24 (by rw [hW3]; exact heap_alloc_new w2 _) k hk
  have hB3 : Below w.heap.size w W3 := by rw [hW3]; exact HB2.out.alloc hz2 _
  have hs3 : w2.heap.size < W3.heap.size := by rw [hW3]; simp
  rw [← hW3]
  obtain ⟨ad, had⟩ : ∃ ad : Addr, ad = ⟨w2.heap.size, 0, none⟩ := ⟨_, rfl⟩
  have hda : ad.block < W3.heap.size := by rw [had]; exact hs3
  rw [← had] at hE3 ⊢
  have HE3 := Lib.hid hE3
  have HB3 := Lib.hid hB3
  clear hE3 hB3 hW3 hs3 had HR1 HA1 HB1 HB2 hb2 hz1 HA hz2
  have HRD3 := Lib.hid (HRD.out.below HB3.out)
  have hz3 := HB3.out.size
  go_wp2
  go_loopw [20] (fun i wr => ∃ k : Nat, k ≤ 2 ∧ i = .int .i64 (k : Int) ∧ Below W3.heap.size W3 wr) (fun i _ => 2 - (intOf i).toNat)
  case atStart => exact ⟨0, by omega, rfl, Below.refl _ _⟩
  case round =>
    obtain ⟨k, hk, rfl, hbel⟩ := hrel
    have HBEL := Lib.hid hbel
    have hzr := hbel.size
    clear hbel
    by_cases hlt : k < 2
    · obtain ⟨x, hx⟩ : ∃ x, x = el ⟨qk, qo, qa, qb, qm, ql, qt⟩ ⟨key, op, a, b, amt, legs, til⟩ k := ⟨_, rfl⟩
      have hxf := HF.out k
      have hin := (HE3.out k hlt).below HBEL.out hda
      rw [← hx] at hxf hin
      have hab : ad.block < wr.heap.size := by omega
      have HXF := Lib.hid hxf
      have HM := Lib.hid (fun W => lawmay_any x W)
      have HBY := Lib.hid (fun W => rbytes_any x W hxf)
      have HRS := Lib.hid (fun A n c W (h : Rd .u8 W A n (ints (encs x.nums ++ rs))) (h1 : n ≤ c) (h2 : c ≤ maxLen) (h3 : n ≤ 200000000000000) => read_seven A n c x rs W h h1 h2 h3 HRB.out hxf)
      have hel : (encs x.nums).length ≤ 70 := by
        have := encs_len x.nums (fun y hy => pairN_lt (hxf y hy).1 (hxf y hy).2)
        rw [x.nums_len] at this
        omega
      have HMY := Lib.hid (@Decidable.em x.may inferInstance)
      obtain ⟨m, hm⟩ : ∃ m, m = decide x.may := ⟨_, rfl⟩
      rw [← hm] at HM
      have HMM := Lib.hid hm
      obtain ⟨c0, c1, c2, c3', c4, c5, c6⟩ := hin
      obtain ⟨bs, hbs⟩ : ∃ bs, bs = encs x.nums := ⟨_, rfl⟩
      rw [← hbs] at HBY HRS hel
      have HBS := Lib.hid hbs
      clear hx hxf hm hbs
      obtain ⟨xk, xo, xa, xb, xm, xl, xt⟩ := x
      unfold Rq.val at HM HBY
      unfold ReadRes ReadYes ReadNo Rq.val Rq.zero at HRS
      dsimp only at c0 c1 c2 c3' c4 c5 c6 HM HBY HRS
      obtain ⟨L, hL⟩ : ∃ L, L = bs.length := ⟨_, rfl⟩
      have HL := Lib.hid hL
      rw [← hL] at hel
      have HX4 := Lib.hid (Rq7.new wr 24 xk xo xa xb xm xl xt)
      go_wp2_with fail
      refine (HBY.out _).mono ?_
      rintro _ w6 ⟨v, rfl, ho, hb6⟩
      rw [← HL.out] at ho
      have hzx : wr.heap.size + 1 ≤ w6.heap.size := by have := hb6.size; simpa using this
      have HX6 := Lib.hid (HX4.out.below hb6 (by simp))
      have HB6 := Lib.hid (HBEL.out.trans ((((Below.refl wr.heap.size wr).alloc (Nat.le_refl _) _).trans (hb6.mono (by simp))).mono hzr))
      have HO6 := Lib.hid (ho.less (b := wr.heap.size + 1) (by simp))
      obtain ⟨Ab, cb, rfl, hb1, hb2, hrb6, _⟩ := ho.form
      have HRB6 := Lib.hid hrb6
      have hx6 : wr.heap.size < w6.heap.size := by omega
      have nb : ((strN bs).toList != (strN bs).toList) = false := bne_self_eq_false _
      clear ho hb6 hrb6 hL HBY HX4 c0 c1 c2 c3' c4 c5 c6
      go_wp2_with fail
      refine wp_region_held_drew (S := fun w' => Below w6.heap.size w6 w') (by kernel_rfl) (Below.refl _ _).drew (fun hHeld => ?_)
      refine take_at 0 26 (v := ?_) rfl rfl (by kernel_rfl) (by kernel_rfl) (by kernel_rfl) (fun _ _ _ h => h) (Or.inl ⟨by rfl, ?_⟩) (by assumption) ?_
      rotate_left
      · intro w' hSw
        go_simp
        (try with_reducible rfl)
      (try simp only [Act.put, List.setIfInBounds_toArray, List.set_cons_zero, List.set_cons_succ])
      refine take_at 1 27 (v := ?_) rfl rfl (by kernel_rfl) (by kernel_rfl) (by kernel_rfl) (fun _ _ _ h => h) (Or.inl ⟨by rfl, ?_⟩) (by assumption) ?_
      rotate_left
      · intro w' hSw
        have hSw' := hSw
        (try dsimp only at hSw')
        have sp := str_of w' Ab L cb bs (HRB6.out.below hSw')
        go_simp
        (try with_reducible rfl)
      (try simp only [Act.put, List.setIfInBounds_toArray, List.set_cons_zero, List.set_cons_succ])
      refine take_at 2 28 (v := ?_) rfl rfl (by kernel_rfl) (by kernel_rfl) (by kernel_rfl) (fun _ _ _ h => h) (Or.inl ⟨by rfl, ?_⟩) (by assumption) ?_
      rotate_left
      · intro w' hSw
        go_simp
        (try with_reducible rfl)
      (try simp only [Act.put, List.setIfInBounds_toArray, List.set_cons_zero, List.set_cons_succ])
      refine take_at 3 29 (v := ?_) rfl rfl (by kernel_rfl) (by kernel_rfl) (by kernel_rfl) (fun _ _ _ h => h) (Or.inl ⟨by rfl, ?_⟩) (by assumption) ?_
      rotate_left
      · intro w' hSw
        have hSw' := hSw
        (try dsimp only at hSw')
        obtain ⟨k0, k1, k2, k3, k4, k5, k6⟩ := (HX6.out.below hSw' hx6).cells
        go_simp
        (try with_reducible rfl)
      (try simp only [Act.put, List.setIfInBounds_toArray, List.set_cons_zero, List.set_cons_succ])
      refine take_at 4 30 (v := ?_) rfl rfl (by kernel_rfl) (by kernel_rfl) (by kernel_rfl) (fun _ _ _ h => h) (Or.inl ⟨by rfl, ?_⟩) (by assumption) ?_
      rotate_left
      · intro w' hSw
        go_simp
        (try with_reducible rfl)
      (try simp only [Act.put, List.setIfInBounds_toArray, List.set_cons_zero, List.set_cons_succ])
      refine take_at 5 31 (v := ?_) rfl rfl (by kernel_rfl) (by kernel_rfl) (by kernel_rfl) (fun _ _ _ h => h) (Or.inl ⟨by rfl, ?_⟩) (by assumption) ?_
      rotate_left
      · intro w' hSw
        have hSw' := hSw
        (try dsimp only at hSw')
        obtain ⟨k0, k1, k2, k3, k4, k5, k6⟩ := (HX6.out.below hSw' hx6).cells
        go_simp
        (try with_reducible rfl)
      (try simp only [Act.put, List.setIfInBounds_toArray, List.set_cons_zero, List.set_cons_succ])
      refine take_at 6 32 (v := ?_) rfl rfl (by kernel_rfl) (by kernel_rfl) (by kernel_rfl) (fun _ _ _ h => h) (Or.inl ⟨by rfl, ?_⟩) (by assumption) ?_
      rotate_left
      · intro w' hSw
        go_simp
        (try with_reducible rfl)
      (try simp only [Act.put, List.setIfInBounds_toArray, List.set_cons_zero, List.set_cons_succ])
      refine take_at 7 33 (v := ?_) rfl rfl (by kernel_rfl) (by kernel_rfl) (by kernel_rfl) (fun _ _ _ h => h) (Or.inl ⟨by rfl, ?_⟩) (by assumption) ?_
      rotate_left
      · intro w' hSw
        have hSw' := hSw
        (try dsimp only at hSw')
        obtain ⟨k0, k1, k2, k3, k4, k5, k6⟩ := (HX6.out.below hSw' hx6).cells
        go_simp
        (try with_reducible rfl)
      (try simp only [Act.put, List.setIfInBounds_toArray, List.set_cons_zero, List.set_cons_succ])
      refine take_at 8 34 (v := ?_) rfl rfl (by kernel_rfl) (by kernel_rfl) (by kernel_rfl) (fun _ _ _ h => h) (Or.inl ⟨by rfl, ?_⟩) (by assumption) ?_
      rotate_left
      · intro w' hSw
        go_simp
        (try with_reducible rfl)
      (try simp only [Act.put, List.setIfInBounds_toArray, List.set_cons_zero, List.set_cons_succ])
      refine take_at 9 35 (v := ?_) rfl rfl (by kernel_rfl) (by kernel_rfl) (by kernel_rfl) (fun _ _ _ h => h) (Or.inl ⟨by rfl, ?_⟩) (by assumption) ?_
      rotate_left
      · intro w' hSw
        have hSw' := hSw
        (try dsimp only at hSw')
        obtain ⟨k0, k1, k2, k3, k4, k5, k6⟩ := (HX6.out.below hSw' hx6).cells
        go_simp
        (try with_reducible rfl)
      (try simp only [Act.put, List.setIfInBounds_toArray, List.set_cons_zero, List.set_cons_succ])
      refine take_at 10 36 (v := ?_) rfl rfl (by kernel_rfl) (by kernel_rfl) (by kernel_rfl) (fun _ _ _ h => h) (Or.inl ⟨by rfl, ?_⟩) (by assumption) ?_
      rotate_left
      · intro w' hSw
        go_simp
        (try with_reducible rfl)
      (try simp only [Act.put, List.setIfInBounds_toArray, List.set_cons_zero, List.set_cons_succ])
      refine take_at 11 37 (v := ?_) rfl rfl (by kernel_rfl) (by kernel_rfl) (by kernel_rfl) (fun _ _ _ h => h) (Or.inl ⟨by rfl, ?_⟩) (by assumption) ?_
      rotate_left
      · intro w' hSw
        have hSw' := hSw
        (try dsimp only at hSw')
        obtain ⟨k0, k1, k2, k3, k4, k5, k6⟩ := (HX6.out.below hSw' hx6).cells
        go_simp
        (try with_reducible rfl)
      (try simp only [Act.put, List.setIfInBounds_toArray, List.set_cons_zero, List.set_cons_succ])
      refine take_at 12 38 (v := ?_) rfl rfl (by kernel_rfl) (by kernel_rfl) (by kernel_rfl) (fun _ _ _ h => h) (Or.inl ⟨by rfl, ?_⟩) (by assumption) ?_
      rotate_left
      · intro w' hSw
        go_simp
        (try with_reducible rfl)
      (try simp only [Act.put, List.setIfInBounds_toArray, List.set_cons_zero, List.set_cons_succ])
      refine take_at 13 39 (v := ?_) rfl rfl (by kernel_rfl) (by kernel_rfl) (by kernel_rfl) (fun _ _ _ h => h) (Or.inl ⟨by rfl, ?_⟩) (by assumption) ?_
      rotate_left
      · intro w' hSw
        have hSw' := hSw
        (try dsimp only at hSw')
        obtain ⟨k0, k1, k2, k3, k4, k5, k6⟩ := (HX6.out.below hSw' hx6).cells
        go_simp
        (try with_reducible rfl)
      (try simp only [Act.put, List.setIfInBounds_toArray, List.set_cons_zero, List.set_cons_succ])
      refine take_at 14 40 (v := ?_) rfl rfl (by kernel_rfl) (by kernel_rfl) (by kernel_rfl) (fun _ _ _ h => h) (Or.inl ⟨by rfl, ?_⟩) (by assumption) ?_
      rotate_left
      · intro w' hSw
        go_simp
        (try with_reducible rfl)
      (try simp only [Act.put, List.setIfInBounds_toArray, List.set_cons_zero, List.set_cons_succ])
      refine take_at 15 41 (v := ?_) rfl rfl (by kernel_rfl) (by kernel_rfl) (by kernel_rfl) (fun _ _ _ h => h) (Or.inl ⟨by rfl, ?_⟩) (by assumption) ?_
      rotate_left
      · intro w' hSw
        have hSw' := hSw
        (try dsimp only at hSw')
        obtain ⟨k0, k1, k2, k3, k4, k5, k6⟩ := (HX6.out.below hSw' hx6).cells
        go_simp
        (try with_reducible rfl)
      (try simp only [Act.put, List.setIfInBounds_toArray, List.set_cons_zero, List.set_cons_succ])
      refine wpAnyH_ready (rs := [16]) (by kernel_rfl) (by simp) ?_
      refine AllReadyH.cons (i := 16) rfl (fun K hK => ?_) AllReadyH.nil
      go_simp
      refine hK.out _ _ (by first | exact (Below.refl _ _).drew.alloc (Nat.le_refl _) _ | exact ((Below.refl _ _).alloc (Nat.le_refl _) _).drew) (fun hHeld => ?_)
      clear hK K
      (try simp only [Act.put, List.setIfInBounds_toArray, List.set_cons_zero, List.set_cons_succ])
      refine wpAnyH_ready (rs := [17]) (by kernel_rfl) (by simp) ?_
      refine AllReadyH.cons (i := 17) rfl (fun K hK => ?_) AllReadyH.nil
      go_simp
      go_at_call 15
      refine (all_seven xk xo xa xb xm xl xt 3 w6 w6.drew _ rfl (Below.refl _ _).drew HXF.out).mono ?_
      rintro _ w7 ⟨v7, rfl, ho7, hb7⟩
      have ho7 : Own 5 .u8 w7 w6.heap.size v7 bs.length (ints bs) := by rw [HBS.out]; exact ho7
      rw [← HL.out] at ho7
      obtain ⟨A7, c7, rfl, _, _, hr7, _⟩ := ho7.form
      have hv7 : (encs [xk, xo, xa, xb, xm, xl, xt]).length = L := by rw [HL.out, HBS.out]; rfl
      (try rw [hv7])
      refine hK.out _ _ hb7 (fun hHeld => ?_)
      clear hK K
      (try simp only [Act.put, List.setIfInBounds_toArray, List.set_cons_zero, List.set_cons_succ])
      refine wpAnyH_rebase hb7 ?_
      have hHeld : Below w7.heap.size w7 w7 := Below.refl _ _
      refine take_at 18 44 (v := ?_) rfl rfl (by kernel_rfl) (by kernel_rfl) (by kernel_rfl) (fun _ _ _ h => h) (Or.inl ⟨by rfl, ?_⟩) (by assumption) ?_
      rotate_left
      · intro w' hSw
        have hSw' := hSw
        (try dsimp only at hSw')
        have sq := str_of w' A7 L c7 bs (hr7.below hSw')
        go_simp
        (try with_reducible rfl)
      (try simp only [Act.put, List.setIfInBounds_toArray, List.set_cons_zero, List.set_cons_succ])
      refine take_at 19 45 (v := ?_) rfl rfl (by kernel_rfl) (by kernel_rfl) (by kernel_rfl) (fun _ _ _ h => h) (Or.inl ⟨by rfl, ?_⟩) (by assumption) ?_
      rotate_left
      · intro w' hSw
        go_simp
        (try with_reducible rfl)
      (try simp only [Act.put, List.setIfInBounds_toArray, List.set_cons_zero, List.set_cons_succ])
      refine wpAnyH_done (by kernel_rfl) ?_ _
      clear hHeld
      have HB7 := Lib.hid (HB6.out.trans (hb7.mono (by have := HB6.out.size; omega)))
      have HO7 := Lib.hid (HO6.out.below hb7)
      have HX7 := Lib.hid (HX6.out.below hb7 hx6)
      have hz7 := hb7.size
      have hz37 := HB7.out.size
      have HRD7 := Lib.hid (HRD3.out.below HB7.out)
      clear hb7 hr7 ho7 hv7 HB6 HO6 HX6 HRB6
      go_wp2_with (at_builtin; refine wpList_append_ints _ rfl (.tmp 47) (.tmp 48) 32 rfl .u8 1 (wr.heap.size + 1) 5 Try.underlying32 info_byte _ L _ rfl HO7.out A3 n3 c3 (ints rs) rfl HRD7.out (by omega) (by omega) (by omega) ?_; intro v8 w8 ho8 hg8)
      have hb8 : Below (wr.heap.size + 1) w7 w8 := (Below.refl (wr.heap.size + 1) w7).grown hg8 (by omega) HO7.out.rowLt
      rw [← ints_append] at ho8
      obtain ⟨A8, c8, rfl, h81, h82, hr8, _⟩ := ho8.form
      have HB8 := Lib.hid (HB7.out.trans (hb8.mono (by omega)))
      have HX8 := Lib.hid (HX7.out.below hb8 (by omega))
      have HRD8 := Lib.hid (HRD3.out.below HB8.out)
      have hx8 : wr.heap.size < w8.heap.size := by have := hg8.size; omega
      clear ho8 hg8 HO7 HRD7 hb8
      refine (HRS.out A8 (L + n3) c8 w8 hr8 h81 h82 (by omega)).mono ?_
      rintro _ w9 hres
      rcases hres with ⟨hmy, u, rfl, hou, hb9⟩ | ⟨hmy, rfl, hb9⟩
      · obtain rfl : m = true := by rw [HMM.out]; exact decide_eq_true hmy
        obtain ⟨Au, cu, rfl, _, _, hru, _⟩ := hou.form
        have hX9 := HX8.out.below hb9 hx8
        have hx9 : wr.heap.size < w9.heap.size := by have := hb9.size; omega
        have hne : ¬ wr.heap.size = w9.heap.size := by omega
        have HB9 := Lib.hid (HB8.out.trans (hb9.mono (by have := HB8.out.size; omega)))
        obtain ⟨k0, k1, k2, k3, k4, k5, k6⟩ := hX9.cells
        have HX9 := Lib.hid hX9
        have hz9 := HB9.out.size
        clear hX9 hb9
        go_wp2_with fail
        refine (HM.out _).mono ?_
        rintro _ w10 ⟨rfl, hb10⟩
        obtain ⟨g0, g1, g2, g3, g4, g5, g6⟩ := ((HX9.out.alloc _ hx9).below hb10 (by simp; omega)).cells
        obtain ⟨y0, y1, y2, y3, y4, y5, y6⟩ := ((Rq7.new w9 24 xk xo xa xb xm xl xt).below hb10 (by simp)).cells
        have d1 := str_of w10 Au rs.length cu rs ((hru.alloc _).below hb10)
        have nr : ((strN rs).toList != (strN rs).toList) = false := bne_self_eq_false _
        have HB10 := Lib.hid ((HB9.out.alloc hz9 _).trans (hb10.mono (by simp; omega)))
        have d2 := str_of w10 A3 n3 c3 rs (HRD3.out.below HB10.out)
        clear hb10 k0 k1 k2 k3 k4 k5 k6
        go_wp2
        go_roundw
        case rel => first | exact ⟨k + 1, by omega, by go_num, HB10.out⟩ | ((repeat apply Exists.intro); exact ⟨⟨k + 1, by omega, by go_num, HB10.out⟩, rfl⟩)
        case measure => simp [intOf]; omega
      · obtain rfl : m = false := by rw [HMM.out]; exact decide_eq_false hmy
        have hX9 := HX8.out.below hb9 hx8
        have hx9 : wr.heap.size < w9.heap.size := by have := hb9.size; omega
        have hne : ¬ wr.heap.size = w9.heap.size := by omega
        have HB9 := Lib.hid (HB8.out.trans (hb9.mono (by have := HB8.out.size; omega)))
        obtain ⟨k0, k1, k2, k3, k4, k5, k6⟩ := hX9.cells
        have HX9 := Lib.hid hX9
        have hz9 := HB9.out.size
        clear hX9 hb9
        go_wp2_with fail
        refine (HM.out _).mono ?_
        rintro _ w10 ⟨rfl, hb10⟩
        obtain ⟨g0, g1, g2, g3, g4, g5, g6⟩ := ((HX9.out.alloc _ hx9).below hb10 (by simp; omega)).cells
        obtain ⟨y0, y1, y2, y3, y4, y5, y6⟩ := ((Rq7.new w9 24 0 0 0 0 0 0 0).below hb10 (by simp)).cells
        have HB10 := Lib.hid ((HB9.out.alloc hz9 _).trans (hb10.mono (by simp; omega)))
        clear hb10 k0 k1 k2 k3 k4 k5 k6
        go_wp2
        go_roundw
        case rel => first | exact ⟨k + 1, by omega, by go_num, HB10.out⟩ | ((repeat apply Exists.intro); exact ⟨⟨k + 1, by omega, by go_num, HB10.out⟩, rfl⟩)
        case measure => simp [intOf]; omega
    · obtain rfl : k = 2 := by omega
      go_wp2
      go_ret
      exact ⟨rfl, HB3.out.trans (HBEL.out.mono hz3)⟩

theorem requestBack_walk (w : World) (z : Ak) (hz : z.fits) (r : Rq) (hr : r.fits) (a : Option Addr) (len cap : Nat) (zs : List Int) (h : IsRow .u8 w a len cap zs) (hc : cap * 1 ≤ 140737488351232) :
    Calls Try.prog 4 #[z.val, r.val, .slice a len cap] w fun e w' => e = .returned (.bool true) ∧ Below w.heap.size w w' := by
  obtain ⟨rs, g1, _, g3, g4, _⟩ := row_bytes h
  exact back_walk w z hz r hr a len cap rs g1 g3 (by omega)
end Go.Proofs.Ytenepkhglgfpaaa
