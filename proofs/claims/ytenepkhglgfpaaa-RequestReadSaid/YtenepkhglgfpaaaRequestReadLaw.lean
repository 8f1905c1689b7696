/-
  The statement RequestRead by its walk.
-/
import Derived.Test.YtenepkhglgfpaaaReqAwake
import Derived.Test.YtenepkhglgfpaaaReqLawMay
import Derived.Test.YtenepkhglgfpaaaReqCells
import Derived.Test.YtenepkhglgfpaaaReqAny
import Derived.Test.YtenepkhglgfpaaaRowArg
import Derived.Test.YtenepkhglgfpaaaRebase
import Derived.Test.YtenepkhglgfpaaaOwnAt
import Derived.Test.YtenepkhglgfpaaaArgNat
namespace Go.Proofs.Ytenepkhglgfpaaa
open Go Go.RowKit
set_option linter.unusedVariables false

/-- Two slices of bytes in a row, that read as lists. -/
def BytesIn (w : World) (ad : Addr) (k : Nat) : Prop := ∃ (A : Option Addr) (n c : Nat) (xs : List Nat), w.cell? (ad.add k) = some (.slice A n c) ∧ Rd .u8 w A n (ints xs) ∧ (∀ x ∈ xs, x < 256) ∧ n ≤ c ∧ c ≤ maxLen ∧ n ≤ 140737488355328
theorem bytes_row (w : World) (g : Nat) (A B : Option Addr) (n m c d : Nat) (xs ys : List Nat) (t : TypeId) (h : w.heap[g]? = some (.cells #[.slice A n c, .slice B m d] t (0, 0)))
    (hx : Rd .u8 w A n (ints xs)) (hy : Rd .u8 w B m (ints ys)) (bx : ∀ x ∈ xs, x < 256) (hbY : ∀ y ∈ ys, y < 256) (h1 : n ≤ c) (h2 : m ≤ d) (h3 : c ≤ maxLen) (h4 : d ≤ maxLen) (h5 : n ≤ 140737488355328) (h6 : m ≤ 140737488355328)
    (k : Nat) (hk : k < 2) : BytesIn w ⟨g, 0, none⟩ k := by
  have hc := fun j => cell_of_row w g j _ _ _ h
  rcases (show k = 0 ∨ k = 1 by omega) with rfl | rfl
  · exact ⟨A, n, c, xs, hc 0, hx, bx, h1, h3, h5⟩
  · exact ⟨B, m, d, ys, hc 1, hy, hbY, h2, h4, h6⟩
theorem getD_byte {xs : List Nat} (h : ∀ x ∈ xs, x < 256) (j : Nat) : xs.getD j 0 < 256 := by
  by_cases hj : j < xs.length
  · have h1 : xs.getD j 0 = xs[j] := by simp [List.getD, hj]
    rw [h1]; exact h _ (List.getElem_mem hj)
  · simp [List.getD, hj]
theorem own_rd {e : TypeId} {k : IntKind} {w : World} {B n c : Nat} {A : Option Addr} {zs : List Int} (h : Own e k w B (.slice A n c) n zs) : Rd k w A n zs := by
  obtain ⟨A', c', he, _, _, hr, _⟩ := h.form
  injection he with h1 _ _
  rw [h1]; exact hr
theorem nums_bytes (r : Rq) (h : r.fits) : 1 ≤ (encs r.nums).length ∧ (encs r.nums).length ≤ 70 := by
  have h1 := encs_len r.nums (fun y hy => pairN_lt (h y hy).1 (h y hy).2)
  rw [r.nums_len] at h1
  refine ⟨?_, by omega⟩
  unfold Rq.nums
  rw [encs_cons, List.length_append]
  have := enc_len_pos (pairN r.key)
  omega

set_option maxRecDepth 100000 in
set_option maxHeartbeats 4000000 in
theorem read_walk (w : World) (A0 : Option Addr) (n0 c0 : Nat) (bs : List Nat) (hrd : Rd .u8 w A0 n0 (ints bs)) (hrb : ∀ x ∈ bs, x < 256) (hnc0 : n0 ≤ c0) (hcm0 : c0 ≤ maxLen) (hn0 : n0 ≤ 140737488351232) (z : Ak) (hz : z.fits) (t : Nat) (ht : t < 256) (by_ : Nat) (hby : by_ < 256) :
    Calls Try.prog 5 #[.slice A0 n0 c0, z.val, .int .u8 (t : Int), .int .u8 (by_ : Int)] w fun e w' => e = .returned (.bool true) ∧ Below w.heap.size w w' := by
  have HA := Lib.hid (fun W => ask_any z hz W)
  have hqf := z.req_fits hz
  obtain ⟨q, hq⟩ : ∃ q, q = z.req := ⟨_, rfl⟩
  rw [← hq] at HA hqf
  obtain ⟨hl1, hl2⟩ := nums_bytes q hqf
  have HBY := Lib.hid (fun W => rbytes_any q W hqf)
  obtain ⟨xs, hxs⟩ : ∃ xs, xs = encs q.nums := ⟨_, rfl⟩
  have hxb : ∀ x ∈ xs, x < 256 := by rw [hxs]; exact encs_bytes _
  rw [← hxs] at HBY hl1 hl2
  obtain ⟨L, hL⟩ : ∃ L, L = xs.length := ⟨_, rfl⟩
  rw [← hL] at hl1 hl2
  have HL := Lib.hid hL
  have HXB := Lib.hid hxb
  have HRB := Lib.hid hrb
  have HRD := Lib.hid hrd
  clear hq hqf hz hrb hrd hxs hxb hL
  obtain ⟨qk, qo, qa, qb, qm, ql, qt⟩ := q
  obtain ⟨zk, zo, za, zb, zm, zl, zt⟩ := z
  unfold AskRes Rq.val at HA
  unfold Ak.val at HA
  unfold Rq.val at HBY
  unfold Ak.val
  dsimp only at HA HBY ⊢
  have H2 := Lib.hid (Ak7.new w ⟨zk, zo, za, zb, zm, zl, zt⟩)
  have HB0 := Lib.hid ((Below.refl w.heap.size w).alloc (Nat.le_refl _) (.cells #[.int .u8 (zk : Int), .int .u8 (zo : Int), .int .u8 (za : Int), .int .u8 (zb : Int), .int .u16 (zm : Int), .int .u8 (zl : Int), .int .u8 (zt : Int)] 27))
  go_enter Try.func5, Try.ntmps5
  go_wp2_with fail
  refine (awake_ok _).mono ?_
  rintro _ w1 ⟨rfl, hb1⟩
  obtain ⟨e0, e1, e2, e3, e4, e5, e6⟩ := (H2.out.below hb1 (by simp)).cells
  dsimp only at e0 e1 e2 e3 e4 e5 e6
  have HB1 := Lib.hid (HB0.out.trans (hb1.mono (by simp)))
  clear hb1 H2 HB0
  go_wp2_with fail
  refine (HA.out _).mono ?_
  rintro _ w2 ⟨rfl, hb2⟩
  have HB2 := Lib.hid (HB1.out.trans (hb2.mono HB1.out.size))
  clear hb2 HB1 HA e0 e1 e2 e3 e4 e5 e6
  go_wp2_with fail
  refine (HBY.out _).mono ?_
  rintro _ w3 ⟨v, rfl, ho, hb3⟩
  rw [← HL.out] at ho
  obtain ⟨g, cb, rfl, hg1, hg2, hcb1, hcb2⟩ := ho.open_ hl1
  have HB3 := Lib.hid (HB2.out.trans (hb3.mono HB2.out.size))
  have hz2 := HB2.out.size
  have hgw : w.heap.size ≤ g := by omega
  obtain ⟨i, hi⟩ : ∃ i : Nat, t % L = i := ⟨_, rfl⟩
  have hiL : i < L := by rw [← hi]; exact Nat.mod_lt _ hl1
  have ht1 : (t : Int) % (L : Int) = (i : Int) := by rw [← hi]; rfl
  have ht2 : (t : Int).tmod (L : Int) = (i : Int) := by rw [Int.tmod_eq_emod_of_nonneg (by omega)]; exact ht1
  have hL0 : ¬ (L : Int) = 0 := by omega
  have hcell := ho.cell hiL
  rw [ints_getD] at hcell
  have hfz := ho.unfrozen i
  obtain ⟨y, hy⟩ : ∃ y, y = xs.getD i 0 := ⟨_, rfl⟩
  have hy8 : y < 256 := by rw [hy]; exact getD_byte HXB.out _
  rw [← hy] at hcell
  have hxor := u8_xor_nat y by_ hy8 hby
  have ho4 := ho.set i ((y ^^^ by_ : Nat) : Int)
  rw [ints_set] at ho4
  obtain ⟨ys, hys⟩ : ∃ ys, ys = xs.set i (y ^^^ by_) := ⟨_, rfl⟩
  rw [← hys] at ho4
  have hyb : ∀ x ∈ ys, x < 256 := by
    intro x hx
    rw [hys] at hx
    rcases List.mem_or_eq_of_mem_set hx with hx | rfl
    · exact HXB.out x hx
    · exact Nat.xor_lt_two_pow (n := 8) hy8 hby
  have HYB := Lib.hid hyb
  have HO4 := Lib.hid ho4
  have hb4 : Below w.heap.size w (w3.setCell ⟨g, i, none⟩ (.int .u8 ((y ^^^ by_ : Nat) : Int))) := HB3.out.setCell (by simpa using hgw) _
  have HB4 := Lib.hid hb4
  clear ho ho4 hys hyb hb4 hb3 HBY HXB HL hy hi
  go_wp2
  go_region
  go_wp2
  obtain ⟨W5, hW5⟩ : ∃ W5, W5 = ((w3.setCell ⟨g, i, none⟩ (.int .u8 ((y ^^^ by_ : Nat) : Int))).alloc (.cells #[.slice A0 n0 c0, .slice (some ⟨g, 0, none⟩) L cb] 32)).drew := ⟨_, rfl⟩
  have hs4 : (w3.setCell ⟨g, i, none⟩ (.int .u8 ((y ^^^ by_ : Nat) : Int))).heap.size = w3.heap.size := by simp
  have hz3 := HB3.out.size
  have hB5 : Below w.heap.size w W5 := by rw [hW5]; exact (HB4.out.alloc (by rw [hs4]; exact hz3) _).drew
  have hO5 : Own 5 .u8 W5 w2.heap.size (.slice (some ⟨g, 0, none⟩) L cb) L (ints ys) := by rw [hW5]; exact (HO4.out.alloc _).drew
  have hH5 : W5.heap[w3.heap.size]? = some (.cells #[.slice A0 n0 c0, .slice (some ⟨g, 0, none⟩) L cb] 32 (0, 0)) := by rw [hW5, ← hs4]; exact heap_alloc_new _ _
  have hE5 := bytes_row W5 w3.heap.size A0 (some ⟨g, 0, none⟩) n0 L c0 cb bs ys 32 hH5 (HRD.out.below hB5) (own_rd hO5) HRB.out HYB.out hnc0 hcb1 hcm0 hcb2 (by omega) (by omega)
  have hs5 : w3.heap.size < W5.heap.size := (Array.getElem?_eq_some_iff.1 hH5).1
  rw [← hW5]
  obtain ⟨ad, had⟩ : ∃ ad : Addr, ad = ⟨w3.heap.size, 0, none⟩ := ⟨_, rfl⟩
  have hda : ad.block < W5.heap.size := by rw [had]; exact hs5
  rw [← had] at hE5 ⊢
  have HE5 := Lib.hid hE5
  have HB5 := Lib.hid hB5
  have hz5 := hB5.size
  clear hE5 hB5 hO5 hH5 hW5 hs5 had HO4 HB4 HB3 HB2 hcell hfz hxor hs4
  go_loopw [41] (fun i wr => ∃ k : Nat, k ≤ 2 ∧ i = .int .i64 (k : Int) ∧ Below W5.heap.size W5 wr) (fun i _ => 2 - (intOf i).toNat)
  case atStart => exact ⟨0, by omega, rfl, Below.refl _ _⟩
  case round =>
    obtain ⟨k, hk, rfl, hbel⟩ := hrel
    have HBEL := Lib.hid hbel
    have hzr := hbel.size
    clear hbel
    by_cases hlt : k < 2
    case neg =>
      obtain rfl : k = 2 := by omega
      go_wp2
      go_ret
      exact ⟨rfl, HB5.out.trans (HBEL.out.mono hz5)⟩
    obtain ⟨Ay, ny, cy, yy, hc, hry, hyb, hnc, hcm, hnl⟩ := HE5.out k hlt
    have hadk : (ad.add k).block < W5.heap.size := by unfold Addr.add; split <;> exact hda
    have hc := (HBEL.out.cell hadk).trans hc
    have HRY := Lib.hid (hry.below HBEL.out)
    have HYY := Lib.hid hyb
    have HRA := Lib.hid (fun W (h : Rd .u8 W Ay ny (ints yy)) => read_any Ay ny cy yy W h hnc hcm (by omega) hyb)
    have hyl : yy.length = ny := by have := hry.1; rwa [ints_length] at this
    clear hry hyb
    go_wp2_with fail
    refine (HRA.out _ HRY.out).mono ?_
    rintro _ w6 hres
    have hz6 : W5.heap.size ≤ w6.heap.size := by rcases hres with ⟨_, _, _, _, _, _, _, _, hb6⟩ | ⟨_, hb6⟩ <;> (have := hb6.size; omega)
    clear HRA hc
    rcases hres with ⟨r, tt, hyt, hrf, hmy, u, rfl, hou, hb6⟩ | ⟨rfl, hb6⟩
    · obtain ⟨Au, cu, rfl, _, _, hru, _⟩ := hou.form
      have HM := Lib.hid (fun W => lawmay_any r W)
      rw [decide_eq_true hmy] at HM
      have HBR := Lib.hid (fun W => rbytes_any r W hrf)
      obtain ⟨rs, hrs⟩ : ∃ rs, rs = encs r.nums := ⟨_, rfl⟩
      have hrl := (nums_bytes r hrf).2
      rw [← hrs] at HBR hyt hrl
      have htl : tt.length ≤ ny := by rw [← hyl, hyt, List.length_append]; omega
      have hss : ¬ 9223372036854775807 < (strN rs).size + (strN tt).size := by rw [strN_size, strN_size]; omega
      have hne : ((strN rs ++ strN tt).toList != (strN yy).toList) = false := by rw [hyt, strN_append]; exact bne_self_eq_false _
      have heq : ((strN rs ++ strN tt).toList == (strN yy).toList) = true := by rw [hyt, strN_append]; exact beq_self_eq_true _
      obtain ⟨rk, ro, ra, rb, rm, rl, rt⟩ := r
      unfold Rq.val at HM HBR
      unfold Rq.val
      dsimp only at HM HBR ⊢
      have hB6 := HBEL.out.trans (hb6.mono hzr)
      have HRY6 := Lib.hid (HRY.out.below hb6)
      have HRU6 := Lib.hid hru
      clear hou hru hb6 hrs hyt hyl
      go_wp2_with fail
      obtain ⟨W7, hW7⟩ : ∃ W7, W7 = w6.alloc (.cells #[.int .i64 rk, .int .i64 ro, .int .i64 ra, .int .i64 rb, .int .i64 rm, .int .i64 rl, .int .i64 rt] 24) := ⟨_, rfl⟩
      have HX7 : Hid (Rq7 W7 w6.heap.size 24 rk ro ra rb rm rl rt) := Lib.hid (by rw [hW7]; exact Rq7.new w6 _ _ _ _ _ _ _ _)
      have hx7 : w6.heap.size < W7.heap.size := by rw [hW7]; simp
      have HB7 : Hid (Below W5.heap.size W5 W7) := Lib.hid (by rw [hW7]; exact hB6.alloc hz6 _)
      have HRU : Hid (Rd .u8 W7 Au tt.length (ints tt)) := Lib.hid (by rw [hW7]; exact HRU6.out.alloc _)
      have HRY7 : Hid (Rd .u8 W7 Ay ny (ints yy)) := Lib.hid (by rw [hW7]; exact HRY6.out.alloc _)
      rw [← hW7]
      clear hW7 hB6 HRU6 HRY6
      refine wp_region_held_drew (S := fun w' => Below W7.heap.size W7 w') (by kernel_rfl) (Below.refl _ _).drew (fun hHeld => ?_)
      refine take_at 0 51 (v := ?_) rfl rfl (by kernel_rfl) (by kernel_rfl) (by kernel_rfl) (fun _ _ _ h => h) (Or.inl ⟨by rfl, ?_⟩) (by assumption) ?_
      rotate_left
      · intro w' hSw
        go_simp
        (try with_reducible rfl)
      (try simp only [Act.put, List.setIfInBounds_toArray, List.set_cons_zero, List.set_cons_succ])
      refine take_at 1 52 (v := ?_) rfl rfl (by kernel_rfl) (by kernel_rfl) (by kernel_rfl) (fun _ _ _ h => h) (Or.inl ⟨by rfl, ?_⟩) (by assumption) ?_
      rotate_left
      · intro w' hSw
        go_simp
        (try with_reducible rfl)
      (try simp only [Act.put, List.setIfInBounds_toArray, List.set_cons_zero, List.set_cons_succ])
      refine take_at 2 53 (v := ?_) rfl rfl (by kernel_rfl) (by kernel_rfl) (by kernel_rfl) (fun _ _ _ h => h) (Or.inl ⟨by rfl, ?_⟩) (by assumption) ?_
      rotate_left
      · intro w' hSw
        have hSw' := hSw
        (try dsimp only at hSw')
        obtain ⟨k0, k1, k2, k3, k4, k5, k6⟩ := (HX7.out.below hSw' hx7).cells
        go_simp
        (try with_reducible rfl)
      (try simp only [Act.put, List.setIfInBounds_toArray, List.set_cons_zero, List.set_cons_succ])
      refine wpAnyH_ready (rs := [3]) (by kernel_rfl) (by simp) ?_
      refine AllReadyH.cons (i := 3) rfl (fun K hK => ?_) AllReadyH.nil
      go_simp
      go_at_call 11
      refine (HM.out _).mono ?_
      rintro _ w8 ⟨rfl, hb8⟩
      have hb8 : Below W7.heap.size W7 w8 := (Below.refl W7.heap.size W7).drew.trans hb8
      refine hK.out _ _ hb8 (fun hHeld => ?_)
      clear hK K
      (try simp only [Act.put, List.setIfInBounds_toArray, List.set_cons_zero, List.set_cons_succ])
      have hX8 := HX7.out.below hb8 hx7
      have hx8 : w6.heap.size < w8.heap.size := by have := hb8.size; omega
      have HX8 := Lib.hid hX8
      clear hX8
      refine wpAnyH_rebase hb8 ?_
      have hHeld : Below w8.heap.size w8 w8 := Below.refl _ _
      refine take_at 4 55 (v := ?_) rfl rfl (by kernel_rfl) (by kernel_rfl) (by kernel_rfl) (fun _ _ _ h => h) (Or.inl ⟨by rfl, ?_⟩) (by assumption) ?_
      rotate_left
      · intro w' hSw
        go_simp
        (try with_reducible rfl)
      (try simp only [Act.put, List.setIfInBounds_toArray, List.set_cons_zero, List.set_cons_succ])
      refine take_at 5 56 (v := ?_) rfl rfl (by kernel_rfl) (by kernel_rfl) (by kernel_rfl) (fun _ _ _ h => h) (Or.inl ⟨by rfl, ?_⟩) (by assumption) ?_
      rotate_left
      · intro w' hSw
        go_simp
        (try with_reducible rfl)
      (try simp only [Act.put, List.setIfInBounds_toArray, List.set_cons_zero, List.set_cons_succ])
      refine take_at 6 57 (v := ?_) rfl rfl (by kernel_rfl) (by kernel_rfl) (by kernel_rfl) (fun _ _ _ h => h) (Or.inl ⟨by rfl, ?_⟩) (by assumption) ?_
      rotate_left
      · intro w' hSw
        have hSw' := hSw
        (try dsimp only at hSw')
        obtain ⟨k0, k1, k2, k3, k4, k5, k6⟩ := (HX8.out.below hSw' hx8).cells
        go_simp
        (try with_reducible rfl)
      (try simp only [Act.put, List.setIfInBounds_toArray, List.set_cons_zero, List.set_cons_succ])
      refine take_at 9 60 (v := ?_) rfl rfl (by kernel_rfl) (by kernel_rfl) (by kernel_rfl) (fun _ _ _ h => h) (Or.inl ⟨by rfl, ?_⟩) (by assumption) ?_
      rotate_left
      · intro w' hSw
        go_simp
        (try with_reducible rfl)
      (try simp only [Act.put, List.setIfInBounds_toArray, List.set_cons_zero, List.set_cons_succ])
      refine take_at 10 61 (v := ?_) rfl rfl (by kernel_rfl) (by kernel_rfl) (by kernel_rfl) (fun _ _ _ h => h) (Or.inl ⟨by rfl, ?_⟩) (by assumption) ?_
      rotate_left
      · intro w' hSw
        have hSw' := hSw
        (try dsimp only at hSw')
        have st := str_of w' Au tt.length cu tt ((HRU.out.below hb8).below hSw')
        go_simp
        (try with_reducible rfl)
      (try simp only [Act.put, List.setIfInBounds_toArray, List.set_cons_zero, List.set_cons_succ])
      refine take_at 12 63 (v := ?_) rfl rfl (by kernel_rfl) (by kernel_rfl) (by kernel_rfl) (fun _ _ _ h => h) (Or.inl ⟨by rfl, ?_⟩) (by assumption) ?_
      rotate_left
      · intro w' hSw
        go_simp
        (try with_reducible rfl)
      (try simp only [Act.put, List.setIfInBounds_toArray, List.set_cons_zero, List.set_cons_succ])
      refine take_at 13 64 (v := ?_) rfl rfl (by kernel_rfl) (by kernel_rfl) (by kernel_rfl) (fun _ _ _ h => h) (Or.inl ⟨by rfl, ?_⟩) (by assumption) ?_
      rotate_left
      · intro w' hSw
        have hSw' := hSw
        (try dsimp only at hSw')
        have sy := str_of w' Ay ny cy yy ((HRY7.out.below hb8).below hSw')
        go_simp
        (try with_reducible rfl)
      (try simp only [Act.put, List.setIfInBounds_toArray, List.set_cons_zero, List.set_cons_succ])
      refine wpAnyH_ready (rs := [7]) (by kernel_rfl) (by simp) ?_
      refine AllReadyH.cons (i := 7) rfl (fun K hK => ?_) AllReadyH.nil
      go_simp
      go_at_call 14
      refine (HBR.out _).mono ?_
      rintro _ w9 ⟨v9, rfl, ho9, hb9⟩
      obtain ⟨A9, c9, rfl, _, _, hr9, _⟩ := ho9.form
      refine hK.out _ _ hb9 (fun hHeld => ?_)
      clear hK K
      (try simp only [Act.put, List.setIfInBounds_toArray, List.set_cons_zero, List.set_cons_succ])
      refine wpAnyH_rebase hb9 ?_
      have hHeld : Below w9.heap.size w9 w9 := Below.refl _ _
      refine take_at 8 59 (v := ?_) rfl rfl (by kernel_rfl) (by kernel_rfl) (by kernel_rfl) (fun _ _ _ h => h) (Or.inl ⟨by rfl, ?_⟩) (by assumption) ?_
      rotate_left
      · intro w' hSw
        have hSw' := hSw
        (try dsimp only at hSw')
        have sr := str_of w' A9 rs.length c9 rs (hr9.below hSw')
        go_simp
        (try with_reducible rfl)
      (try simp only [Act.put, List.setIfInBounds_toArray, List.set_cons_zero, List.set_cons_succ])
      refine take_at 11 62 (v := ?_) rfl rfl (by kernel_rfl) (by kernel_rfl) (by kernel_rfl) (fun _ _ _ h => h) (Or.inl ⟨by rfl, ?_⟩) (by assumption) ?_
      rotate_left
      · intro w' hSw
        go_simp
        (try with_reducible rfl)
      (try simp only [Act.put, List.setIfInBounds_toArray, List.set_cons_zero, List.set_cons_succ])
      refine take_at 14 65 (v := ?_) rfl rfl (by kernel_rfl) (by kernel_rfl) (by kernel_rfl) (fun _ _ _ h => h) (Or.inl ⟨by rfl, ?_⟩) (by assumption) ?_
      rotate_left
      · intro w' hSw
        go_simp
        (try with_reducible rfl)
      (try simp only [Act.put, List.setIfInBounds_toArray, List.set_cons_zero, List.set_cons_succ])
      refine take_at 15 66 (v := ?_) rfl rfl (by kernel_rfl) (by kernel_rfl) (by kernel_rfl) (fun _ _ _ h => h) (Or.inl ⟨by rfl, ?_⟩) (by assumption) ?_
      rotate_left
      · intro w' hSw
        go_simp
        (try with_reducible rfl)
      (try simp only [Act.put, List.setIfInBounds_toArray, List.set_cons_zero, List.set_cons_succ])
      refine take_at 16 67 (v := ?_) rfl rfl (by kernel_rfl) (by kernel_rfl) (by kernel_rfl) (fun _ _ _ h => h) (Or.inl ⟨by rfl, ?_⟩) (by assumption) ?_
      rotate_left
      · intro w' hSw
        go_simp
        (try with_reducible rfl)
      (try simp only [Act.put, List.setIfInBounds_toArray, List.set_cons_zero, List.set_cons_succ])
      refine wpAnyH_done (by kernel_rfl) ?_ _
      clear hHeld
      have HB9 := Lib.hid (HB7.out.trans ((hb8.trans (hb9.mono hb8.size)).mono HB7.out.size))
      clear hb8 hb9 hr9 ho9
      go_wp2
      go_roundw
      case rel => first | exact ⟨k + 1, by omega, by go_num, HB9.out⟩ | ((repeat apply Exists.intro); exact ⟨⟨k + 1, by omega, by go_num, HB9.out⟩, rfl⟩)
      case measure => simp [intOf]; omega
    · have hB6 := HBEL.out.trans (hb6.mono hzr)
      unfold Rq.zero Rq.val
      dsimp only
      clear hb6
      go_wp2_with fail
      obtain ⟨W7, hW7⟩ : ∃ W7, W7 = w6.alloc (.cells #[.int .i64 0, .int .i64 0, .int .i64 0, .int .i64 0, .int .i64 0, .int .i64 0, .int .i64 0] 24) := ⟨_, rfl⟩
      have HB7 : Hid (Below W5.heap.size W5 W7) := Lib.hid (by rw [hW7]; exact hB6.alloc hz6 _)
      rw [← hW7]
      clear hW7 hB6
      refine wp_region_held_drew (S := fun w' => Below W7.heap.size W7 w') (by kernel_rfl) (Below.refl _ _).drew (fun hHeld => ?_)
      refine take_at 0 51 (v := ?_) rfl rfl (by kernel_rfl) (by kernel_rfl) (by kernel_rfl) (fun _ _ _ h => h) (Or.inl ⟨by rfl, ?_⟩) (by assumption) ?_
      rotate_left
      · intro w' hSw
        go_simp
        (try with_reducible rfl)
      (try simp only [Act.put, List.setIfInBounds_toArray, List.set_cons_zero, List.set_cons_succ])
      refine take_at 1 52 (v := ?_) rfl rfl (by kernel_rfl) (by kernel_rfl) (by kernel_rfl) (fun _ _ _ h => h) (Or.inl ⟨by rfl, ?_⟩) (by assumption) ?_
      rotate_left
      · intro w' hSw
        go_simp
        (try with_reducible rfl)
      (try simp only [Act.put, List.setIfInBounds_toArray, List.set_cons_zero, List.set_cons_succ])
      refine take_at 2 53 (v := undef) rfl rfl (by kernel_rfl) (by kernel_rfl) (by kernel_rfl) (fun _ _ _ h => h) (Or.inr ⟨by rfl, rfl⟩) (by assumption) ?_
      (try simp only [Act.put, List.setIfInBounds_toArray, List.set_cons_zero, List.set_cons_succ])
      refine take_at 3 54 (v := undef) rfl rfl (by kernel_rfl) (by kernel_rfl) (by kernel_rfl) (fun _ _ _ h => h) (Or.inr ⟨by rfl, rfl⟩) (by assumption) ?_
      (try simp only [Act.put, List.setIfInBounds_toArray, List.set_cons_zero, List.set_cons_succ])
      refine take_at 4 55 (v := undef) rfl rfl (by kernel_rfl) (by kernel_rfl) (by kernel_rfl) (fun _ _ _ h => h) (Or.inr ⟨by rfl, rfl⟩) (by assumption) ?_
      (try simp only [Act.put, List.setIfInBounds_toArray, List.set_cons_zero, List.set_cons_succ])
      refine take_at 5 56 (v := undef) rfl rfl (by kernel_rfl) (by kernel_rfl) (by kernel_rfl) (fun _ _ _ h => h) (Or.inr ⟨by rfl, rfl⟩) (by assumption) ?_
      (try simp only [Act.put, List.setIfInBounds_toArray, List.set_cons_zero, List.set_cons_succ])
      refine take_at 6 57 (v := undef) rfl rfl (by kernel_rfl) (by kernel_rfl) (by kernel_rfl) (fun _ _ _ h => h) (Or.inr ⟨by rfl, rfl⟩) (by assumption) ?_
      (try simp only [Act.put, List.setIfInBounds_toArray, List.set_cons_zero, List.set_cons_succ])
      refine take_at 7 58 (v := undef) rfl rfl (by kernel_rfl) (by kernel_rfl) (by kernel_rfl) (fun _ _ _ h => h) (Or.inr ⟨by rfl, rfl⟩) (by assumption) ?_
      (try simp only [Act.put, List.setIfInBounds_toArray, List.set_cons_zero, List.set_cons_succ])
      refine take_at 8 59 (v := undef) rfl rfl (by kernel_rfl) (by kernel_rfl) (by kernel_rfl) (fun _ _ _ h => h) (Or.inr ⟨by rfl, rfl⟩) (by assumption) ?_
      (try simp only [Act.put, List.setIfInBounds_toArray, List.set_cons_zero, List.set_cons_succ])
      refine take_at 9 60 (v := undef) rfl rfl (by kernel_rfl) (by kernel_rfl) (by kernel_rfl) (fun _ _ _ h => h) (Or.inr ⟨by rfl, rfl⟩) (by assumption) ?_
      (try simp only [Act.put, List.setIfInBounds_toArray, List.set_cons_zero, List.set_cons_succ])
      refine take_at 10 61 (v := undef) rfl rfl (by kernel_rfl) (by kernel_rfl) (by kernel_rfl) (fun _ _ _ h => h) (Or.inr ⟨by rfl, rfl⟩) (by assumption) ?_
      (try simp only [Act.put, List.setIfInBounds_toArray, List.set_cons_zero, List.set_cons_succ])
      refine take_at 11 62 (v := undef) rfl rfl (by kernel_rfl) (by kernel_rfl) (by kernel_rfl) (fun _ _ _ h => h) (Or.inr ⟨by rfl, rfl⟩) (by assumption) ?_
      (try simp only [Act.put, List.setIfInBounds_toArray, List.set_cons_zero, List.set_cons_succ])
      refine take_at 12 63 (v := undef) rfl rfl (by kernel_rfl) (by kernel_rfl) (by kernel_rfl) (fun _ _ _ h => h) (Or.inr ⟨by rfl, rfl⟩) (by assumption) ?_
      (try simp only [Act.put, List.setIfInBounds_toArray, List.set_cons_zero, List.set_cons_succ])
      refine take_at 13 64 (v := undef) rfl rfl (by kernel_rfl) (by kernel_rfl) (by kernel_rfl) (fun _ _ _ h => h) (Or.inr ⟨by rfl, rfl⟩) (by assumption) ?_
      (try simp only [Act.put, List.setIfInBounds_toArray, List.set_cons_zero, List.set_cons_succ])
      refine take_at 14 65 (v := undef) rfl rfl (by kernel_rfl) (by kernel_rfl) (by kernel_rfl) (fun _ _ _ h => h) (Or.inr ⟨by rfl, rfl⟩) (by assumption) ?_
      (try simp only [Act.put, List.setIfInBounds_toArray, List.set_cons_zero, List.set_cons_succ])
      refine take_at 15 66 (v := undef) rfl rfl (by kernel_rfl) (by kernel_rfl) (by kernel_rfl) (fun _ _ _ h => h) (Or.inr ⟨by rfl, rfl⟩) (by assumption) ?_
      (try simp only [Act.put, List.setIfInBounds_toArray, List.set_cons_zero, List.set_cons_succ])
      refine take_at 16 67 (v := ?_) rfl rfl (by kernel_rfl) (by kernel_rfl) (by kernel_rfl) (fun _ _ _ h => h) (Or.inl ⟨by rfl, ?_⟩) (by assumption) ?_
      rotate_left
      · intro w' hSw
        go_simp
        (try with_reducible rfl)
      (try simp only [Act.put, List.setIfInBounds_toArray, List.set_cons_zero, List.set_cons_succ])
      refine wpAnyH_done (by kernel_rfl) ?_ _
      clear hHeld
      have HB9 := Lib.hid HB7.out.drew
      go_wp2
      go_roundw
      case rel => first | exact ⟨k + 1, by omega, by go_num, HB9.out⟩ | ((repeat apply Exists.intro); exact ⟨⟨k + 1, by omega, by go_num, HB9.out⟩, rfl⟩)
      case measure => simp [intOf]; omega

theorem requestRead_walk (w : World) (a : Option Addr) (len cap : Nat) (zs : List Int) (h : IsRow .u8 w a len cap zs) (hc : cap * 1 ≤ 140737488351232) (z : Ak) (hz : z.fits)
    (at_ : Int) (wa : (Lit.int .u8 at_).wf = true) (by_ : Int) (wb : (Lit.int .u8 by_).wf = true) :
    Calls Try.prog 5 #[.slice a len cap, z.val, .int .u8 at_, .int .u8 by_] w fun e w' => e = .returned (.bool true) ∧ Below w.heap.size w w' := by
  obtain ⟨t, rfl, ht⟩ := u8_nat wa
  obtain ⟨b, rfl, hb⟩ := u8_nat wb
  obtain ⟨bs, g1, _, g3, g4, g5⟩ := row_bytes h
  exact read_walk w a len cap bs g1 g3 g4 g5 (by omega) z hz t ht b hb
end Go.Proofs.Ytenepkhglgfpaaa
