/-
  The statement FrameOne by its walk.
-/
import Derived.Test.YtgdhlkfbohjilaaFrameSaid
import Derived.Test.YtgdhlkfbohjilaaAfter
import Derived.Test.YtgdhlkfbohjilaaArgNat
import Derived.Test.YtgdhlkfbohjilaaRowArg
namespace Go.Proofs.Ytgdhlkfbohjilaa
open Go.RowKit
set_option linter.unusedVariables false

theorem below_drewN {B : Nat} {a w : World} (h : Below B a w) (n : Nat) : Below B a (w.drewN n) := ⟨h.os, h.tape, h.output, h.size, h.block⟩

theorem own_two (w : World) (base : Nat) (hb : base ≤ w.heap.size) (x y : Int) :
    Own 5 .u8 (w.alloc (.cells #[.int .u8 x, .int .u8 y] 5)) base (.slice (some ⟨w.heap.size, 0, none⟩) 2 2) 2 [x, y] :=
  ⟨rfl, .inr ⟨w.heap.size, 2, _, rfl, hb, heap_alloc_new w _, Nat.le_refl _, by simp [maxLen], rfl, rfl⟩⟩

/-- Two rows in a new block. -/
theorem two_rows {w : World} {t : TypeId} (u v : Value) {k : Nat} (hk : k < 2) : (w.alloc (.cells #[u, v] t)).cell? ⟨w.heap.size, k, none⟩ = some (if k = 0 then u else v) := by
  rcases (show k = 0 ∨ k = 1 by omega) with rfl | rfl <;> simp

theorem made_after {w0 : World} (A : Option Addr) (n c : Nat) (xs : List Nat) (hr : Rd .u8 w0 A n (ints xs)) (hx : ∀ x ∈ xs, x < 256) (hn : n ≤ 16384) (p : After w0) :
    Calls Try.prog 13 #[.slice A n c] p.world fun e w'' => e = .returned (.string (strN (fmk xs))) ∧ ∃ q : After w0, w'' = q.world :=
  after_call p (made_any A n c xs p.world (hr.below p.below) hx hn)

set_option maxRecDepth 100000 in
set_option maxHeartbeats 2000000 in
theorem frameOne_walk (w : World) (a : Option Addr) (len cap : Nat) (zs : List Int) (h : IsRow .u8 w a len cap zs) (hr : cap * 1 ≤ 140737488351232)
    (n_ : Int) (hn_ : (Lit.int .u8 n_).wf = true) :
    Calls Try.prog 4 #[.slice a len cap, .int .u8 n_] w fun e w' => e = .returned (.bool true) ∧ Below w.heap.size w w' := by
  obtain ⟨q, rfl, hq⟩ := u8_nat hn_
  obtain ⟨xs, hrd, hxl, hw, hnc, _⟩ := row_bytes h
  have hl : len ≤ 140737488351232 := by omega
  have HR := Lib.hid hrd
  have HW := Lib.hid hw
  have HXL := Lib.hid hxl
  clear h hrd hw hxl hn_
  go_enter Try.func4, Try.ntmps4
  go_wp2_with fail
  refine (awake_any w).mono ?_
  rintro e w1 ⟨rfl, hb⟩
  have HB := Lib.hid hb
  have HR1 := Lib.hid (HR.out.below hb)
  have hsz := hb.size
  clear hb
  go_wp2_with (first
    | (at_builtin
       refine wpList_append_ints _ rfl (.tmp 15) (.tmp 16) 22 rfl .u8 1 w1.heap.size 5 Try.underlying22 info_byte _ 2 _ rfl (own_two w1 w1.heap.size (Nat.le_refl _) _ _) a len cap _ rfl (HR1.out.alloc _) (by omega) (by omega) (by simp) ?_
       intro v2 w2 ho2 hg2
       have hb2 : Below w1.heap.size w1 w2 := ((Below.refl _ _).alloc (Nat.le_refl _) _).grown hg2 (by simp) (fun g he => by have he' : some w1.heap.size = some g := he; injection he' with he'; omega)
       obtain ⟨A2, c2, rfl, h21, h22, hr2, hnil⟩ := ho2.form
       clear hnil
       have HB2 := Lib.hid hb2
       have HR2 := Lib.hid hr2
       clear ho2 hg2 hb2 hr2))
  obtain ⟨g, hg⟩ : ∃ g, g = w2.heap.size := ⟨_, rfl⟩
  obtain ⟨w3, hw3⟩ : ∃ w3, w3 = w2.alloc (.cells #[.slice a len cap, .slice A2 (2 + len) c2] 22) := ⟨_, rfl⟩
  have hb3 : Below w.heap.size w w3 := by
    rw [hw3]
    exact ((HB.out.trans (HB2.out.mono HB.out.size)).alloc (by have := HB2.out.size; omega) _)
  have hrows : ∀ k, k < 2 → ∃ A m c ys, w3.cell? ⟨g, k, none⟩ = some (.slice A m c) ∧ Rd .u8 w3 A m (ints ys) ∧ (∀ x ∈ ys, x < 256) ∧ m ≤ c ∧ c ≤ 9223372036854775807 := by
    intro k hk
    have hc := two_rows (w := w2) (t := 22) (.slice a len cap) (.slice A2 (2 + len) c2) hk
    rw [← hw3, ← hg] at hc
    rcases (show k = 0 ∨ k = 1 by omega) with rfl | rfl
    · exact ⟨a, len, cap, xs, hc, HR.out.below hb3, HW.out, hnc, by omega⟩
    · have e : ([0, (q : Int) % 4] : List Int) ++ ints xs = ints (0 :: q % 4 :: xs) := rfl
      have h4 := HR2.out
      rw [e] at h4
      refine ⟨A2, 2 + len, c2, 0 :: q % 4 :: xs, hc, by rw [hw3]; exact h4.alloc _, ?_, h21, by unfold maxLen at h22; omega⟩
      intro x hx
      simp only [List.mem_cons] at hx
      rcases hx with rfl | rfl | hx
      · omega
      · omega
      · exact HW.out x hx
  rw [← hg, ← hw3]
  have HROWS := Lib.hid hrows
  have HB3 := Lib.hid hb3
  have hsw := hb3.size
  clear hrows hb3 hw3 hg HR2 HB2 HB HR1 hsz h21 h22
  go_loopw [20] (fun i wr => ∃ k : Nat, k ≤ 2 ∧ i = .int .i64 k ∧ Below w3.heap.size w3 wr) (fun i _ => 2 - (intOf i).toNat)
  case atStart => exact ⟨0, by omega, rfl, Below.refl _ _⟩
  case round =>
    obtain ⟨k, hk, rfl, hbel⟩ := hrel
    by_cases hlt : k < 2
    · obtain ⟨A, m, c, ys, hcell, hrd, hyw, hmc, hcm⟩ := HROWS.out k hlt
      have hcell' : wr.cell? ⟨g, k, none⟩ = some (.slice A m c) := by rw [hbel.cell (World.block_lt_of_cell? w3 _ hcell)]; exact hcell
      have HRD := Lib.hid (hrd.below hbel)
      have HYW := Lib.hid hyw
      have HBEL := Lib.hid hbel
      have hyl : ys.length = m := by have := hrd.1; rwa [ints_length] at this
      have HYL := Lib.hid hyl
      clear hcell hrd hyw hbel hyl
      obtain ⟨o, ho⟩ : ∃ o, fone ys = o := ⟨_, rfl⟩
      have HO := Lib.hid ho
      clear ho
      go_wp2_with fail
      refine (one_any A m c ys wr HRD.out HYW.out hmc hcm o HO.out).mono ?_
      rintro e w4 ⟨hb4, hres⟩
      have HB4 := Lib.hid (HBEL.out.trans (hb4.mono HBEL.out.size))
      have HRD4 := Lib.hid (HRD.out.below hb4)
      clear hb4
      cases o with
      | none =>
        obtain rfl := hres
        go_wp2
        go_quiet (fail)
        go_wp2
        go_roundw
        case rel => exact ⟨k + 1, by omega, by go_num, below_drewN HB4.out _⟩
        case measure => simp [intOf]; omega
      | some r =>
        obtain ⟨B, d, rfl, hd1, hd2, hrb, hnew⟩ := hres
        clear hnew
        have hr1 := (fone_some HO.out).1
        have hr2 := (fone_some HO.out).2.1
        have hr3 := (fone_some HO.out).2.2.1
        rw [HYL.out] at hr2
        have HRB := Lib.hid hrb
        have hrw : ∀ x ∈ r, x < 256 := fun x hx => by
          rw [(fone_some HO.out).2.2.2.1] at hx
          exact HYW.out x (List.mem_of_mem_drop (List.mem_of_mem_take hx))
        have hfront := HRD4.out.front (j := 6 + r.length) hr2
        rw [ints_take, hr3] at hfront
        have d1 := fun p : After w4 => str_of p.world A _ c _ (hfront.below p.below)
        have hs1 := fun W => run_front W A m c (6 + r.length) (by omega)
        have MA := Lib.hid (made_after (w0 := w4) B r.length d r hrb hrw hr1)
        obtain ⟨z, hz⟩ : ∃ z, z = r.length := ⟨_, rfl⟩
        rw [← hz] at d1 hs1 MA hr1 hr2 ⊢
        rw [show ((6 + z : Nat) : Int) = 6 + (z : Int) by omega] at hs1
        have hgt : decide ((m : Int) < 6 + (z : Int)) = false := by simp; omega
        clear hrb hrw hfront hz hr3 hd1 hd2
        go_wp2
        refine wp_region_after (by kernel_rfl) (by kernel_rfl) ?_
        repeat (go_big_quiet_step ((go_at_call 13; exact MA.out _)))
        refine wpQuiet_nil ?_
        intro _ hw'
        obtain ⟨p, rfl⟩ := hw'
        have HB5 := Lib.hid (HB4.out.trans (p.below.mono HB4.out.size))
        clear d1
        go_wp2
        go_roundw
        case rel => exact ⟨k + 1, by omega, by go_num, HB5.out⟩
        case measure => simp [intOf]; omega
    · obtain rfl : k = 2 := by omega
      have HBEL := Lib.hid hbel
      clear hbel
      go_wp2
      go_ret
      exact ⟨rfl, HB3.out.trans (HBEL.out.mono hsw)⟩
end Go.Proofs.Ytgdhlkfbohjilaa
