/-
  The statement CrcThree by its walk.
-/
import Derived.Test.YtkichofkepnpiaaCrcTurnedLaw
import Derived.Test.YtkichofkepnpiaaCutRun
import Derived.Test.YtkichofkepnpiaaCrcMix
import Derived.Test.YtkichofkepnpiaaAfter
import Derived.LoopTactic
import Derived.BigQuiet
import Derived.Deep.QuietTactic
import Derived.IntWalk
import Derived.Deep.OwnRows
namespace Go.Proofs.Ytkichofkepnpiaa
open Go.RowKit
set_option linter.unusedVariables false

/-- What make lays is the call's own. -/
theorem own_made (w : World) (n base : Nat) (hn : n ≤ maxLen) (hb : base ≤ w.heap.size) :
    Own 5 .u8 (w.alloc (.cells (madeCells #[.int .u8 0] n) 5)) base (.slice (some ⟨w.heap.size, 0, none⟩) n n) n (ints (List.replicate n 0)) := by
  refine ⟨by simp [ints], .inr ⟨w.heap.size, n, _, rfl, hb, heap_alloc_new w _, Nat.le_refl _, hn, ?_, ?_⟩⟩
  · simp [madeCells]
  · apply List.ext_getElem?
    intro j
    by_cases hj : j < n
    · simp [madeCells, ints, hj, Nat.mod_one]
    · simp [madeCells, ints, hj]

theorem csum_lt' (p : List Nat) : csum p < 4294967296 := by unfold csum; omega
theorem ints_take' (a : List Nat) (j : Nat) : (ints a).take j = ints (a.take j) := by simp [ints, List.map_take]
theorem sum_after {w0 : World} (A : Option Addr) (n c : Nat) (xs : List Nat) (hr : Rd .u8 w0 A n (ints xs)) (hx : ∀ x ∈ xs, x < 256) (hn : n ≤ 9223372036854775807) (p : After w0) :
    Calls Try.prog 10 #[.slice A n c] p.world fun e w'' => e = .returned (.int .u32 (csum xs : Nat)) ∧ ∃ q : After w0, w'' = q.world :=
  after_call p (sum_any A n c xs p.world (hr.below p.below) hx hn)

set_option maxRecDepth 100000 in
set_option maxHeartbeats 4000000 in
theorem crcThree_walk (w : World) (a : Option Addr) (la ca : Nat) (za : List Int) (h1 : IsRow .u8 w a la ca za) (hr1 : ca * 1 ≤ 140737488351232)
    (b : Option Addr) (lb cb : Nat) (zb : List Int) (h2 : IsRow .u8 w b lb cb zb) (hr2 : cb * 1 ≤ 140737488351232)
    (c : Option Addr) (lc cc : Nat) (zc : List Int) (h3 : IsRow .u8 w c lc cc zc) (hr3 : cc * 1 ≤ 140737488351232) :
    Calls Try.prog 6 #[.slice a la ca, .slice b lb cb, .slice c lc cc] w fun e w' => e = .returned (.bool true) ∧ Below w.heap.size w w' := by
  obtain ⟨xs, hrx, hxl, hwx, hnx, _⟩ := row_bytes h1
  obtain ⟨ys, hry, hyl, hwy, hny, _⟩ := row_bytes h2
  obtain ⟨zs, hrz, hzl, hwz, hnz, _⟩ := row_bytes h3
  have HRX := Lib.hid hrx
  have HRY := Lib.hid hry
  have HRZ := Lib.hid hrz
  have HWX := Lib.hid hwx
  have HWY := Lib.hid hwy
  have HWZ := Lib.hid hwz
  have HXL := Lib.hid hxl
  have HYL := Lib.hid hyl
  have HZL := Lib.hid hzl
  clear h1 h2 h3 hrx hry hrz hwx hwy hwz hxl hyl hzl
  go_enter Try.func6, Try.ntmps6
  go_wp2_with fail
  refine (awake_ok w).mono ?_
  rintro e w1 ⟨rfl, hb⟩
  have HB := Lib.hid hb
  have hz := hb.size
  clear hb
  obtain ⟨n, hn⟩ : ∃ n, n = min (min la lb) lc := ⟨_, rfl⟩
  have hmin := min3_ok (P := Try.prog) la lb lc n hn
  have hna : n ≤ la := by omega
  have hnb : n ≤ lb := by omega
  have hnc : n ≤ lc := by omega
  have hn47 : n ≤ 140737488351232 := by omega
  clear hn
  have hmk := run_make_row' (P := Try.prog) 22 5 (.int .u8 0) 1 Try.underlying22 info_byte rfl .i64 .i64 n (by omega) (by omega)
  obtain ⟨g, hg⟩ : ∃ g, g = w1.heap.size := ⟨_, rfl⟩
  have HG := Lib.hid hg
  have hgw : w.heap.size ≤ g := by omega
  have HO := Lib.hid (own_made w1 n g (by simp only [maxLen]; omega) (by omega))
  clear hg
  have hl1 : (xs.take n).length = n := by rw [List.length_take, HXL.out]; omega
  have hl2 : (ys.take n).length = n := by rw [List.length_take, HYL.out]; omega
  have hl3 : (zs.take n).length = n := by rw [List.length_take, HZL.out]; omega
  obtain ⟨ms, hms⟩ : ∃ ms, ms = mix (xs.take n) (ys.take n) (zs.take n) := ⟨_, rfl⟩
  have hml : ms.length = n := by rw [hms]; exact mix_length n _ _ _ hl1 hl2 hl3
  have HL1 := Lib.hid hl1
  have HL2 := Lib.hid hl2
  have HL3 := Lib.hid hl3
  have HMS := Lib.hid hms
  have HML := Lib.hid hml
  clear hl1 hl2 hl3 hms hml
  go_wp2
  rw [← HG.out] at HO ⊢
  go_loopw [23] (fun i wr => ∃ (k : Nat) (ds : List Nat), k ≤ n ∧ i = .int .i64 k ∧ ds.length = n ∧ ds.take k = ms.take k ∧ Own 5 .u8 wr g (.slice (some ⟨g, 0, none⟩) n n) n (ints ds) ∧ Below w.heap.size w wr) (fun i _ => n - (intOf i).toNat)
  case atStart =>
    exact ⟨0, List.replicate n 0, Nat.zero_le _, rfl, by simp, by simp, HO.out, HB.out.alloc hz _⟩
  case round =>
    obtain ⟨k, ds, hk, rfl, hdl, hdt, hown, hbel⟩ := hrel
    have HDL := Lib.hid hdl
    have HDT := Lib.hid hdt
    have HOWN := Lib.hid hown
    have HBEL := Lib.hid hbel
    clear hdl hdt hown hbel
    by_cases hlt : k < n
    · obtain ⟨ax, rfl, hcx⟩ := (HRX.out.below HBEL.out).at_ (show k < la by omega)
      obtain ⟨ay, rfl, hcy⟩ := (HRY.out.below HBEL.out).at_ (show k < lb by omega)
      obtain ⟨az, rfl, hcz⟩ := (HRZ.out.below HBEL.out).at_ (show k < lc by omega)
      rw [ints_getD] at hcx hcy hcz
      have HGE : ∀ {l : List Nat} {m : Nat}, l.length = m → n ≤ m → (∀ x ∈ l, x < 256) → l.getD k 0 < 256 ∧ (l.take n).getD k 0 = l.getD k 0 := by
        intro l m h1 h2 h3
        have hk' : k < l.length := by omega
        have h4 : l.getD k 0 = l[k] := by simp [List.getD, hk']
        exact ⟨by rw [h4]; exact h3 _ (List.getElem_mem hk'), by simp [List.getD, hlt]⟩
      obtain ⟨hx8, tx⟩ := HGE HXL.out hna HWX.out
      obtain ⟨hy8, ty⟩ := HGE HYL.out hnb HWY.out
      obtain ⟨hz8, tz⟩ := HGE HZL.out hnc HWZ.out
      have hmk' := mix_getD n _ _ _ HL1.out HL2.out HL3.out k hlt
      rw [← HMS.out, tx, ty, tz] at hmk'
      obtain ⟨x, hx⟩ : ∃ x, x = xs.getD k 0 := ⟨_, rfl⟩
      obtain ⟨y, hy⟩ : ∃ y, y = ys.getD k 0 := ⟨_, rfl⟩
      obtain ⟨z, hz'⟩ : ∃ z, z = zs.getD k 0 := ⟨_, rfl⟩
      rw [← hx, ← hy, ← hz'] at hmk'
      rw [← hx] at hcx hx8
      rw [← hy] at hcy hy8
      rw [← hz'] at hcz hz8
      have HMK := Lib.hid hmk'
      have hcell := HOWN.out.cell hlt
      have hfz := HOWN.out.unfrozen k
      clear HGE tx ty tz hx hy hz' hmk'
      go_wp2
      go_region
      rw [u8_xor_nat x y hx8 hy8, u8_xor_nat (x ^^^ y) z (Nat.xor_lt_two_pow (n := 8) hx8 hy8) hz8]
      go_wp2
      go_round
      case rel => exact ⟨k + 1, ds.set k (x ^^^ y ^^^ z), by omega, by go_num, by rw [List.length_set]; exact HDL.out,
        take_set_next (by rw [HDL.out]; exact hlt) (by rw [HML.out]; exact hlt) HDT.out HMK.out.symm,
        by rw [← ints_set]; exact (HOWN.out.set k _).drew, (HBEL.out.setCell hgw _).drew⟩
      case measure => simp [intOf]; omega
    · obtain rfl : k = n := by omega
      have he : ds = ms := by
        have h1 := HDT.out
        rw [List.take_of_length_le (by rw [HDL.out]; omega), List.take_of_length_le (by rw [HML.out]; omega)] at h1
        exact h1
      subst he
      have hsum := csum_mix HL1.out HL2.out HL3.out (fun x hm => HWX.out x (List.mem_of_mem_take hm)) (fun x hm => HWY.out x (List.mem_of_mem_take hm)) (fun x hm => HWZ.out x (List.mem_of_mem_take hm))
      rw [← HMS.out] at hsum
      have HDS := Lib.hid (show ∀ x ∈ ds, x < 256 by
        rw [HMS.out]
        exact mix_lt (fun x hm => HWX.out x (List.mem_of_mem_take hm)) (fun x hm => HWY.out x (List.mem_of_mem_take hm)) (fun x hm => HWZ.out x (List.mem_of_mem_take hm)))
      have s0 := sum_after (w0 := wr) (some ⟨g, 0, none⟩) k k ds (by obtain ⟨_, _, he, _, _, hrd, _⟩ := HOWN.out.form; cases he; exact hrd) HDS.out (by omega)
      have s1 := sum_after (w0 := wr) a k ca (xs.take k) (by rw [← ints_take']; exact (HRX.out.below HBEL.out).front hna) (fun x hm => HWX.out x (List.mem_of_mem_take hm)) (by omega)
      have s2 := sum_after (w0 := wr) b k cb (ys.take k) (by rw [← ints_take']; exact (HRY.out.below HBEL.out).front hnb) (fun x hm => HWY.out x (List.mem_of_mem_take hm)) (by omega)
      have s3 := sum_after (w0 := wr) c k cc (zs.take k) (by rw [← ints_take']; exact (HRZ.out.below HBEL.out).front hnc) (fun x hm => HWZ.out x (List.mem_of_mem_take hm)) (by omega)
      have l1 := csum_lt' (xs.take k)
      have l2 := csum_lt' (ys.take k)
      have l3 := csum_lt' (zs.take k)
      obtain ⟨q0, h0⟩ : ∃ q, q = csum ds := ⟨_, rfl⟩
      obtain ⟨q1, h1⟩ : ∃ q, q = csum (xs.take k) := ⟨_, rfl⟩
      obtain ⟨q2, h2⟩ : ∃ q, q = csum (ys.take k) := ⟨_, rfl⟩
      obtain ⟨q3, h3⟩ : ∃ q, q = csum (zs.take k) := ⟨_, rfl⟩
      rw [← h0, ← h1, ← h2, ← h3] at hsum
      rw [← h0] at s0
      rw [← h1] at s1 l1
      rw [← h2] at s2 l2
      rw [← h3] at s3 l3
      have hx1 := u32_xor_nat q1 q2 l1 l2
      have hx2 := u32_xor_nat (q1 ^^^ q2) q3 (xor_lt32 l1 l2) l3
      rw [← hsum] at hx2
      have hqq := eqT (show (q0 : Int) = q0 from rfl)
      have S0 := Lib.hid s0
      have S1 := Lib.hid s1
      have S2 := Lib.hid s2
      have S3 := Lib.hid s3
      have hs1 := fun W => run_front W a la ca k (by omega)
      have hs2 := fun W => run_front W b lb cb k (by omega)
      have hs3 := fun W => run_front W c lc cc k (by omega)
      clear h0 h1 h2 h3 s0 s1 s2 s3 hsum l1 l2 l3
      go_wp2_with fail
      refine wp_region_after (by kernel_rfl) (by kernel_rfl) ?_
      repeat (go_big_quiet_step ((go_at_call 10; first | exact S0.out _ | exact S1.out _ | exact S2.out _ | exact S3.out _)))
      refine wpQuiet_nil ?_
      intro _ hw'
      obtain ⟨p, rfl⟩ := hw'
      have HB6 := Lib.hid (HBEL.out.trans (p.below.mono HBEL.out.size))
      go_wp2
      go_ret
      exact ⟨rfl, HB6.out⟩
end Go.Proofs.Ytkichofkepnpiaa
