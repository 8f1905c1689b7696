/-
  frame.Scan by its contract.
-/
import Derived.Test.YtgdhlkfbohjilaaFrameOne
import Derived.Test.YtgdhlkfbohjilaaRowsOf
import Derived.LoopTactic
namespace Go.Proofs.Ytgdhlkfbohjilaa
open Go.RowKit
set_option linter.unusedVariables false

/-- Scan's answer. -/
def ScanRes (w : World) (xs : List Nat) (e : Ending) (w' : World) : Prop :=
  ∃ rs v, Scanned xs rs ∧ e = .returned (.tuple #[v, .int .i64 ((flat rs).length : Nat)]) ∧ OwnRows w' w.heap.size v rs ∧ Below w.heap.size w w'

set_option maxRecDepth 100000 in
set_option maxHeartbeats 1000000 in
theorem scan_any (A : Option Addr) (n c : Nat) (xs : List Nat) (w : World) (hr : Rd .u8 w A n (ints xs)) (hx : ∀ x ∈ xs, x < 256) (hnc : n ≤ c) (hcm : c ≤ 9223372036854775807) (hn : n ≤ 17592186044416) :
    Calls Try.prog 15 #[.slice A n c] w (ScanRes w xs) := by
  have hl : xs.length = n := by have := hr.1; rwa [ints_length] at this
  have HL := Lib.hid hl
  have HR := Lib.hid hr
  have HX := Lib.hid hx
  clear hl hr hx
  go_enter Try.func15, Try.ntmps15
  go_wp2
  go_loopw [4, 5] (fun r i wr => ∃ rs, i = .int .i64 ((flat rs).length : Nat) ∧ OwnRows wr w.heap.size r rs ∧ (∀ r ∈ rs, r.length ≤ 16384) ∧ xs = flat rs ++ xs.drop (flat rs).length ∧ (flat rs).length ≤ n ∧ Below w.heap.size w wr) (fun _ i _ => n - (intOf i).toNat)
  case atStart => exact ⟨[], rfl, OwnRows.nil, by simp, rfl, Nat.zero_le _, Below.refl _ _⟩
  case round =>
    obtain ⟨rs, rfl, hown, hrs, hxs, hkn, hb⟩ := hrel
    have hrl := flat_len rs
    obtain ⟨k, hk⟩ : ∃ k, k = (flat rs).length := ⟨_, rfl⟩
    rw [← hk] at hkn hrl hxs ⊢
    have HOWN := Lib.hid hown
    have HRS := Lib.hid hrs
    have HXS := Lib.hid hxs
    have HK := Lib.hid hk
    have HB := Lib.hid hb
    have hcut := (HR.out.below hb).cut (j := k) hkn hnc
    rw [ints_drop] at hcut
    obtain ⟨A', hA'⟩ : ∃ A', A' = (if c = k then A else A.map (·.add k)) := ⟨_, rfl⟩
    have hs := fun W => run_back W A n c k hkn
    rw [← hA'] at hs hcut
    obtain ⟨ys, hys⟩ : ∃ ys, ys = xs.drop k := ⟨_, rfl⟩
    rw [← hys] at hcut
    have HC := Lib.hid hcut
    have HYX := Lib.hid (show ∀ x ∈ ys, x < 256 from fun x hm => HX.out x (by rw [hys] at hm; exact List.mem_of_mem_drop hm))
    have HYS := Lib.hid hys
    obtain ⟨m, hm⟩ : ∃ m, m = n - k := ⟨_, rfl⟩
    obtain ⟨d, hd⟩ : ∃ d, d = c - k := ⟨_, rfl⟩
    rw [← hm, ← hd] at hs
    rw [← hm] at HC
    have hmd : m ≤ d := by omega
    have hdm : d ≤ 9223372036854775807 := by omega
    have HM := Lib.hid hm
    have HD := Lib.hid hd
    clear hown hrs hxs hb hcut hA' hys hm hd hk
    obtain ⟨o, ho⟩ : ∃ o, fone ys = o := ⟨_, rfl⟩
    have HO := Lib.hid ho
    clear ho
    go_wp2_with fail
    refine (one_any A' m d ys wr HC.out HYX.out hmd hdm o HO.out).mono ?_
    rintro e w1 ⟨hb1, hres⟩
    have HB1 := Lib.hid hb1
    cases o with
    | none =>
      obtain rfl := hres
      have HOWN1 := Lib.hid (HOWN.out.below hb1)
      clear hb1 hs
      go_wp2
      go_ret2
      exact ⟨rs, _, ⟨HRS.out, ys, by rw [HYS.out]; exact HXS.out, HO.out⟩, by rw [HK.out]; rfl, HOWN1.out, HB.out.trans (HB1.out.mono HB.out.size)⟩
    | some r =>
      obtain ⟨B, q, rfl, hq1, hq2, hrd, hnew⟩ := hres
      have hown1 := HOWN.out.below hb1
      have hrow := HOWN.out.rowLt
      have hsz := hb1.size
      have hsw := HB.out.size
      obtain ⟨vs, hov, hin⟩ := hown1
      have HOV := Lib.hid hov
      have HIN := Lib.hid hin
      have HROW := Lib.hid hrow
      have HRD := Lib.hid hrd
      have HNEW := Lib.hid hnew
      have hr6 : k + (6 + r.length) ≤ n := by
        have h1 := (fone_some HO.out).2.1
        rw [HYS.out, List.length_drop, HL.out] at h1
        omega
      have hvl : vs.length = rs.length := by have := HOV.out.1; omega
      have HVL := Lib.hid hvl
      obtain ⟨z, hz⟩ : ∃ z, z = r.length := ⟨_, rfl⟩
      rw [← hz] at hr6 hq1 HRD ⊢
      have HZ := Lib.hid hz
      clear hrow hov hin hrd hnew hvl hb1 hs hz
      go_wp2_with (first
        | (at_builtin
           refine wpList_append_one _ rfl (.tmp 21) (.tmp 23) 26 rfl 24 w.heap.size 22 (.slice none 0 0) Try.underlying26 info_row rfl u4 rs.length vs rfl (World.ownsRow.alloc HOV.out _) ⟨w1.heap.size, 0, none⟩ 1 (.slice B z q) rfl (by simp) rfl (by omega) (by omega) (by simp; omega) (by simp only [maxLen]; omega) ?_
           intro v2 w2 ho2 hg2))
      have hb2 : Below w.heap.size w w2 := hg2.below ((HB.out.trans (HB1.out.mono HB.out.size)).alloc (by omega) _) (by simp; omega) (fun g hg => (HROW.out g hg).1)
      have hfl : (flat (rs ++ [r])).length = k + (6 + z) := by rw [flat_snoc, List.length_append, fmk_length, ← HK.out, ← HZ.out]
      have hxs2 : xs = flat (rs ++ [r]) ++ xs.drop (k + (6 + z)) := by
        have h1 := fone_split HO.out
        rw [← HZ.out, HYS.out, List.drop_drop] at h1
        rw [flat_snoc, List.append_assoc, ← h1]
        exact HXS.out
      have hrows : ∀ (j : Nat) u r, vs[j]? = some u → rs[j]? = some r → RowIn (w1.alloc (.cells #[.slice B z q] 22)) u4 u r :=
        fun j u r h1 h2 => (HIN.out j u r h1 h2).below ((Below.refl _ _).alloc (Nat.le_refl _) _)
      have hthis : RowIn (w1.alloc (.cells #[.slice B z q] 22)) u4 (.slice B z q) r := by
        refine ⟨B, q, by rw [HZ.out], by rw [← HZ.out]; exact hq1, hq2, by rw [← HZ.out]; exact HRD.out.alloc _, fun _ ad he hc => ?_⟩
        have h1 := HNEW.out ad he
        have h2 := (HROW.out _ hc).2
        omega
      have hrs2 : ∀ x ∈ rs ++ [r], x.length ≤ 16384 := by
        intro x hx
        rcases List.mem_append.1 hx with hx | hx
        · exact HRS.out x hx
        · rw [List.mem_singleton] at hx; subst hx; exact (fone_some HO.out).1
      refine ⟨⟨rs ++ [r], by rw [hfl]; go_num, OwnRows.push ho2 hg2 HVL.out hrows hthis, hrs2, by rw [hfl]; exact hxs2, by rw [hfl]; exact hr6, hb2⟩, ?_⟩
      simp [intOf]
      omega
end Go.Proofs.Ytgdhlkfbohjilaa
