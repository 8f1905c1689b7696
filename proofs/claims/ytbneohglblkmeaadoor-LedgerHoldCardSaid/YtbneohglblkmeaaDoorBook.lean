/-
  The law's Book.Accounts by its contract: the accounts of a book are the house's and up to eight clients', all right, and come to nothing in each currency.
-/
import Derived.Test.YtbneohglblkmeaaDoorChartWords
import Derived.Test.YtbneohglblkmeaaDoorInts
import Derived.RegionTactic
import Derived.BigRegion
namespace Go.Proofs.YtbneohglblkmeaaDoor
open Go Go.RowKit
set_option linter.unusedVariables false

/-- What Accounts hands back. -/
def BookRes (w : World) (e : Ending) (w' : World) : Prop := ∃ v zs k, e = .returned v ∧ OwnA w' w.heap.size v zs ∧ k ≤ 8 ∧ BookOk k zs ∧ Below w.heap.size w w'

/-- The clients' currencies are those of the numbers. -/
def CursOf (cs : List Nat) (k : Nat) (zs : List Ac) : Prop := ∀ j, j < k → ∃ a : Ac, zs[9 + j]? = some a ∧ a.cur = ((cs.getD j 0 : Nat) : Int) % 3
theorem curs_next {cs : List Nat} {k m : Nat} {zs : List Ac} {A B : Ac} (h : CursOf cs k zs) (hl : zs.length = 9 + k) (hm : m < 9) (hx : ((cs.getD k 0 : Nat) : Int) % 3 = B.cur) : CursOf cs (k + 1) (zs.set m A ++ [B]) := by
  intro j hj
  by_cases hjk : j < k
  · obtain ⟨a, h1, h2⟩ := h j hjk
    refine ⟨a, ?_, h2⟩
    rw [List.getElem?_append_left (by simp [hl]; omega), List.getElem?_set_ne (by omega)]
    exact h1
  · obtain rfl : j = k := by omega
    refine ⟨B, ?_, hx.symm⟩
    rw [List.getElem?_append_right (by simp [hl])]
    simp [hl]
/-- A book's numbers as what a client has, and what of it is held. -/
def bookBal (hs : List Nat) (k : Nat) : Int := if k < hs.length then ((hs.getD k 0 : Nat) : Int) % 100000 else 0
def bookHeld (hs ls : List Nat) (k : Nat) : Int := if k < ls.length then bookBal hs k * (((ls.getD k 0 : Nat) : Int) % 101) / 100 else 0
/-- The accounts of the first k clients of a book. -/
def bookTo (cs hs ls : List Nat) : Nat → List Ac
  | 0 => house
  | k + 1 => (bookTo cs hs ls k).set (3 * (cs.getD k 0 % 3)) ⟨((cs.getD k 0 % 3 : Nat) : Int), ((bookTo cs hs ls k).getD (3 * (cs.getD k 0 % 3)) ⟨0, 0, 0⟩).bal - bookBal hs k, 0⟩ ++ [⟨((cs.getD k 0 % 3 : Nat) : Int), bookBal hs k, bookHeld hs ls k⟩]
theorem book_step {cs hs ls : List Nat} {k m x : Nat} {zs : List Ac} {y b q : Int} (h : zs = bookTo cs hs ls k) (hx : ((cs.getD k 0 : Nat) : Int) % 3 = (x : Int)) (hm : 3 * (x : Int) = (m : Int)) (hy : zs[m]? = some ⟨(x : Int), y, 0⟩) (hb : bookBal hs k = b) (hq : bookHeld hs ls k = q) :
    zs.set m ⟨(x : Int), y - b, 0⟩ ++ [⟨(x : Int), b, q⟩] = bookTo cs hs ls (k + 1) := by
  have e1 : cs.getD k 0 % 3 = x := by omega
  have e2 : 3 * x = m := by omega
  have e3 : (zs.getD m ⟨0, 0, 0⟩).bal = y := by simp [List.getD, hy]
  simp only [bookTo, ← h, e1, e2, e3, hb, hq]
/-- What Accounts hands back, and how many clients there are, of which currencies. -/
def BookResC (cl : Nat) (cs hs ls : List Nat) (w : World) (e : Ending) (w' : World) : Prop := ∃ v zs k, e = .returned v ∧ OwnA w' w.heap.size v zs ∧ k ≤ 8 ∧ (k = cl ∨ k = 8) ∧ BookOk k zs ∧ (CursOf cs k zs ∧ k ≤ cl ∧ zs = bookTo cs hs ls k) ∧ Below w.heap.size w w'

theorem part_le (b p : Int) (b0 : 0 ≤ b) (p0 : 0 ≤ p) (p1 : p ≤ 100) (b1 : b ≤ 99999) : 0 ≤ b * p ∧ b * p ≤ 9999900 ∧ b * p / 100 ≤ b := by
  have h1 : 0 ≤ b * p := Int.mul_nonneg b0 p0
  have h2 : b * p ≤ b * 100 := Int.mul_le_mul_of_nonneg_left p1 b0
  omega

theorem bookBal_in (hs : List Nat) (k : Nat) : 0 ≤ bookBal hs k ∧ bookBal hs k ≤ 99999 := by
  unfold bookBal
  split <;> omega
theorem bookHeld_in (hs ls : List Nat) (k : Nat) : 0 ≤ bookHeld hs ls k ∧ bookHeld hs ls k ≤ bookBal hs k := by
  obtain ⟨h1, h2⟩ := bookBal_in hs k
  unfold bookHeld
  split
  · obtain ⟨p1, p2, p3⟩ := part_le (bookBal hs k) (((ls.getD k 0 : Nat) : Int) % 101) h1 (by omega) (by omega) h2
    omega
  · omega
theorem bookTo_ok (cs hs ls : List Nat) : ∀ k, BookOk k (bookTo cs hs ls k)
  | 0 => book_zero
  | k + 1 => by
    have h := bookTo_ok cs hs ls k
    obtain ⟨y, hy, _, _⟩ := h.house (3 * (cs.getD k 0 % 3)) (by omega)
    have hc : ((3 * (cs.getD k 0 % 3) : Nat) : Int) / 3 = ((cs.getD k 0 % 3 : Nat) : Int) := by omega
    rw [hc] at hy
    have e3 : ((bookTo cs hs ls k).getD (3 * (cs.getD k 0 % 3)) ⟨0, 0, 0⟩).bal = y := by rw [List.getD_eq_getElem?_getD, hy]; rfl
    simp only [bookTo, e3]
    obtain ⟨h1, h2⟩ := bookBal_in hs k
    obtain ⟨h3, h4⟩ := bookHeld_in hs ls k
    exact book_next h (c := ((cs.getD k 0 % 3 : Nat) : Int)) (b := bookBal hs k) (l := bookHeld hs ls k) (by omega) (by omega) (by omega) h3 h4 h2 hy

theorem acAt_new (W : World) (n : Nat) (h : n = W.heap.size) (x b q : Int) (t : TypeId) : AcAt (W.alloc (.cells #[.int .i64 x, .int .i64 b, .int .i64 q] t)) ⟨n, 0, none⟩ 0 ⟨x, b, q⟩ := by
  subst h
  exact ⟨by simp [Addr.add], by simp [Addr.add], by simp [Addr.add]⟩

theorem AcAt.drew {w : World} {ad : Addr} {j : Nat} {a : Ac} (h : AcAt w ad j a) : AcAt w.drew ad j a := h.keep fun _ _ => rfl

set_option maxRecDepth 100000 in
set_option maxHeartbeats 8000000 in
theorem accounts_curs (CA HA LA : Option Addr) (cl cc hl hc ll lc : Nat) (cs hs ls : List Nat) (w : World) (hrc : Rd .u8 w CA cl (ints cs)) (hrh : Rd .u32 w HA hl (ints hs)) (hrl : Rd .u8 w LA ll (ints ls))
    (hcs : ∀ x ∈ cs, x < 256) (hhs : ∀ x ∈ hs, x < 4294967296) (hls : ∀ x ∈ ls, x < 256) (h1 : cl ≤ 9223372036854775807) (h2 : hl ≤ 9223372036854775807) (h3 : ll ≤ 9223372036854775807) :
    Calls Tryd.prog 9 #[.agg #[.slice CA cl cc, .slice HA hl hc, .slice LA ll lc]] w (BookResC cl cs hs ls w) := by
  have hmk := run_make_nine
  obtain ⟨wb, hwb⟩ : ∃ W, W = w.alloc (.cells #[.slice CA cl cc, .slice HA hl hc, .slice LA ll lc] 25) := ⟨_, rfl⟩
  have hzb : wb.heap.size = w.heap.size + 1 := by rw [hwb]; simp
  have hbb : Below w.heap.size w wb := by rw [hwb]; exact (Below.refl _ _).alloc (Nat.le_refl _) _
  have k0 : wb.cell? ⟨w.heap.size, 0, none⟩ = some (.slice CA cl cc) := by rw [hwb]; simp
  have k1 : wb.cell? ⟨w.heap.size, 1, none⟩ = some (.slice HA hl hc) := by rw [hwb]; simp
  have k2 : wb.cell? ⟨w.heap.size, 2, none⟩ = some (.slice LA ll lc) := by rw [hwb]; simp
  have ho := own_made_acc wb 9 wb.heap.size (by simp only [maxLen]; omega) (Nat.le_refl _)
  have hb0 := (Below.refl wb.heap.size wb).alloc (Nat.le_refl _) (.cells (madeCells #[.int .i64 0, .int .i64 0, .int .i64 0] (9 * 3)) 48)
  have HRC := Lib.hid (hrc.below hbb)
  have HRH := Lib.hid (hrh.below hbb)
  have HRL := Lib.hid (hrl.below hbb)
  have HCS := Lib.hid hcs
  have HHS := Lib.hid hhs
  have HLS := Lib.hid hls
  have HLC : Hid (cs.length = cl) := Lib.hid (by have := hrc.1; rwa [ints_length] at this)
  have HLH : Hid (hs.length = hl) := Lib.hid (by have := hrh.1; rwa [ints_length] at this)
  have HLL : Hid (ls.length = ll) := Lib.hid (by have := hrl.1; rwa [ints_length] at this)
  have HO := Lib.hid ho
  have HB0 := Lib.hid hb0
  have HBB := Lib.hid hbb
  have K0 := Lib.hid k0
  have K1 := Lib.hid k1
  have K2 := Lib.hid k2
  have HWB := Lib.hid hwb
  clear hrc hrh hrl hcs hhs hls ho hb0 hbb k0 k1 k2 hwb
  go_enter Tryd.func9, Tryd.ntmps9
  go_wp2
  clear hmk
  rw [← HWB.out]
  rw [hzb] at HO HB0
  generalize (wb.alloc (.cells (madeCells #[.int .i64 0, .int .i64 0, .int .i64 0] (9 * 3)) 48)) = w0 at *
  go_loopw [11] (fun i wr => ∃ k : Nat, k ≤ 9 ∧ i = .int .i64 (k : Int) ∧ OwnA wr (w.heap.size + 1) (.slice (some ⟨w.heap.size + 1, 0, none⟩) 9 9) (houseTo k) ∧ Below (w.heap.size + 1) wb wr) (fun i _ => 9 - (intOf i).toNat)
  case atStart => exact ⟨0, Nat.zero_le _, rfl, HO.out, HB0.out⟩
  case round =>
    obtain ⟨k, hk, rfl, hown, hbel⟩ := hrel
    by_cases hlt : k < 9
    · obtain ⟨c0, c1, c2⟩ := hown.at_ (houseTo_at k hlt)
      have hf := hown.unfrozen (houseTo_len k hk).symm (k * 3)
      have hset := (hown.set (houseTo_len k hk).symm (houseTo_at k hlt) ((k : Int) / 3)).1
      rw [houseTo_next k hlt] at hset
      have HSET := Lib.hid hset
      have HBEL := Lib.hid hbel
      clear hown hbel hset
      go_wp2
      go_roundw
      case rel => exact ⟨k + 1, by omega, by go_num, HSET.out, HBEL.out.setCell (Nat.le_refl _) _⟩
      case measure => simp [intOf]; omega
    · obtain rfl : k = 9 := by omega
      have kc := hbel.cell (p := ⟨w.heap.size, 0, none⟩) (by simp)
      rw [K0.out] at kc
      have HOWN := Lib.hid hown
      have HBEL := Lib.hid hbel
      clear hown hbel
      go_wp2
      clear kc
      go_loopw [3, 24] (fun v i wr => ∃ (k : Nat) (zs : List Ac), k ≤ cl ∧ k ≤ 8 ∧ i = .int .i64 (k : Int) ∧ OwnA wr (w.heap.size + 1) v zs ∧ BookOk k zs ∧ (CursOf cs k zs ∧ zs = bookTo cs hs ls k) ∧ Below (w.heap.size + 1) wb wr) (fun _ i _ => cl - (intOf i).toNat)
      case atStart => exact ⟨0, house, Nat.zero_le _, Nat.zero_le _, rfl, HOWN.out, book_zero, ⟨fun j hj => absurd hj (Nat.not_lt_zero _), rfl⟩, HBEL.out⟩
      case round =>
        clear HOWN HBEL hlt
        obtain ⟨k, zs, hk, hk8, rfl, hown, hbook, hcurs, hbel⟩ := hrel
        have hsz := hbel.size
        have hzl := hbook.len
        obtain ⟨g, cap, hv, hg1, hg2, hnc, hcm⟩ := hown.open_ (by omega)
        obtain ⟨n, hn⟩ : ∃ n, zs.length = n := ⟨_, rfl⟩
        rw [hn] at hv hnc hzl
        subst hv
        have kc := hbel.cell (p := ⟨w.heap.size, 0, none⟩) (by simp)
        have kh := hbel.cell (p := ⟨w.heap.size, 1, none⟩) (by simp)
        have kl := hbel.cell (p := ⟨w.heap.size, 2, none⟩) (by simp)
        rw [K0.out] at kc
        rw [K1.out] at kh
        rw [K2.out] at kl
        have hbw : Below wb.heap.size wb wr := hbel.mono (by omega)
        have HOWN := Lib.hid hown
        have HBOOK := Lib.hid hbook
        have HCURS := Lib.hid hcurs
        have HBEL := Lib.hid hbel
        have HBW := Lib.hid hbw
        have HN := Lib.hid hn
        clear hown hbook hcurs hbel hbw hn
        have fin : (k = cl ∨ k = 8) → BookResC cl cs hs ls w (.returned (.slice (some ⟨g, 0, none⟩) n cap)) wr := fun h => ⟨_, zs, k, rfl, HOWN.out.less (by omega), hk8, h, HBOOK.out, ⟨HCURS.out.1, hk, HCURS.out.2⟩, HBB.out.trans (HBEL.out.mono (by omega))⟩
        have FIN := Lib.hid fin
        clear fin
        by_cases hlt : k < cl
        · obtain ⟨ax, rfl, hcell⟩ := (HRC.out.below HBW.out).at_ hlt
          rw [ints_getD] at hcell
          obtain ⟨c, hc⟩ : ∃ c, cs.getD k 0 = c := ⟨_, rfl⟩
          have hc8 : c < 256 := by
            have hj : k < cs.length := by rw [HLC.out]; exact hlt
            rw [← hc, show cs.getD k 0 = cs[k] by simp [List.getD, hj]]
            exact HCS.out _ (List.getElem_mem hj)
          rw [hc] at hcell
          have HCC := Lib.hid hc
          clear hc
          by_cases hk7 : k = 8
          · have hk8' : (k == 8) = true := by simp [hk7]
            have hk8'' : ((k : Int) == 8) = true := by simp; omega
            have HK7 := Lib.hid hk7
            clear hk7
            go_wp2
            go_ret
            exact FIN.out (.inr HK7.out)
          · obtain ⟨x, hx⟩ : ∃ x : Nat, (c : Int) % 3 = (x : Int) := ⟨c % 3, by omega⟩
            obtain ⟨m, hm⟩ : ∃ m : Nat, 3 * (x : Int) = (m : Int) := ⟨3 * x, by omega⟩
            have hx2 : x ≤ 2 := by omega
            have hm6 : m ≤ 6 := by omega
            have HX := Lib.hid hx
            have hn9 : 9 ≤ n := by omega
            have hk8' : ((k : Int) == 8) = false := by simp; omega
            have HZL := Lib.hid hzl
            have hw1 : w.heap.size < wr.heap.size := by omega
            have hw2 : ¬ w.heap.size = wr.heap.size := by omega
            have hk7' : k ≤ 7 := by omega
            clear hzl hk7
            obtain ⟨y, hy, hy1, hy2⟩ := HBOOK.out.house m (by omega)
            rw [show (m : Int) / 3 = (x : Int) by omega] at hy
            have hy3 : -800000 ≤ y := by omega
            obtain ⟨d0, d1, d2⟩ := HOWN.out.at_ hy
            have hf := HOWN.out.unfrozen HN.out.symm (m * 3 + 1)
            have HY := Lib.hid hy
            have HM := Lib.hid hm
            clear d0 d2 hy hy1
            by_cases hh : k < hl
            · by_cases hl' : k < ll
              · obtain ⟨ay, rfl, hcellh⟩ := (HRH.out.below HBW.out).at_ hh
                rw [ints_getD] at hcellh
                have hy4 := World.block_lt_of_cell? wr _ hcellh
                have hy5 : ay.block < wr.heap.size := by rw [add_block] at hy4; exact hy4
                have hy6 : ¬ ay.block = wr.heap.size := by omega
                obtain ⟨h, hh0⟩ : ∃ h, hs.getD k 0 = h := ⟨_, rfl⟩
                have hh8 : h < 4294967296 := by
                  have hj : k < hs.length := by rw [HLH.out]; exact hh
                  rw [← hh0, show hs.getD k 0 = hs[k] by simp [List.getD, hj]]
                  exact HHS.out _ (List.getElem_mem hj)
                rw [hh0] at hcellh
                have HHV := Lib.hid hh0
                clear hh0
                obtain ⟨b, hb⟩ : ∃ b : Int, (h : Int) % 100000 = b := ⟨_, rfl⟩
                have b0 : 0 ≤ b := by omega
                have b1 : b ≤ 99999 := by omega
                obtain ⟨az, rfl, hcelll⟩ := (HRL.out.below HBW.out).at_ hl'
                rw [ints_getD] at hcelll
                have hz4 := World.block_lt_of_cell? wr _ hcelll
                have hz5 : az.block < wr.heap.size := by rw [add_block] at hz4; exact hz4
                have hz6 : ¬ az.block = wr.heap.size := by omega
                obtain ⟨l, hl0⟩ : ∃ l, ls.getD k 0 = l := ⟨_, rfl⟩
                have hl8 : l < 256 := by
                  have hj : k < ls.length := by rw [HLL.out]; exact hl'
                  rw [← hl0, show ls.getD k 0 = ls[k] by simp [List.getD, hj]]
                  exact HLS.out _ (List.getElem_mem hj)
                rw [hl0] at hcelll
                have HLV := Lib.hid hl0
                clear hl0
                obtain ⟨p, hp⟩ : ∃ p : Int, (l : Int) % 101 = p := ⟨_, rfl⟩
                obtain ⟨p1, p2, p3⟩ := part_le b p b0 (by omega) (by omega) b1
                obtain ⟨t, ht⟩ : ∃ t : Int, b * p = t := ⟨_, rfl⟩
                rw [ht] at p1 p2 p3
                obtain ⟨q, hq⟩ : ∃ q : Int, t / 100 = q := ⟨_, rfl⟩
                rw [hq] at p3
                have q0 : 0 ≤ q := by omega
                have hset := (HOWN.out.set HN.out.symm HY.out (y - b)).2.1
                have HSET := Lib.hid hset
                have hnext := book_next HBOOK.out (c := (x : Int)) (b := b) (l := q) HM.out.symm (by omega) (by omega) (by omega) (by omega) (by omega) HY.out
                have HNEXT := Lib.hid hnext
                have hsl : (zs.set m ⟨(x : Int), y - b, 0⟩).length ≤ 1000000 := by rw [List.length_set, HN.out, HZL.out]; omega
                have HSL := Lib.hid hsl
                have HSTEP := Lib.hid (book_step HCURS.out.2 (by rw [HCC.out]; exact HX.out) HM.out HY.out (show bookBal hs k = b by unfold bookBal; rw [if_pos (by rw [HLH.out]; exact hh), HHV.out]; exact hb) (show bookHeld hs ls k = q by unfold bookHeld bookBal; rw [if_pos (by rw [HLL.out]; exact hl'), if_pos (by rw [HLH.out]; exact hh), HHV.out, HLV.out, hb, hp, ht]; exact hq))
                clear hset hnext hsl
                go_wp2
                go_region
                go_wp2
                go_region
                go_wp2_with (first
                  | (at_builtin
                     refine wpList_append_acc _ rfl (.tmp 77) (.tmp 79) rfl (w.heap.size + 1) (.slice (some ⟨g, 0, none⟩) n cap) _ rfl ((HSET.out.alloc _).alloc _) ⟨wr.heap.size + 1, 0, none⟩ 1 ⟨(x : Int), b, q⟩ rfl (acAt_new _ _ (by simp) _ _ _ _).drew.drew HSL.out (by simp; omega) ?_
                     intro v2 w2 ho2 hg2))
                have hb2 : Below (w.heap.size + 1) wb w2 := Below.grown (((HBEL.out.setCell (p := ⟨g, m * 3 + 1, none⟩) (by simpa using hg1) (.int .i64 (y - b))).alloc (by simp; omega) _).alloc (by simp; omega) _).drew.drew hg2 (by simp; omega) (fun j hj => by have hj' : some g = some j := hj; injection hj' with hj'; omega)
                go_roundw
                case rel => first | exact ⟨k + 1, _, by omega, by omega, by go_num, ho2, HNEXT.out, ⟨curs_next HCURS.out.1 HBOOK.out.len (by omega) (by rw [HCC.out]; exact HX.out), HSTEP.out⟩, hb2⟩ | ((repeat apply Exists.intro); exact ⟨⟨k + 1, _, by omega, by omega, by go_num, ho2, HNEXT.out, ⟨curs_next HCURS.out.1 HBOOK.out.len (by omega) (by rw [HCC.out]; exact HX.out), HSTEP.out⟩, hb2⟩, rfl⟩)
                case measure => simp [intOf]; omega
              · obtain ⟨ay, rfl, hcellh⟩ := (HRH.out.below HBW.out).at_ hh
                rw [ints_getD] at hcellh
                have hy4 := World.block_lt_of_cell? wr _ hcellh
                have hy5 : ay.block < wr.heap.size := by rw [add_block] at hy4; exact hy4
                have hy6 : ¬ ay.block = wr.heap.size := by omega
                obtain ⟨h, hh0⟩ : ∃ h, hs.getD k 0 = h := ⟨_, rfl⟩
                have hh8 : h < 4294967296 := by
                  have hj : k < hs.length := by rw [HLH.out]; exact hh
                  rw [← hh0, show hs.getD k 0 = hs[k] by simp [List.getD, hj]]
                  exact HHS.out _ (List.getElem_mem hj)
                rw [hh0] at hcellh
                have HHV := Lib.hid hh0
                clear hh0
                obtain ⟨b, hb⟩ : ∃ b : Int, (h : Int) % 100000 = b := ⟨_, rfl⟩
                have b0 : 0 ≤ b := by omega
                have b1 : b ≤ 99999 := by omega
                have hset := (HOWN.out.set HN.out.symm HY.out (y - b)).2.1
                have HSET := Lib.hid hset
                have hnext := book_next HBOOK.out (c := (x : Int)) (b := b) (l := 0) HM.out.symm (by omega) (by omega) (by omega) (by omega) (by omega) HY.out
                have HNEXT := Lib.hid hnext
                have hsl : (zs.set m ⟨(x : Int), y - b, 0⟩).length ≤ 1000000 := by rw [List.length_set, HN.out, HZL.out]; omega
                have HSL := Lib.hid hsl
                have HSTEP := Lib.hid (book_step HCURS.out.2 (by rw [HCC.out]; exact HX.out) HM.out HY.out (show bookBal hs k = b by unfold bookBal; rw [if_pos (by rw [HLH.out]; exact hh), HHV.out]; exact hb) (show bookHeld hs ls k = 0 by unfold bookHeld; rw [if_neg (by rw [HLL.out]; exact hl')]))
                clear hset hnext hsl
                go_wp2
                go_region
                go_wp2_with (first
                  | (at_builtin
                     refine wpList_append_acc _ rfl (.tmp 77) (.tmp 79) rfl (w.heap.size + 1) (.slice (some ⟨g, 0, none⟩) n cap) _ rfl ((HSET.out.alloc _).alloc _) ⟨wr.heap.size + 1, 0, none⟩ 1 ⟨(x : Int), b, 0⟩ rfl (acAt_new _ _ (by simp) _ _ _ _).drew HSL.out (by simp; omega) ?_
                     intro v2 w2 ho2 hg2))
                have hb2 : Below (w.heap.size + 1) wb w2 := Below.grown (((HBEL.out.setCell (p := ⟨g, m * 3 + 1, none⟩) (by simpa using hg1) (.int .i64 (y - b))).alloc (by simp; omega) _).alloc (by simp; omega) _).drew hg2 (by simp; omega) (fun j hj => by have hj' : some g = some j := hj; injection hj' with hj'; omega)
                go_roundw
                case rel => first | exact ⟨k + 1, _, by omega, by omega, by go_num, ho2, HNEXT.out, ⟨curs_next HCURS.out.1 HBOOK.out.len (by omega) (by rw [HCC.out]; exact HX.out), HSTEP.out⟩, hb2⟩ | ((repeat apply Exists.intro); exact ⟨⟨k + 1, _, by omega, by omega, by go_num, ho2, HNEXT.out, ⟨curs_next HCURS.out.1 HBOOK.out.len (by omega) (by rw [HCC.out]; exact HX.out), HSTEP.out⟩, hb2⟩, rfl⟩)
                case measure => simp [intOf]; omega
            · by_cases hl' : k < ll
              · obtain ⟨az, rfl, hcelll⟩ := (HRL.out.below HBW.out).at_ hl'
                rw [ints_getD] at hcelll
                have hz4 := World.block_lt_of_cell? wr _ hcelll
                have hz5 : az.block < wr.heap.size := by rw [add_block] at hz4; exact hz4
                have hz6 : ¬ az.block = wr.heap.size := by omega
                obtain ⟨l, hl0⟩ : ∃ l, ls.getD k 0 = l := ⟨_, rfl⟩
                have hl8 : l < 256 := by
                  have hj : k < ls.length := by rw [HLL.out]; exact hl'
                  rw [← hl0, show ls.getD k 0 = ls[k] by simp [List.getD, hj]]
                  exact HLS.out _ (List.getElem_mem hj)
                rw [hl0] at hcelll
                have HLV := Lib.hid hl0
                clear hl0
                obtain ⟨p, hp⟩ : ∃ p : Int, (l : Int) % 101 = p := ⟨_, rfl⟩
                have hset := (HOWN.out.set HN.out.symm HY.out (y)).2.1
                have HSET := Lib.hid hset
                have hnext := book_next HBOOK.out (c := (x : Int)) (b := 0) (l := 0) HM.out.symm (by omega) (by omega) (by omega) (by omega) (by omega) HY.out
                rw [Int.sub_zero] at hnext
                have HNEXT := Lib.hid hnext
                have hsl : (zs.set m ⟨(x : Int), y, 0⟩).length ≤ 1000000 := by rw [List.length_set, HN.out, HZL.out]; omega
                have HSL := Lib.hid hsl
                have HSTEP := Lib.hid (book_step HCURS.out.2 (by rw [HCC.out]; exact HX.out) HM.out HY.out (show bookBal hs k = 0 by unfold bookBal; rw [if_neg (by rw [HLH.out]; exact hh)]) (show bookHeld hs ls k = 0 by unfold bookHeld bookBal; rw [if_pos (by rw [HLL.out]; exact hl'), if_neg (by rw [HLH.out]; exact hh)]; simp))
                rw [Int.sub_zero] at HSTEP
                clear hset hnext hsl
                go_wp2
                go_region
                go_wp2
                go_region
                go_wp2_with (first
                  | (at_builtin
                     refine wpList_append_acc _ rfl (.tmp 77) (.tmp 79) rfl (w.heap.size + 1) (.slice (some ⟨g, 0, none⟩) n cap) _ rfl ((HSET.out.alloc _).alloc _) ⟨wr.heap.size + 1, 0, none⟩ 1 ⟨(x : Int), 0, 0⟩ rfl (acAt_new _ _ (by simp) _ _ _ _).drew.drew HSL.out (by simp; omega) ?_
                     intro v2 w2 ho2 hg2))
                have hb2 : Below (w.heap.size + 1) wb w2 := Below.grown (((HBEL.out.setCell (p := ⟨g, m * 3 + 1, none⟩) (by simpa using hg1) (.int .i64 (y))).alloc (by simp; omega) _).alloc (by simp; omega) _).drew.drew hg2 (by simp; omega) (fun j hj => by have hj' : some g = some j := hj; injection hj' with hj'; omega)
                go_roundw
                case rel => first | exact ⟨k + 1, _, by omega, by omega, by go_num, ho2, HNEXT.out, ⟨curs_next HCURS.out.1 HBOOK.out.len (by omega) (by rw [HCC.out]; exact HX.out), HSTEP.out⟩, hb2⟩ | ((repeat apply Exists.intro); exact ⟨⟨k + 1, _, by omega, by omega, by go_num, ho2, HNEXT.out, ⟨curs_next HCURS.out.1 HBOOK.out.len (by omega) (by rw [HCC.out]; exact HX.out), HSTEP.out⟩, hb2⟩, rfl⟩)
                case measure => simp [intOf]; omega
              · have hset := (HOWN.out.set HN.out.symm HY.out (y)).2.1
                have HSET := Lib.hid hset
                have hnext := book_next HBOOK.out (c := (x : Int)) (b := 0) (l := 0) HM.out.symm (by omega) (by omega) (by omega) (by omega) (by omega) HY.out
                rw [Int.sub_zero] at hnext
                have HNEXT := Lib.hid hnext
                have hsl : (zs.set m ⟨(x : Int), y, 0⟩).length ≤ 1000000 := by rw [List.length_set, HN.out, HZL.out]; omega
                have HSL := Lib.hid hsl
                have HSTEP := Lib.hid (book_step HCURS.out.2 (by rw [HCC.out]; exact HX.out) HM.out HY.out (show bookBal hs k = 0 by unfold bookBal; rw [if_neg (by rw [HLH.out]; exact hh)]) (show bookHeld hs ls k = 0 by unfold bookHeld; rw [if_neg (by rw [HLL.out]; exact hl')]))
                rw [Int.sub_zero] at HSTEP
                clear hset hnext hsl
                go_wp2
                go_region
                go_wp2_with (first
                  | (at_builtin
                     refine wpList_append_acc _ rfl (.tmp 77) (.tmp 79) rfl (w.heap.size + 1) (.slice (some ⟨g, 0, none⟩) n cap) _ rfl ((HSET.out.alloc _).alloc _) ⟨wr.heap.size + 1, 0, none⟩ 1 ⟨(x : Int), 0, 0⟩ rfl (acAt_new _ _ (by simp) _ _ _ _).drew HSL.out (by simp; omega) ?_
                     intro v2 w2 ho2 hg2))
                have hb2 : Below (w.heap.size + 1) wb w2 := Below.grown (((HBEL.out.setCell (p := ⟨g, m * 3 + 1, none⟩) (by simpa using hg1) (.int .i64 (y))).alloc (by simp; omega) _).alloc (by simp; omega) _).drew hg2 (by simp; omega) (fun j hj => by have hj' : some g = some j := hj; injection hj' with hj'; omega)
                go_roundw
                case rel => first | exact ⟨k + 1, _, by omega, by omega, by go_num, ho2, HNEXT.out, ⟨curs_next HCURS.out.1 HBOOK.out.len (by omega) (by rw [HCC.out]; exact HX.out), HSTEP.out⟩, hb2⟩ | ((repeat apply Exists.intro); exact ⟨⟨k + 1, _, by omega, by omega, by go_num, ho2, HNEXT.out, ⟨curs_next HCURS.out.1 HBOOK.out.len (by omega) (by rw [HCC.out]; exact HX.out), HSTEP.out⟩, hb2⟩, rfl⟩)
                case measure => simp [intOf]; omega
        · go_wp2
          go_ret
          exact FIN.out (.inl (by omega))
theorem accounts_any (CA HA LA : Option Addr) (cl cc hl hc ll lc : Nat) (cs hs ls : List Nat) (w : World) (hrc : Rd .u8 w CA cl (ints cs)) (hrh : Rd .u32 w HA hl (ints hs)) (hrl : Rd .u8 w LA ll (ints ls))
    (hcs : ∀ x ∈ cs, x < 256) (hhs : ∀ x ∈ hs, x < 4294967296) (hls : ∀ x ∈ ls, x < 256) (h1 : cl ≤ 9223372036854775807) (h2 : hl ≤ 9223372036854775807) (h3 : ll ≤ 9223372036854775807) :
    Calls Tryd.prog 9 #[.agg #[.slice CA cl cc, .slice HA hl hc, .slice LA ll lc]] w (BookRes w) :=
  (accounts_curs CA HA LA cl cc hl hc ll lc cs hs ls w hrc hrh hrl hcs hhs hls h1 h2 h3).mono fun _ _ ⟨v, zs, k, h1, h2, h3, _, h4, _, h5⟩ => ⟨v, zs, k, h1, h2, h3, h4, h5⟩
end Go.Proofs.YtbneohglblkmeaaDoor
