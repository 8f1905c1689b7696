/-
  money.Sum by its contract; and the statement MoneySum by its walk: of every []int it returns true.
-/
import Derived.Test.YtbdjcmjjicpcaaaDoorMoney
import Derived.Test.YtbdjcmjjicpcaaaDoorBase
import Derived.Test.YtbdjcmjjicpcaaaDoorSumPlain
import Derived.Lib.Hide
import Derived.LoopTactic
namespace Go.Proofs.YtbdjcmjjicpcaaaDoor
open Go.RowKit

/-- What Sum hands back. -/
def sumRes : Option Int → Value
  | some t => .tuple #[.int .i64 t, .nilIface]
  | none => .tuple #[.int .i64 0, eno 4]
def SumPost (w : World) (s : Option Int) (e : Ending) (w' : World) : Prop := e = .returned (sumRes s) ∧ w = w'

set_option maxHeartbeats 4000000 in
theorem sum_row (x : Addr) (len cap : Nat) (zs : List Int) (w : World) (hl : len ≤ cap) (hm : cap ≤ maxLen) (hz : zs.length = cap)
    (hc : ∀ i, i < zs.length → w.cell? (x.add i) = some (.int .i64 (zs.getD i 0))) :
    Calls Tryd.prog 14 #[.slice (some x) len cap] w (SumPost w (sumTo zs len)) := by
  unfold maxLen at hm
  have HC := Lib.hid hc
  have HZ := Lib.hid hz
  clear hc hz
  go_enter Tryd.func14, Tryd.ntmps14
  go_wp2
  go_loop [4, 11] (fun t i => ∃ (k : Nat) (s : Int), k ≤ len ∧ i = .int .i64 k ∧ t = .int .i64 s ∧ -1125899906842624 ≤ s ∧ s ≤ 1125899906842624 ∧ sumTo zs k = some s) (fun _ i => len - (intOf i).toNat)
  case atStart => exact ⟨0, 0, Nat.zero_le _, rfl, rfl, by omega, by omega, sumTo_zero zs⟩
  case round =>
    obtain ⟨k, s, hk, rfl, rfl, hs1, hs2, hs⟩ := hrel
    have HS := Lib.hid hs
    clear hs
    by_cases hlt : k < len
    · obtain ⟨n, hn⟩ : ∃ n, n = zs.getD k 0 := ⟨_, rfl⟩
      have hcell := HC.out k (by rw [HZ.out]; omega)
      rw [← hn] at hcell
      have HN : Hid (sumTo zs (k + 1) = acc (some s) n) := Lib.hid (by rw [sumTo_succ zs k (by rw [HZ.out]; omega), HS.out, hn])
      clear hn
      by_cases ha : -1125899906842624 ≤ n ∧ n ≤ 1125899906842624 ∧ -1125899906842624 ≤ s + n ∧ s + n ≤ 1125899906842624
      · have HA := Lib.hid (HN.out.trans (acc_some s n ha))
        obtain ⟨a1, a2, a3, a4⟩ := ha
        go_wp2_with fail
        refine (add_ok _ _ _ hs1 hs2 a1 a2 a3 a4).mono ?_
        rintro e w' ⟨rfl, rfl⟩
        go_wp2
        go_round
        case rel => exact ⟨k + 1, s + n, by omega, by go_num, rfl, a3, a4, HA.out⟩
        case measure => simp [intOf]; omega
      · have HA := Lib.hid (HN.out.trans (acc_none s n ha))
        go_wp2_with fail
        refine (add_no _ _ _ (by omega)).mono ?_
        rintro e w' ⟨rfl, rfl⟩
        clear ha
        go_wp2
        go_ret2
        have hno := sumTo_none_le zs (k + 1) len (by omega) (by rw [HZ.out]; omega) HA.out
        exact ⟨by rw [hno]; rfl, rfl⟩
    · go_wp2
      go_ret2
      have hkl : k = len := by omega
      have hso := HS.out
      rw [hkl] at hso
      exact ⟨by rw [hso]; rfl, rfl⟩

theorem sum_nil (zs : List Int) (w : World) :
    Calls Tryd.prog 14 #[.slice none 0 0] w (SumPost w (sumTo zs 0)) := by
  go_enter Tryd.func14, Tryd.ntmps14
  go_wp2
  go_loop [4, 11] (fun t i => i = .int .i64 0 ∧ t = .int .i64 0) (fun _ _ => 0)
  case atStart => exact ⟨rfl, rfl⟩
  case round =>
    obtain ⟨rfl, rfl⟩ := hrel
    go_wp2
    go_ret2
    exact ⟨rfl, rfl⟩

set_option maxHeartbeats 4000000 in
theorem sumlaw_row (x : Addr) (len cap : Nat) (zs : List Int) (w : World) (hh : HasErr w) (hl : len ≤ cap) (hm : cap ≤ maxLen) (hz : zs.length = cap)
    (hc : ∀ i, i < zs.length → w.cell? (x.add i) = some (.int .i64 (zs.getD i 0))) :
    Calls Tryd.prog 4 #[.slice (some x) len cap] w fun e w' => e = .returned (.bool true) ∧ Below w.heap.size w w' := by
  have hm' := hm
  unfold maxLen at hm
  have HC := Lib.hid hc
  have HZ := Lib.hid hz
  clear hc hz
  go_enter Tryd.func4, Tryd.ntmps4
  go_wp2_with fail
  refine (awake_ok _ hh).mono ?_
  rintro e w1 ⟨rfl, hb⟩
  have hh1 := hh.below hb
  have HC1 : Hid (∀ i, i < zs.length → w1.cell? (x.add i) = some (.int .i64 (zs.getD i 0))) := Lib.hid (fun i hi => by
    have h := HC.out i hi
    rw [hb.cell (block_lt_of_cell h)]; exact h)
  clear HC hh
  go_wp2
  go_loop [3, 4, 13] (fun t b i => ∃ (k : Nat) (s : Int) (bad : Bool), k ≤ len ∧ i = .int .i64 k ∧ t = .int .i64 s ∧ b = .bool bad ∧ -1125899906842624 ≤ s ∧ s ≤ 1125899906842624 ∧ sumTo zs k = (if bad then none else some s)) (fun _ _ i => len - (intOf i).toNat)
  case atStart => exact ⟨0, 0, false, Nat.zero_le _, rfl, rfl, rfl, by omega, by omega, sumTo_zero zs⟩
  case round =>
    obtain ⟨k, s, bad, hk, rfl, rfl, rfl, hs1, hs2, hs⟩ := hrel
    have HS := Lib.hid hs
    clear hs
    by_cases hlt : k < len
    · obtain ⟨n, hn⟩ : ∃ n, n = zs.getD k 0 := ⟨_, rfl⟩
      have hcell := HC1.out k (by rw [HZ.out]; omega)
      rw [← hn] at hcell
      have HN : Hid (sumTo zs (k + 1) = acc (if bad then none else some s) n) := Lib.hid (by rw [sumTo_succ zs k (by rw [HZ.out]; omega), HS.out, hn])
      clear hn HS
      cases bad with
      | true =>
        go_wp2
        go_round
        case rel => exact ⟨k + 1, s, true, by omega, by go_num, rfl, rfl, hs1, hs2, HN.out⟩
        case measure => simp [intOf]; omega
      | false =>
        by_cases a1 : -1125899906842624 ≤ n
        · by_cases a2 : n ≤ 1125899906842624
          · by_cases a3 : -1125899906842624 ≤ s + n
            · by_cases a4 : s + n ≤ 1125899906842624
              · have HA := Lib.hid (HN.out.trans (acc_some s n ⟨a1, a2, a3, a4⟩))
                clear HN
                go_wp2
                go_round
                case rel => exact ⟨k + 1, s + n, false, by omega, by go_num, rfl, rfl, a3, a4, HA.out⟩
                case measure => simp [intOf]; omega
              · have HA := Lib.hid (HN.out.trans (acc_none s n (by omega)))
                clear HN
                go_wp2
                go_round
                case rel => exact ⟨k + 1, s, true, by omega, by go_num, rfl, rfl, hs1, hs2, HA.out⟩
                case measure => simp [intOf]; omega
            · have HA := Lib.hid (HN.out.trans (acc_none s n (by omega)))
              clear HN
              go_wp2
              go_round
              case rel => exact ⟨k + 1, s, true, by omega, by go_num, rfl, rfl, hs1, hs2, HA.out⟩
              case measure => simp [intOf]; omega
          · have HA := Lib.hid (HN.out.trans (acc_none s n (by omega)))
            clear HN
            go_wp2
            go_round
            case rel => exact ⟨k + 1, s, true, by omega, by go_num, rfl, rfl, hs1, hs2, HA.out⟩
            case measure => simp [intOf]; omega
        · have HA := Lib.hid (HN.out.trans (acc_none s n (by omega)))
          clear HN
          go_wp2
          go_round
          case rel => exact ⟨k + 1, s, true, by omega, by go_num, rfl, rfl, hs1, hs2, HA.out⟩
          case measure => simp [intOf]; omega
    · have hkl : k = len := by omega
      have HL : Hid (sumTo zs len = (if bad then none else some s)) := Lib.hid (by rw [← hkl]; exact HS.out)
      clear hkl HS
      go_wp2_with fail
      refine (sum_row x len cap zs w1 hl hm' HZ.out HC1.out).mono ?_
      rintro e w2 ⟨rfl, rfl⟩
      cases bad with
      | true =>
        have hr : sumRes (sumTo zs len) = .tuple #[.int .i64 0, eno 4] := by rw [HL.out]; rfl
        rw [hr]
        clear hr
        go_wp2_with fail
        refine (number_err _ _ hh1).mono ?_
        rintro e w3 ⟨rfl, hb2⟩
        go_wp2
        go_ret
        exact ⟨rfl, hb.trans (hb2.mono hb.size)⟩
      | false =>
        have hr : sumRes (sumTo zs len) = .tuple #[.int .i64 s, .nilIface] := by rw [HL.out]; rfl
        rw [hr]
        clear hr
        go_wp2
        go_ret
        exact ⟨rfl, hb⟩

set_option maxHeartbeats 1000000 in
theorem sumlaw_nil (w : World) (hh : HasErr w) :
    Calls Tryd.prog 4 #[.slice none 0 0] w fun e w' => e = .returned (.bool true) ∧ Below w.heap.size w w' := by
  go_enter Tryd.func4, Tryd.ntmps4
  go_wp2_with fail
  refine (awake_ok _ hh).mono ?_
  rintro e w1 ⟨rfl, hb⟩
  go_wp2
  go_loop [3, 4, 13] (fun t b i => i = .int .i64 0 ∧ t = .int .i64 0 ∧ b = .bool false) (fun _ _ _ => 0)
  case atStart => exact ⟨rfl, rfl, rfl⟩
  case round =>
    obtain ⟨rfl, rfl, rfl⟩ := hrel
    go_wp2_with fail
    refine (sum_nil [] _).mono ?_
    rintro e w2 ⟨rfl, rfl⟩
    have hr : sumRes (sumTo [] 0) = .tuple #[.int .i64 0, .nilIface] := rfl
    rw [hr]
    clear hr
    go_wp2
    go_ret
    exact ⟨rfl, hb⟩

theorem moneySum_walk (w : World) (a : Option Addr) (len cap : Nat) (zs : List Int) (h : IsRow .i64 w a len cap zs) (hh : HasErr w) :
    Calls Tryd.prog 4 #[.slice a len cap] w fun e w' => e = .returned (.bool true) ∧ Below w.heap.size w w' := by
  rcases h with ⟨rfl, rfl, rfl, rfl⟩ | ⟨x, rfl, hl, hm, hz, hc, _⟩
  · exact sumlaw_nil w hh
  · exact sumlaw_row x len cap zs w hh hl hm hz hc
end Go.Proofs.YtbdjcmjjicpcaaaDoor
