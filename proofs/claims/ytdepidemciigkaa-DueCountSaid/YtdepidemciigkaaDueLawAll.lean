/-
  The law's all by its contract: the open ones, in order.
-/
import Derived.Test.YtdepidemciigkaaDuePlain
import Derived.Test.YtdepidemciigkaaDueTaken
import Derived.Test.YtdepidemciigkaaPaySlice
import Derived.Test.YtdepidemciigkaaInts
import Derived.BigQuiet
import Derived.Deep.QuietTactic
import Derived.LoopTactic
import Derived.IntWalk
import Derived.WalkSpells
namespace Go.Proofs.Ytdepidemciigkaa
open Go Go.RowKit
set_option linter.unusedVariables false

theorem info_num : (Try.prog.info? 3).map (fun i => (i.zero, i.size, i.bytes)) = some (some (.int .i64 0), 1, 8) := by kernel_rfl
/-- How long a slice is. -/
def vlen : Value → Nat
  | .slice _ n _ => n
  | _ => 0
theorem own_vlen {e : TypeId} {k : IntKind} {w : World} {b n : Nat} {v : Value} {zs : List Int} (h : Own e k w b v n zs) : vlen v = n := by
  obtain ⟨A, c, rfl, _⟩ := h.form
  rfl
theorem getD_of {ps : List Py} {k : Nat} {p : Py} (h : ps[k]? = some p) : ps.getD k Py.zero = p := by simp [List.getD, h]

set_option maxRecDepth 100000 in
set_option maxHeartbeats 4000000 in
theorem dall_any (A : Option Addr) (n cap : Nat) (ps : List Py) (w : World) (hl : ps.length = n) (hr : RdS pays w A ps) (hn : n ≤ 1000000) :
    Calls Try.prog 13 #[.slice A n cap] w fun e w' => ∃ v out, e = .returned v ∧ DueIs ps out ∧ Own 3 .i64 w' w.heap.size v out.length out ∧ Below w.heap.size w w' := by
  have hmk := run_make_flags n (by omega)
  have HR := Lib.hid hr
  have HL := Lib.hid hl
  have HT0 := Lib.hid (TkAt.made w n)
  have HD0 := Lib.hid (hl ▸ DueTo.none ps)
  have HB0 := Lib.hid ((Below.refl w.heap.size w).alloc (Nat.le_refl _) (.cells (madeCells #[.bool false] n) 4))
  clear hr hl
  go_enter Try.func13, Try.ntmps13
  go_wp2
  go_loopw [4] (fun v wr => ∃ (tk : List Bool) (out : List Int), Own 3 .i64 wr (w.heap.size + 1) v out.length out ∧ TkAt wr w.heap.size tk ∧ DueTo ps tk out ∧ Below w.heap.size w wr ∧ w.heap.size + 1 ≤ wr.heap.size) (fun v _ => n - vlen v)
  case atStart => exact ⟨List.replicate n false, [], Own.nil, HT0.out, HD0.out, HB0.out, by simp⟩
  case round =>
    obtain ⟨tk, out, hown, htk, hdue, hbel, hsz⟩ := hrel
    have HOWN := Lib.hid hown
    have HTK := Lib.hid htk
    have HDUE := Lib.hid hdue
    have HBEL := Lib.hid hbel
    have htl : tk.length = n := hdue.len.trans HL.out
    have hol : out.length ≤ n := by rw [← HL.out]; exact hdue.short
    have HVL := Lib.hid (own_vlen hown)
    clear hown htk hdue hbel HT0 HD0 HB0
    obtain ⟨w0, hw0⟩ : ∃ w0, w0 = wr := ⟨_, rfl⟩
    rw [← hw0] at HOWN HTK HBEL hsz
    go_wp2
    go_loopw [5, 13] (fun b i wi => ∃ (k : Nat) (bb : Int), k ≤ n ∧ i = .int .i64 (k : Int) ∧ b = .int .i64 bb ∧ BestTo ps tk k bb ∧ Below w0.heap.size w0 wi) (fun _ i _ => n - (intOf i).toNat)
    case atStart => exact ⟨0, -1, Nat.zero_le _, rfl, rfl, BestTo.none _ _, by rw [hw0]; exact Below.refl _ _⟩
    case round =>
      obtain ⟨k, bb, hk, rfl, rfl, hbest, hbi⟩ := hrel
      have HBEST := Lib.hid hbest
      have HBI := Lib.hid hbi
      have hsi := hbi.size
      clear hbest hbi
      by_cases hlt : k < n
      · obtain ⟨p, hp⟩ : ∃ p, ps[k]? = some p := ⟨_, List.getElem?_eq_getElem (by rw [HL.out]; exact hlt)⟩
        have HRI := Lib.hid (HR.out.below (HBEL.out.trans (HBI.out.mono HBEL.out.size)))
        obtain ⟨ad, rfl, hat⟩ := HRI.out.at_ hp
        obtain ⟨c0, c1, c2, c3, c4, c5, c6, c7⟩ := pay_cells hat
        have hpk := getD_of hp
        have HTI := Lib.hid (HTK.out.below HBI.out (by omega))
        have hlt0 : w.heap.size < wr.heap.size := by omega
        have t0 := HTI.out.cell (k := k) (by omega)
        obtain ⟨t, ht⟩ : ∃ t, tk.getD k false = t := ⟨_, rfl⟩
        rw [ht] at t0
        have t1 : wr.cell? ((⟨w.heap.size, 0, none⟩ : Addr).add k) = some (.bool t) := by rw [add_flat]; exact t0
        clear hat hp
        obtain ⟨pf, pd, pa, pc, pr, pg, pt, ps'⟩ := p
        dsimp only at c0 c1 c2 c3 c4 c5 c6 c7
        have HPK := Lib.hid hpk
        clear hpk
        by_cases hs : ps' = 0
        · have q1 := eqT hs
          cases t
          · by_cases hb0 : bb = -1
            · subst hb0
              have HN := Lib.hid (HBEST.out.first (by rw [HPK.out]; exact hs) ht)
              clear hs ht
              go_wp2
              go_quiet (fail)
              go_wp2
              go_roundw
              case rel => exact ⟨k + 1, (k : Int), by omega, by go_num, rfl, HN.out, by first | exact below_drewN (HBI.out.alloc hsi _) _ | exact (HBI.out.alloc hsi _)⟩
              case measure => simp [intOf]; omega
            · obtain ⟨i, hbi⟩ : ∃ i : Nat, bb = (i : Int) := by
                rcases HBEST.out with ⟨h, _⟩ | ⟨i, h, _⟩
                · exact absurd h hb0
                · exact ⟨i, h⟩
              subst hbi
              have hik : i < k := HBEST.out.at_
              have q2 : decide ((i : Int) < 0) = false := decide_eq_false (by omega)
              obtain ⟨p2, hp2⟩ : ∃ p2, ps[i]? = some p2 := ⟨_, List.getElem?_eq_getElem (by rw [HL.out]; omega)⟩
              obtain ⟨_, e2, hat2⟩ := HRI.out.at_ hp2
              obtain rfl := Option.some.inj e2
              obtain ⟨_, _, _, _, _, _, d6, _⟩ := pay_cells hat2
              have HP2 := Lib.hid (getD_of hp2)
              clear hat2 hp2 e2 hb0
              obtain ⟨bf, bd, ba, bc, br, bg, bt, bs⟩ := p2
              dsimp only at d6
              have d6 := (World.cell?_alloc_lt wr (.cells #[.int .i64 pf, .int .i64 pd, .int .i64 pa, .int .i64 pc, .int .i64 pr, .int .i64 pg, .int .i64 pt, .int .i64 ps'] 33) _ (World.block_lt_of_cell? wr _ d6)).trans d6
              by_cases hu : pt < bt
              · have q3 := decide_eq_true hu
                have HN := Lib.hid (HBEST.out.less (by rw [HPK.out]; exact hs) ht (by rw [HPK.out, HP2.out]; exact hu))
                clear hs ht hu
                go_wp2
                go_quiet (fail)
                go_wp2
                go_roundw
                case rel => exact ⟨k + 1, (k : Int), by omega, by go_num, rfl, HN.out, by first | exact below_drewN (HBI.out.alloc hsi _) _ | exact (HBI.out.alloc hsi _)⟩
                case measure => simp [intOf]; omega
              · have q3 := decide_eq_false hu
                have HN := Lib.hid (HBEST.out.more (by rw [HPK.out]; exact hs) (by rw [HPK.out, HP2.out]; exact hu))
                clear hs ht hu
                go_wp2
                go_quiet (fail)
                go_wp2
                go_roundw
                case rel => exact ⟨k + 1, (i : Int), by omega, by go_num, rfl, HN.out, by first | exact below_drewN (HBI.out.alloc hsi _) _ | exact (HBI.out.alloc hsi _)⟩
                case measure => simp [intOf]; omega
          · have HN := Lib.hid (HBEST.out.took ht)
            clear hs ht
            go_wp2
            go_quiet (fail)
            go_wp2
            go_roundw
            case rel => exact ⟨k + 1, bb, by omega, by go_num, rfl, HN.out, by first | exact below_drewN (HBI.out.alloc hsi _) _ | exact (HBI.out.alloc hsi _)⟩
            case measure => simp [intOf]; omega
        · have q1 := eqF hs
          have HN := Lib.hid (HBEST.out.shut (by rw [HPK.out]; exact hs))
          clear hs ht
          go_wp2
          go_quiet (fail)
          go_wp2
          go_roundw
          case rel => exact ⟨k + 1, bb, by omega, by go_num, rfl, HN.out, by first | exact below_drewN (HBI.out.alloc hsi _) _ | exact (HBI.out.alloc hsi _)⟩
          case measure => simp [intOf]; omega
      · obtain rfl : k = n := by omega
        have HB2 := Lib.hid (HBEL.out.trans (HBI.out.mono HBEL.out.size))
        have HO2 := Lib.hid (HOWN.out.below HBI.out)
        have HT2 := Lib.hid (HTK.out.below HBI.out (by omega))
        by_cases hb0 : bb = -1
        · subst hb0
          have HDONE := Lib.hid (HDUE.out.done (by rw [HL.out]; exact HBEST.out))
          go_wp2
          go_ret
          exact ⟨_, _, rfl, HDONE.out, HO2.out.less (by omega), HB2.out⟩
        · obtain ⟨i, hbi⟩ : ∃ i : Nat, bb = (i : Int) := by
            rcases HBEST.out with ⟨h, _⟩ | ⟨i, h, _⟩
            · exact absurd h hb0
            · exact ⟨i, h⟩
          subst hbi
          have hik : i < k := HBEST.out.at_
          have HSTEP := Lib.hid (HDUE.out.step (by rw [HL.out]; exact HBEST.out))
          have t2 := HT2.out.cell (k := i) (by omega)
          have t3 := HT2.out.loose i
          have q2 : decide ((i : Int) < 0) = false := decide_eq_false (by omega)
          have HT3 := Lib.hid (HT2.out.set i)
          have HO3 := Lib.hid (show Own 3 .i64 (wr.setCell ⟨w.heap.size, i, none⟩ (.bool true)) (w.heap.size + 1) _ out.length out from ownsRow_setCell_below HO2.out (a := ⟨w.heap.size, i, none⟩) (by simp) _)
          have hlt0 : w.heap.size < wr.heap.size := by omega
          obtain ⟨m, hm⟩ : ∃ m, out.length = m := ⟨_, rfl⟩
          have hmn : m < k := by
            have h := HSTEP.out.short
            rw [List.length_append, hm, HL.out] at h
            simp at h
            omega
          rw [hm] at HO3 HVL
          have HM := Lib.hid hm
          have HNE := Lib.hid HO3.out.rowLt
          have HB3 := Lib.hid ((HB2.out.setCell (p := ⟨w.heap.size, i, none⟩) (Nat.le_refl _) (.bool true)).alloc (by simp; omega) (.cells #[.int .i64 (i : Int)] 3))
          clear hm HO2 HT2 HB2 HBEST HDUE
          go_wp2_with (at_builtin; refine wpList_append_ints _ rfl (.tmp 50) (.tmp 52) 27 rfl .i64 8 (w.heap.size + 1) 3 Try.underlying27 info_num _ m _ rfl (HO3.out.alloc _) (some ⟨wr.heap.size, 0, none⟩) 1 1 [(i : Int)] rfl (by first | exact Rd.one _ | (have h := Rd.one (k := .i64) (w := wr.setCell ⟨w.heap.size, i, none⟩ (.bool true)) (t := 3) (i : Int); simpa using h)) (by omega) (by omega) (by simp; omega) ?_; intro v' w2 ho2 hg2)
          have HO4 := Lib.hid ho2
          have HG := Lib.hid hg2
          clear ho2 hg2
          go_wp2
          go_roundw
          case rel =>
            refine ⟨tk.set i true, out ++ [(i : Int)], ?_, ?_, HSTEP.out, HB3.out.grown HG.out (by simp; omega) (fun g hg => by have := HNE.out g hg; omega), ?_⟩
            · rw [List.length_append, HM.out]; exact HO4.out
            · exact (HT3.out.alloc _ (by simp; omega)).grown HG.out (fun h => by have := HNE.out _ h; omega) (by simp; omega)
            · have := HG.out.size; simp at this; omega
          case measure =>
            rw [HVL.out, own_vlen HO4.out]
            omega
end Go.Proofs.Ytdepidemciigkaa
