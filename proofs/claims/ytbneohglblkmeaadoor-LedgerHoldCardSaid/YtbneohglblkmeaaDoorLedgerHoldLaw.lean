/-
  The statement LedgerHold by its walk.
-/
import Derived.Test.YtbneohglblkmeaaDoorLedgerHold0
import Derived.Test.YtbneohglblkmeaaDoorLedgerHold1
import Derived.Test.YtbneohglblkmeaaDoorLedgerHold2
import Derived.Test.YtbneohglblkmeaaDoorLedgerHold3
import Derived.Test.YtbneohglblkmeaaDoorLedgerHold4
namespace Go.Proofs.YtbneohglblkmeaaDoor
open Go Go.RowKit
set_option linter.unusedVariables false

set_option maxRecDepth 100000 in
set_option maxHeartbeats 8000000 in
theorem ledgerHold_walk (w : World) (v : Value) (hv : BookAt w v) (K : Int) (wK : (Lit.int .i8 K).wf = true) (X : Int) (wX : (Lit.int .i64 X).wf = true) (hh : HasErr w) :
    Calls Tryd.prog 4 #[v, .int .i8 K, .int .i64 X] w fun e w' => e = .returned (.bool true) ∧ Below w.heap.size w w' := by
  obtain ⟨zs, kk, hbk, hk8, hbook⟩ := book_is hv
  obtain ⟨CA, HA, LA, cl, cc, hl, hc, ll, lc, cs, hs, ls, rfl, _⟩ := hv.form
  obtain ⟨K0, K1⟩ := i8_in wK
  have hzl := hbk.len
  have hn17 : zs.length ≤ 17 := by omega
  have hn9 : 9 ≤ zs.length := by omega
  by_cases h8 : 8 < K
  · by_cases h9 : K < (zs.length : Int)
    · by_cases hx1 : 1 ≤ X
      · by_cases hx2 : X ≤ 1099511627776
        · obtain ⟨⟨c, b, l⟩, ha⟩ : ∃ a, zs[K.toNat]? = some a := ⟨_, List.getElem?_eq_getElem (by omega)⟩
          by_cases hx : wrap64 (b - l) < X
          · by_cases hy : l < X
            · exact lh_1 w CA HA LA cl cc hl hc ll lc zs _ rfl hn17 hn9 hbook K K0 K1 X hh h8 h9 hx1 hx2 c b l ha hx hy
            · exact lh_2 w CA HA LA cl cc hl hc ll lc zs _ rfl hn17 hn9 hbook K K0 K1 X hh h8 h9 hx1 hx2 c b l ha hx hy
          · by_cases hy : l < X
            · exact lh_3 w CA HA LA cl cc hl hc ll lc zs _ rfl hn17 hn9 hbook K K0 K1 X hh h8 h9 hx1 hx2 c b l ha hx hy
            · exact lh_4 w CA HA LA cl cc hl hc ll lc zs _ rfl hn17 hn9 hbook K K0 K1 X hh h8 h9 hx1 hx2 c b l ha hx hy
        · exact lh_cy w CA HA LA cl cc hl hc ll lc zs _ rfl hn17 hn9 hbook K K0 K1 X hh h8 h9 hx1 hx2
      · exact lh_cx w CA HA LA cl cc hl hc ll lc zs _ rfl hn17 hn9 hbook K K0 K1 X hh h8 h9 hx1
    · by_cases hx1 : 1 ≤ X
      · by_cases hx2 : X ≤ 1099511627776
        · exact lh_bz w CA HA LA cl cc hl hc ll lc zs _ rfl hn17 hn9 hbook K K0 K1 X hh h8 h9 hx1 hx2
        · exact lh_by w CA HA LA cl cc hl hc ll lc zs _ rfl hn17 hn9 hbook K K0 K1 X hh h8 h9 hx1 hx2
      · exact lh_bx w CA HA LA cl cc hl hc ll lc zs _ rfl hn17 hn9 hbook K K0 K1 X hh h8 h9 hx1
  · by_cases hx1 : 1 ≤ X
    · by_cases hx2 : X ≤ 1099511627776
      · exact lh_az w CA HA LA cl cc hl hc ll lc zs _ rfl hn17 hn9 hbook K K0 K1 X hh h8 hx1 hx2
      · exact lh_ay w CA HA LA cl cc hl hc ll lc zs _ rfl hn17 hn9 hbook K K0 K1 X hh h8 hx1 hx2
    · exact lh_ax w CA HA LA cl cc hl hc ll lc zs _ rfl hn17 hn9 hbook K K0 K1 X hh h8 hx1
end Go.Proofs.YtbneohglblkmeaaDoor
