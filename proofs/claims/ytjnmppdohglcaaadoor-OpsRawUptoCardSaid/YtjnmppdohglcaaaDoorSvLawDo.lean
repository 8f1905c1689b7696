/-
  The law's do over a state that is a value of letters.
-/
import Derived.Test.YtjnmppdohglcaaaDoorOpsLawDo
import Derived.Test.YtjnmppdohglcaaaDoorGrG
namespace Go.Proofs.YtjnmppdohglcaaaDoor
open Go Go.RowKit
set_option linter.unusedVariables false

theorem sv_lawdo (V : Sv) (T : St) (r : Rq) (w : World) (h : SvAt w V T) (hh : HasErr w) (hrt : rightB T.acs = true) (h9 : 9 ≤ T.acs.length) (h64 : T.acs.length ≤ 64) (hq : T.pys.length ≤ 2000000) :
    Calls Tryd.prog 9 #[V.val, r.val] w fun e w' => ∃ V' : Sv, e = .returned (.tuple #[V'.val, .agg #[.int .i64 (opE T r), .int .i64 (opI T r)]]) ∧ SvAt w' V' (opS T r) ∧ Below w.heap.size w w' := by
  rw [← h.val_eq]
  exact (lawdo_any T (.slice V.X V.xn V.xc) (.slice V.Y V.yn V.yc) V.A V.c V.B V.d r w h.st.re ⟨_, _, _, rfl⟩ ⟨_, _, _, rfl⟩ h9 h64 hq hh hrt).mono fun e w' ⟨A, c, B, d, he, hs, hb⟩ => by
    obtain ⟨V', hv, h'⟩ := sv_of hs (h.sx.below hb) (h.sy.below hb)
    exact ⟨V', by rw [he, hv], h', hb⟩
end Go.Proofs.YtjnmppdohglcaaaDoor
