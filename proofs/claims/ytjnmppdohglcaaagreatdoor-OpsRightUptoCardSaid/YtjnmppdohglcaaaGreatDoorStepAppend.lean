/-
  An append to ints of one's own, as one step of a region that draws.
-/
import Derived.Test.YtjnmppdohglcaaaGreatDoorAppendAt
import Derived.Deep.RegionLaw
namespace Go.Proofs.YtjnmppdohglcaaaGreatDoor
open Go Go.RowKit
set_option linter.unusedVariables false

theorem step_append_ints {P : Program} {ops : Array Oper} {o : Oper} {a : Act} {w : World} {K : Act → World → Prop} {Q : Exit → Act → World → Prop} {E : Prop} (hg : o.guard = none) (s x : Operand) (t : TypeId)
    (ho : o.op = .call { callee := .builtin .append, args := #[s, x], argTypes := #[t, t] })
    (k : IntKind) (bytes base : Nat) (e : TypeId) (ht : P.underlying t = some (.slice e))
    (hinfo : (P.info? e).map (fun i => (i.zero, i.size, i.bytes)) = some (some (.int k 0), 1, bytes))
    (v : Value) (n : Nat) (xs : List Int) (hs : a.eval s = v) (hown : Own e k w base v n xs) (A : Option Addr) (m c : Nat) (zs : List Int) (hx : a.eval x = .slice A m c) (hr : Rd k w A m zs)
    (h63 : n + m ≤ 9223372036854775807) (hfit : (5 * (n + m) + 768) * bytes ≤ 1125899906842624) (hbase : base ≤ w.heap.size)
    (h : ∀ v' w', Own e k w' base v' (n + m) (xs ++ zs) → w.grownBy w' v.ownBlock → (v'.ownBlock = v.ownBlock ∨ ∃ g, v'.ownBlock = some g ∧ w.heap.size ≤ g) → K (a.put o.dst v') w') :
    if Region.wanted o (yielded ops a.tmps) = true then Oper.wp P o a w K Q else E := by
  have hw : Region.wanted o (yielded ops a.tmps) = true := by simp [Region.wanted, hg]
  rw [if_pos hw]
  exact wp_append_at w s x t ho k bytes base e ht hinfo v n xs hs hown A m c zs hx hr h63 hfit hbase h
end Go.Proofs.YtjnmppdohglcaaaGreatDoor
