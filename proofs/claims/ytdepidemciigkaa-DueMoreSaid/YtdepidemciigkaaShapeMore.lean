/-
  append of several records, and where the slice lies then. Of any program.
-/
import Derived.Test.YtdepidemciigkaaShapeStep
import Derived.Deep.AppendLies
namespace Go.Proofs.Ytdepidemciigkaa
open Go Go.RowKit
set_option linter.unusedVariables false

section
variable {α : Type} (S : Shape α)
theorem RdS.cells {S : Shape α} {w : World} {a : Addr} {zs : List α} (hr : RdS S w (some a) zs) : ∀ j v, (S.flat zs)[j]? = some v → w.cell? (a.add j) = some v := by
  intro j v hv
  have hj : j < zs.length * S.size := by have := (List.getElem?_eq_some_iff.1 hv).1; rw [S.flat_len] at this; exact this
  have hdm : j / S.size * S.size + j % S.size = j := Nat.div_add_mod' j S.size
  have hm : j % S.size < S.size := Nat.mod_lt _ S.pos
  have hqn : j / S.size < zs.length := Nat.div_lt_of_lt_mul (by rw [Nat.mul_comm]; exact hj)
  obtain ⟨ad, he, hc⟩ := hr (Nat.lt_of_le_of_lt (Nat.zero_le _) hqn)
  injection he with he
  subst he
  have hz : zs[j / S.size]? = some zs[j / S.size] := List.getElem?_eq_getElem hqn
  have h1 := S.flat_get hz _ hm
  rw [hdm, hv] at h1
  have h2 := hc (j / S.size) _ hz _ v h1.symm
  rw [hdm] at h2
  exact h2

/-- Several records more, with where they lie. -/
theorem wpList_append_recs {P : Program} {bytes : Nat} {z : Value} (st : TypeId) (hu : P.underlying st = some (.slice S.ty)) (hinfo : (P.info? S.ty).map (fun i => (i.zero, i.size, i.bytes)) = some (some z, S.size, bytes)) (hzc : z.cells.size = S.size)
    {ops : Array Oper} {rest : List Oper} {o : Oper} {a : Act} {Q : Exit → Act → World → Prop} (w : World) (hgd : o.guard = none) (s x : Operand)
    (ho : o.op = .call { callee := .builtin .append, args := #[s, x], argTypes := #[st, st] })
    (base : Nat) (v : Value) (zs bs : List α) (hs : a.eval s = v) (hown : OwnS S w base v zs) (ad : Addr) (m c : Nat) (hx : a.eval x = .slice (some ad) m c) (hm : bs.length = m) (hm0 : 0 < m) (hc : RdS S w (some ad) bs)
    (hl : zs.length + m ≤ 17592186043904) (hby : (zs.length + m) * bytes ≤ 140737488355328) (hbase : base ≤ w.heap.size) (H : Nat) (hH : w.heap.size = H)
    (h : ∀ g cap w', OwnS S w' base (.slice (some ⟨g, 0, none⟩) (zs.length + m) cap) (zs ++ bs) → w.grownBy w' v.ownBlock → (v.ownBlock = some g ∨ g = H) → g < w'.heap.size → wpList P ops Q rest (a.put o.dst (.slice (some ⟨g, 0, none⟩) (zs.length + m) cap)) w') : wpList P ops Q (o :: rest) a w := by
  obtain ⟨i0, hi, hz0, hz1, hz2⟩ := info_parts hinfo
  refine wpList_append_lies (P := P) w hgd s x st ho base S.ty i0 _ S.size bytes hu hi hz0 hz1 hz2 hzc S.pos v zs.length (S.flat zs) hs hown ad m c (S.flat bs) hx (by rw [S.flat_len, hm]) hc.cells (S.flat_one _) hm0 (by simp only [maxLen]; omega) hby hbase H hH ?_
  intro g cap w' ho' hg hat hlt
  refine h g cap w' ?_ hg hat hlt
  unfold OwnS
  rw [List.length_append, S.flat_append, hm]
  exact ho'
end
end Go.Proofs.Ytdepidemciigkaa
