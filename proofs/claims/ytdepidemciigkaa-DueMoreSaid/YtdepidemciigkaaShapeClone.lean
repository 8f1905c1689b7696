/-
  append of all records of a slice to nil, as a step of a region that draws its order. Of any program.
-/
import Derived.Test.YtdepidemciigkaaShapeStep
import Derived.Test.YtdepidemciigkaaShapeMore
namespace Go.Proofs.Ytdepidemciigkaa
open Go Go.RowKit
set_option linter.unusedVariables false

section
variable {α : Type} (S : Shape α)

theorem step_clone_recs {P : Program} {bytes : Nat} {z : Value} (st : TypeId) (hu : P.underlying st = some (.slice S.ty)) (hinfo : (P.info? S.ty).map (fun i => (i.zero, i.size, i.bytes)) = some (some z, S.size, bytes)) (hzc : z.cells.size = S.size)
    {ops : Array Oper} {o : Oper} {a : Act} {w : World} {K : Act → World → Prop} {Q : Exit → Act → World → Prop} {E : Prop} (hgd : o.guard = none) (d : Nat) (hd : o.dst = some d) (x : Operand)
    (ho : o.op = .call { callee := .builtin .append, args := #[.const (.slice none 0 0), x], argTypes := #[st, st] })
    (base : Nat) (bs : List α) (A : Option Addr) (m c : Nat) (hx : a.eval x = .slice A m c) (hm : bs.length = m) (hc : RdS S w A bs)
    (hl : m ≤ 17592186043904) (hby : m * bytes ≤ 140737488355328) (hbase : base ≤ w.heap.size)
    (h : ∀ v' w', OwnS S w' base v' bs → w.grownBy w' none → K (a.put (some d) v') w') :
    if Region.wanted o (yielded ops a.tmps) = true then Oper.wp P o a w K Q else E := by
  have hw : Region.wanted o (yielded ops a.tmps) = true := by simp [Region.wanted, hgd]
  rw [if_pos hw]
  obtain ⟨i0, hi, hz0, hz1, hz2⟩ := info_parts hinfo
  have hs : a.eval (.const (.slice none 0 0)) = .slice none 0 0 := rfl
  rcases Nat.eq_zero_or_pos m with h0 | h0
  · subst h0
    obtain rfl : bs = [] := List.eq_nil_of_length_eq_zero hm
    have hrun : (Builtin.append_ #[st, st] o.type #[.slice none 0 0, .slice A 0 c]).run P w = .ok (.slice none 0 0) w := by
      cases A <;> simp [Builtin.append_, run_underlying hu, sizeOf, typeInfo, hi, Builtin.lenOf, Builtin.firstCells, loadCells, loadCellsFrom]
    unfold Oper.wp execOp
    simp only [ho, resolve, invoke, builtin, Sem.run_bind, Sem.run_pure, Result.andThen_ok, List.map_toArray, List.map_cons, List.map_nil, hs, hx, hrun]
    show K (a.put o.dst (.slice none 0 0)) w
    rw [hd]
    exact h _ _ OwnS.nil (World.grownBy.refl w _)
  · obtain ⟨ad, rfl, _⟩ : ∃ ad, A = some ad ∧ True := by
      obtain ⟨ad, e, _⟩ := hc (by omega)
      exact ⟨ad, e, trivial⟩
    obtain ⟨v', w', hrun, h2, h3, _⟩ := run_append_own (P := P) w base st o.type S.ty i0 _ S.size bytes hu hi hz0 hz1 hz2 hzc S.pos (.slice none 0 0) 0 [] (World.ownsRow_nil w base _ S.size) ad m c (S.flat bs) (by rw [S.flat_len, hm])
      hc.cells (S.flat_one _) (by simp only [maxLen]; omega) (by rw [Nat.zero_add]; exact hby) hbase
    unfold Oper.wp execOp
    simp only [ho, resolve, invoke, builtin, Sem.run_bind, Sem.run_pure, Result.andThen_ok, List.map_toArray, List.map_cons, List.map_nil, hs, hx, hrun]
    show K (a.put o.dst v') w'
    rw [hd]
    refine h v' w' ?_ h3
    unfold OwnS
    rw [hm]
    simpa using h2
end
end Go.Proofs.Ytdepidemciigkaa
