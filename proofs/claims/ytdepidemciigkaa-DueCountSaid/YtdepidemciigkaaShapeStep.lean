/-
  append of one record as a step of a region that draws its order; a record that lies in a block of its own. Of any program.
-/
import Derived.Test.YtdepidemciigkaaShape
import Derived.Deep.RegionLaw
namespace Go.Proofs.Ytdepidemciigkaa
open Go Go.RowKit
set_option linter.unusedVariables false

section
variable {α : Type} (S : Shape α)

/-- One record more, in a region. -/
theorem step_append_rec {P : Program} {bytes : Nat} {z : Value} (st : TypeId) (hu : P.underlying st = some (.slice S.ty)) (hinfo : (P.info? S.ty).map (fun i => (i.zero, i.size, i.bytes)) = some (some z, S.size, bytes)) (hzc : z.cells.size = S.size)
    {ops : Array Oper} {o : Oper} {a : Act} {w : World} {K : Act → World → Prop} {Q : Exit → Act → World → Prop} {E : Prop} (hgd : o.guard = none) (d : Nat) (hd : o.dst = some d) (s x : Operand)
    (ho : o.op = .call { callee := .builtin .append, args := #[s, x], argTypes := #[st, st] })
    (base : Nat) (v : Value) (zs : List α) (hs : a.eval s = v) (hown : OwnS S w base v zs) (ad : Addr) (c : Nat) (b : α) (hx : a.eval x = .slice (some ad) 1 c) (hc : AtS S w ad 0 b) (hl : zs.length ≤ 17592186043904) (hby : (zs.length + 1) * bytes ≤ 140737488355328) (hbase : base ≤ w.heap.size)
    (h : ∀ v' w', OwnS S w' base v' (zs ++ [b]) → w.grownBy w' v.ownBlock → K (a.put (some d) v') w') :
    if Region.wanted o (yielded ops a.tmps) = true then Oper.wp P o a w K Q else E := by
  have hw : Region.wanted o (yielded ops a.tmps) = true := by simp [Region.wanted, hgd]
  rw [if_pos hw]
  obtain ⟨i0, hi, hz0, hz1, hz2⟩ := info_parts hinfo
  have hfl : S.flat [b] = S.cells b := by simp [Shape.flat]
  obtain ⟨v', w', hrun, h2, h3, _⟩ := run_append_own (P := P) w base st o.type S.ty i0 _ S.size bytes hu hi hz0 hz1 hz2 hzc S.pos v zs.length (S.flat zs) hown ad 1 c (S.flat [b]) (by rw [hfl, S.len, Nat.one_mul])
    (fun j u hu => by
      rw [hfl] at hu
      have := hc j u hu
      rw [Nat.zero_mul, Nat.zero_add] at this
      exact this) (S.flat_one _) (by simp only [maxLen]; omega) hby hbase
  unfold Oper.wp execOp
  simp only [ho, resolve, invoke, builtin, Sem.run_bind, Sem.run_pure, Result.andThen_ok, List.map_toArray, List.map_cons, List.map_nil, hs, hx, hrun]
  show K (a.put o.dst v') w'
  rw [hd]
  refine h v' w' ?_ h3
  unfold OwnS
  rw [List.length_append, S.flat_append]
  exact h2

theorem grown_at {w w' : World} {g n c k : Nat} (h : w.grownBy w' (Value.slice (some ⟨g, 0, none⟩) n c).ownBlock) (hk : k < w.heap.size) (hne : k ≠ g) : w'.heap[k]? = w.heap[k]? := h.block k hk (fun e => hne (by simpa [Value.ownBlock] using e))
theorem below_grown {B g n c : Nat} {a w w' : World} (h : Below B a w) (hg : w.grownBy w' (Value.slice (some ⟨g, 0, none⟩) n c).ownBlock) (hB : B ≤ w.heap.size) (hr : B ≤ g) : Below B a w' :=
  h.grown hg hB (fun k hk => by have hk : g = k := by simpa [Value.ownBlock] using hk
                                omega)
/-- A record in a block. -/
theorem AtS.row {S : Shape α} {w : World} {g : Nat} {cs : Array Value} {t : TypeId} {fr : Nat × Nat} {b : α} (hg : w.heap[g]? = some (.cells cs t fr)) (hc : cs.toList = S.cells b) : AtS S w ⟨g, 0, none⟩ 0 b := fun i u hu => by
  rw [Nat.zero_mul, Nat.zero_add, add_flat, cell_of_row w g i cs t fr hg, ← Array.getElem?_toList, hc]
  exact hu
theorem AtS.new {S : Shape α} {w : World} {cs : Array Value} {t : TypeId} {b : α} (hc : cs.toList = S.cells b) : AtS S (w.alloc (.cells cs t)) ⟨w.heap.size, 0, none⟩ 0 b := AtS.row (heap_alloc_new w _) hc
theorem AtS.below {S : Shape α} {w w' : World} {ad : Addr} {j : Nat} {b : α} (h : AtS S w ad j b) (hb : Below w.heap.size w w') : AtS S w' ad j b := h.keep fun _ hp => hb.cell hp
end
end Go.Proofs.Ytdepidemciigkaa
