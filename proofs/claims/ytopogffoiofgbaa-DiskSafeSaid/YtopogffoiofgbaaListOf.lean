/-
  One value more at the end of a slice that is the call's own, with where the slice lies then: in its own block still, or in a new one. Of any program.
-/
import Derived.Test.YtopogffoiofgbaaSlices
namespace Go.Proofs.Ytopogffoiofgbaa
open Go Go.RowKit

section
variable {P : Program} (w : World)

/-- Behind the append the slice lies where it lay, and no other block was turned; or it lies in a new block, and none was turned. -/
def Grew (w w' : World) (v v' : Value) : Prop :=
  (v'.ownBlock = v.ownBlock ∧ w.grownBy w' v.ownBlock) ∨ (w.grownBy w' none ∧ ∃ g, v'.ownBlock = some g ∧ w.heap.size ≤ g)

theorem run_append_one (bytes base : Nat) (t ty e : TypeId) (z : Value) (ht : P.underlying t = some (.slice e))
    (hinfo : (P.info? e).map (fun i => (i.zero, i.size, i.bytes)) = some (some z, 1, bytes)) (hz1 : z.cells.size = 1)
    (v : Value) (n : Nat) (vs : List Value) (hown : w.ownsRow base e 1 v n vs) (ad : Addr) (c : Nat) (u : Value) (hu : w.cell? ad = some u) (h1 : u.oneCell' = true)
    (h63 : n + 1 ≤ 9223372036854775807) (hfit : (5 * (n + 1) + 768) * bytes ≤ 1125899906842624) (hbase : base ≤ w.heap.size) (hm : n + 1 ≤ maxLen) :
    ∃ v' w', (Builtin.append_ #[t, t] ty #[v, .slice (some ad) 1 c]).run P w = .ok v' w' ∧ w'.ownsRow base e 1 v' (n + 1) (vs ++ [u]) ∧ Grew w w' v v' := by
  obtain ⟨i, hi, hz, hsize, hby⟩ := info_parts hinfo
  have hxl : vs.length = n := by have := hown.1; omega
  have hnews : ∀ j u', [u][j]? = some u' → w.cell? (ad.add j) = some u' := by
    intro j u' hj
    cases j with
    | zero => simp at hj; subst hj; exact hu
    | succ j => simp at hj
  have hl : [u].length = 1 * i.size := by rw [hsize]; rfl
  have h1' : ∀ u' ∈ [u], u'.oneCell' = true := by intro u' hm; simp at hm; subst hm; exact h1
  have hcap : ∀ old, old < n + 1 → Builtin.nextslicecap (n + 1) old * i.bytes ≤ 281474976710656 := by
    intro old ho
    rw [hby]
    have h2 := Nat.mul_le_mul_right bytes (next_le ho)
    rw [Nat.mul_assoc] at h2
    omega
  have hnew : ∀ (olds : List Value), olds.length = n → ∀ c', n + 1 ≤ c' → c' ≤ maxLen → ∀ wd : World, base ≤ wd.heap.size →
      (wd.alloc (.cells (olds.toArray ++ [u].toArray ++ Builtin.zeroCells z.cells (c' - (n + 1))) e)).ownsRow base e 1 (.slice (some ⟨wd.heap.size, 0, none⟩) (n + 1) c') (n + 1) (olds ++ [u]) := by
    intro olds ho c' hc1 hc2 wd hwd
    refine ⟨by simp [ho], .inr ⟨wd.heap.size, c', _, rfl, hwd, heap_alloc_new wd _, hc1, hc2, ?_, ?_⟩⟩
    · simp only [Array.size_append, List.size_toArray, size_zeroCells, ho, hz1]
      simp
      omega
    · simp only [Array.toList_append]
      rw [List.take_left']
      simp [ho]
  have hgr : ∀ (o : Obj), w.grownBy (w.drew.alloc o) none := fun o => ⟨rfl, rfl, rfl, by simp, fun j hj _ => heap_alloc_old w.drew _ j hj⟩
  rcases hown.2 with ⟨rfl, rfl⟩ | ⟨g, cap, cur, rfl, hbg, hg, hnc, hcm, hcs, htake⟩
  · have hxn : vs = [] := List.eq_nil_of_length_eq_zero hxl
    subst hxn
    have hcap0 := hcap 0 (by omega)
    rw [nextslicecap_zero (by omega)] at hcap0
    have hrun := run_append_nil (P := P) w t ty e i _ ht hi hz ad 1 c _ hl hnews (by omega) (by omega) (by simpa using hcap0)
    have hge := grownCap_ge w 1 0 e
    have hle := grownCap_le_maxLen w 1 0 e (by simp only [maxLen]; omega)
    have hN := hnew [] rfl (grownCap w 1 0 e) (by omega) hle w.drew hbase
    simp only [Nat.zero_add, List.nil_append, Array.empty_append] at hN ⊢
    exact ⟨_, _, hrun, hN, .inr ⟨hgr _, _, rfl, Nat.le_refl _⟩⟩
  · by_cases hroom : n + 1 ≤ cap
    · have hfit' : n * i.size + [u].length ≤ cur.size := by rw [hsize, hcs, List.length_singleton]; omega
      have hrun := run_append_room (P := P) w t ty e i ht hi g n cap cur hg ad 1 c _ hl hnews h1' hroom hfit'
      refine ⟨_, _, hrun, ⟨by simp [hxl], .inr ⟨g, cap, _, rfl, hbg, setRow_heap w g cur _ e _ hg, hroom, hcm, ?_, ?_⟩⟩, .inl ⟨rfl, ⟨rfl, rfl, rfl, by simp, fun j _ hj => setRow_other w g j _ (fun he => hj (by simp [Value.ownBlock, he]))⟩⟩⟩
      · simp only [List.size_toArray, List.length_append, List.length_take, List.length_drop, Array.length_toList, List.length_singleton]
        omega
      · rw [hsize, htake]
        show List.take ((n + 1) * 1) ((vs ++ [u]) ++ _) = _
        rw [List.take_left']
        simp [hxl]
    · have holds : ∀ j u, vs[j]? = some u → w.cell? ((⟨g, 0, none⟩ : Addr).add j) = some u := World.ownsRow.cells hown (g := g) rfl
      have hrun := run_append_grow (P := P) w t ty e i _ ht hi hz ⟨g, 0, none⟩ n cap vs (by rw [hsize]; omega) holds ad 1 c _ hl hnews (by omega) (by omega) (hcap cap (by omega))
      have hge := grownCap_ge w (n + 1) cap e
      have hle := grownCap_le_maxLen w (n + 1) cap e (by simpa only [maxLen] using hm)
      exact ⟨_, _, hrun, hnew vs hxl _ hge hle w.drew hbase, .inr ⟨hgr _, _, rfl, Nat.le_refl _⟩⟩

theorem wpList_append_one {ops : Array Oper} {rest : List Oper} {o : Oper} {a : Act} {Q : Exit → Act → World → Prop} (hgd : o.guard = none) (s x : Operand) (t : TypeId)
    (ho : o.op = .call { callee := .builtin .append, args := #[s, x], argTypes := #[t, t] })
    (bytes base : Nat) (e : TypeId) (z : Value) (ht : P.underlying t = some (.slice e))
    (hinfo : (P.info? e).map (fun i => (i.zero, i.size, i.bytes)) = some (some z, 1, bytes)) (hz1 : z.cells.size = 1)
    (v : Value) (n : Nat) (vs : List Value) (hs : a.eval s = v) (hown : w.ownsRow base e 1 v n vs) (ad : Addr) (c : Nat) (u : Value) (hx : a.eval x = .slice (some ad) 1 c) (hu : w.cell? ad = some u) (h1 : u.oneCell' = true)
    (h63 : n + 1 ≤ 9223372036854775807) (hfit : (5 * (n + 1) + 768) * bytes ≤ 1125899906842624) (hbase : base ≤ w.heap.size) (hm : n + 1 ≤ maxLen)
    (h : ∀ v' w', w'.ownsRow base e 1 v' (n + 1) (vs ++ [u]) → Grew w w' v v' → wpList P ops Q rest (a.put o.dst v') w') : wpList P ops Q (o :: rest) a w :=
  wpList_plain hgd fun _ hK => by
    obtain ⟨v', w', hrun, h2, h3⟩ := run_append_one (P := P) w bytes base t o.type e z ht hinfo hz1 v n vs hown ad c u hu h1 h63 hfit hbase hm
    unfold Oper.wp execOp
    simp only [ho, resolve, invoke, builtin, Sem.run_bind, Sem.run_pure, Result.andThen_ok, List.map_toArray, List.map_cons, List.map_nil, hs, hx, hrun]
    exact hK _ _ (h v' w' h2 h3)

theorem Grew.below {w w' a : World} {v v' : Value} {B : Nat} (h : Grew w w' v v') (hb : Below B a w) (hB : B ≤ w.heap.size) (hr : ∀ g, v.ownBlock = some g → B ≤ g) : Below B a w' := by
  rcases h with ⟨_, h⟩ | ⟨h, _⟩
  · exact hb.grown h hB hr
  · exact hb.grown h hB (fun _ he => by cases he)
/-- A cell that lies in another block than the slice reads as it read. -/
theorem Grew.cell {w w' : World} {v v' : Value} (h : Grew w w' v v') {p : Addr} {u : Value} (hc : w.cell? p = some u) (hp : v.ownBlock ≠ some p.block) : w'.cell? p = some u := by
  have hlt := World.block_lt_of_cell? w _ hc
  have hh : w'.heap[p.block]? = w.heap[p.block]? := by
    rcases h with ⟨_, h⟩ | ⟨h, _⟩
    · exact h.block _ hlt hp.symm
    · exact h.block _ hlt (by simp)
  rw [World.cell?_of_block (w := w) hh]
  exact hc
/-- .. and the slice does not come to lie in its block. -/
theorem Grew.apart {w w' : World} {v v' : Value} (h : Grew w w' v v') {p : Addr} {u : Value} (hc : w.cell? p = some u) (hp : v.ownBlock ≠ some p.block) : v'.ownBlock ≠ some p.block := by
  have hlt := World.block_lt_of_cell? w _ hc
  rcases h with ⟨he, _⟩ | ⟨_, g, he, hg⟩
  · rw [he]; exact hp
  · rw [he]; intro h'; injection h' with h'; omega
end
end Go.Proofs.Ytopogffoiofgbaa
