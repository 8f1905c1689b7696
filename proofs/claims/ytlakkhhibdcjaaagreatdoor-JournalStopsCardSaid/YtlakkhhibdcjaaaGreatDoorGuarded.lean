/-
  One value more at the end of a slice of one's own, behind a guard that is met; a disk's file with bytes behind its records.
-/
import Derived.Test.YtlakkhhibdcjaaaGreatDoorJourStrs
namespace Go.Proofs.YtlakkhhibdcjaaaGreatDoor
open Go Go.RowKit Go.Maps
set_option linter.unusedVariables false
section
variable {P : Program} (w : World)
theorem wpList_append_one_g {ops : Array Oper} {rest : List Oper} {o : Oper} {a : Act} {Q : Exit → Act → World → Prop} (hgd : Region.wanted o (yielded ops a.tmps) = true) (s x : Operand) (t : TypeId)
    (ho : o.op = .call { callee := .builtin .append, args := #[s, x], argTypes := #[t, t] })
    (bytes base : Nat) (e : TypeId) (z : Value) (ht : P.underlying t = some (.slice e))
    (hinfo : (P.info? e).map (fun i => (i.zero, i.size, i.bytes)) = some (some z, 1, bytes)) (hz1 : z.cells.size = 1)
    (v : Value) (n : Nat) (vs : List Value) (hs : a.eval s = v) (hown : w.ownsRow base e 1 v n vs) (ad : Addr) (c : Nat) (u : Value) (hx : a.eval x = .slice (some ad) 1 c) (hu : w.cell? ad = some u) (h1 : u.oneCell' = true)
    (h63 : n + 1 ≤ 9223372036854775807) (hfit : (5 * (n + 1) + 768) * bytes ≤ 1125899906842624) (hbase : base ≤ w.heap.size) (hm : n + 1 ≤ maxLen)
    (h : ∀ v' w', w'.ownsRow base e 1 v' (n + 1) (vs ++ [u]) → Grew w w' v v' → wpList P ops Q rest (a.put o.dst v') w') : wpList P ops Q (o :: rest) a w := by
  obtain ⟨v', w', hrun, h2, h3⟩ := run_append_one (P := P) w bytes base t o.type e z ht hinfo hz1 v n vs hown ad c u hu h1 h63 hfit hbase hm
  unfold wpList
  rw [if_pos hgd]
  refine .inl ?_
  unfold Oper.wp execOp
  simp only [ho, resolve, invoke, builtin, Sem.run_bind, Sem.run_pure, Result.andThen_ok, List.map_toArray, List.map_cons, List.map_nil, hs, hx, hrun]
  exact h v' w' h2 h3
end
section
variable {S : Nat → Prop} {w : World} {base sb : Nat} {room : Int} {rs : List (List Nat)}
/-- Open, of a disk whose records' file has something torn at its end. -/
theorem open_torn {ys : List Nat} (hd : DiskQ w S base sb room [(2, flat rs ++ ys, (flat rs).length)] calm) (hy : fone ys = none) (hshort : ∀ r ∈ rs, r.length ≤ 16384) (hfits : ((flat rs).length : Int) + ys.length ≤ room) (hroom : 0 ≤ room ∧ room ≤ 262144) (hbase : base ≤ w.heap.size) :
    Calls Tryz.prog 9 #[.pointer (some ⟨sb, 0, none⟩)] w (OpenJn S w base sb room 0 [] rs (some rs)) := by
  have hf : [((2 : Int), flat rs ++ ys, (flat rs).length)].filter (kept 2) = [((2 : Int), flat rs ++ ys, (flat rs).length)] := by simp [kept]
  refine (open_any hd (fun p hp => ?_) (by simp) hbase (t := 0) (b := []) (by simp [pget, snapOf]) (k := 2) (by rw [IntKind.wrap_i64]; omega) (wf3 2 (by omega)) (zs := flat rs ++ ys) (n := (flat rs).length) (by rw [hf]; simp [pget])).mono ?_
  · simp at hp
    subst hp
    refine ⟨?_, wf3 2 (by omega)⟩
    simp only [List.length_append]
    omega
  · rintro e w' ⟨rs', jb, S', T', hsc, he, hj, hfr, hw, hT⟩
    obtain rfl := scanned_unique hsc (scanned_tail hshort hy)
    have e1 : opened [((2 : Int), flat rs' ++ ys, (flat rs').length)] 2 rs' (flat rs' ++ ys) = jf 0 [] (some rs') := by
      unfold opened
      rw [hf]
      by_cases h0 : ys = []
      · subst h0
        rw [if_pos (by simp)]
        simp [jf, snapF, recF]
      · rw [if_neg (by
          intro h
          rw [List.length_append] at h
          exact h0 (List.eq_nil_of_length_eq_zero (by omega)))]
        simp [jf, snapF, recF, pput, pdel, pins]
    rw [e1] at hj
    refine ⟨jb, S', T', he, ⟨hj, rfl, fun _ => rfl, by omega, by decide +kernel, hshort, ?_, hroom, Nat.le_trans hbase hfr.size⟩, hfr, hw, hT⟩
    rw [jf_total]
    simp
    omega
end
end Go.Proofs.YtlakkhhibdcjaaaGreatDoor
