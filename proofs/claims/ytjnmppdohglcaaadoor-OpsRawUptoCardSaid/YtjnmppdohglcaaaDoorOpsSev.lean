/-
  The blocks of the law's do, with the payment and what an op makes of it; what is the call's own.
-/
import Derived.Test.YtjnmppdohglcaaaDoorGrE
import Derived.Test.YtjnmppdohglcaaaDoorGrB
namespace Go.Proofs.YtjnmppdohglcaaaDoor
open Go Go.RowKit
set_option linter.unusedVariables false

structure Sev (w W : World) (vs rs ts : Array Value) (gp : Nat) (pc : Array Value) (gq : Nat) (qc : Array Value) (vp : Value) (ps : List Py) (base : Nat) : Prop where
  five : Five w W vs rs ts
  bp : Blk W gp 47 pc
  bq : Blk W gq 47 qc
  op : OwnS pays W (w.heap.size + 5) vp ps
  gp_ : base ≤ gp
  gq_ : base ≤ gq
  far : ∀ g, vp.ownBlock = some g → g < base
  lo : w.heap.size + 5 ≤ base
  hi : base ≤ W.heap.size
section
variable {w W W' : World} {vs rs ts : Array Value} {gp : Nat} {pc : Array Value} {gq : Nat} {qc : Array Value} {vp : Value} {ps : List Py} {base : Nat}
theorem Sev.later (h : Sev w W vs rs ts gp pc gq qc vp ps base) (hb : Below W.heap.size W W') : Sev w W' vs rs ts gp pc gq qc vp ps base :=
  ⟨h.five.later hb, h.bp.later hb, h.bq.later hb, h.op.below hb, h.gp_, h.gq_, h.far, h.lo, Nat.le_trans h.hi hb.size⟩
theorem Sev.alloc (h : Sev w W vs rs ts gp pc gq qc vp ps base) (o : Obj) : Sev w (W.alloc o) vs rs ts gp pc gq qc vp ps base := h.later ((Below.refl _ _).alloc (Nat.le_refl _) o)
theorem Sev.drew (h : Sev w W vs rs ts gp pc gq qc vp ps base) : Sev w W.drew vs rs ts gp pc gq qc vp ps base := h.later (Below.refl _ _).drew
theorem Sev.setT (h : Sev w W vs rs ts gp pc gq qc vp ps base) (i : Nat) (v : Value) : Sev w (W.setCell ⟨w.heap.size + 1 + 1 + 1 + 1, i, none⟩ v) vs rs (ts.setIfInBounds i v) gp pc gq qc vp ps base :=
  ⟨h.five.setT i v, h.bp.setOther (by have := h.gp_; have := h.lo; omega) i v, h.bq.setOther (by have := h.gq_; have := h.lo; omega) i v,
   h.op.setOther (p := ⟨w.heap.size + 1 + 1 + 1 + 1, i, none⟩) (fun g hg => by have := h.op.rowLt g hg; dsimp only; omega), h.gp_, h.gq_, h.far, h.lo, by have := h.hi; simpa using this⟩
theorem Sev.grown (h : Sev w W vs rs ts gp pc gq qc vp ps base) {r : Option Nat} (hg : W.grownBy W' r) (hr : ∀ g, r = some g → base ≤ g ∧ gp ≠ g ∧ gq ≠ g) : Sev w W' vs rs ts gp pc gq qc vp ps base :=
  ⟨h.five.grown hg (fun g e => Nat.le_trans h.lo (hr g e).1), h.bp.grown hg (fun e => (hr _ e.symm).2.1 rfl), h.bq.grown hg (fun e => (hr _ e.symm).2.2 rfl),
   h.op.same fun g e => hg.block g (World.ownsRow.lt h.op g e).2 (fun e2 => by have h1 := (hr g e2.symm).1; have h2 := h.far g e; omega), h.gp_, h.gq_, h.far, h.lo, Nat.le_trans h.hi hg.size⟩
theorem Sev.setFar (h : Sev w W vs rs ts gp pc gq qc vp ps base) {g : Nat} (hg : base ≤ g) (h1 : gp ≠ g) (h2 : gq ≠ g) (i : Nat) (v : Value) : Sev w (W.setCell ⟨g, i, none⟩ v) vs rs ts gp pc gq qc vp ps base :=
  ⟨h.five.setFar (by have := h.lo; omega) i v, h.bp.setOther (Ne.symm h1) i v, h.bq.setOther (Ne.symm h2) i v,
   h.op.setOther (p := ⟨g, i, none⟩) (fun k hk => by have := h.far k hk; dsimp only; omega), h.gp_, h.gq_, h.far, h.lo, by have := h.hi; simpa using this⟩
end
theorem Five.py {w W : World} {vs rs ts : Array Value} (h : Five w W vs rs ts) {g i0 i1 i2 i3 i4 i5 i6 i7 : Nat} (hg : w.heap.size + 5 ≤ g) (a0 a1 a2 a3 a4 a5 a6 a7 : Value) : Five w ((((((((W.setCell ⟨g, i0, none⟩ a0).setCell ⟨g, i1, none⟩ a1).setCell ⟨g, i2, none⟩ a2).setCell ⟨g, i3, none⟩ a3).setCell ⟨g, i4, none⟩ a4).setCell ⟨g, i5, none⟩ a5).setCell ⟨g, i6, none⟩ a6).setCell ⟨g, i7, none⟩ a7) vs rs ts :=
  ⟨py_other h.bs (by omega) a0 a1 a2 a3 a4 a5 a6 a7, py_other h.br (by omega) a0 a1 a2 a3 a4 a5 a6 a7, py_other h.b2 (by omega) a0 a1 a2 a3 a4 a5 a6 a7, py_other h.b3 (by omega) a0 a1 a2 a3 a4 a5 a6 a7, py_other h.bt (by omega) a0 a1 a2 a3 a4 a5 a6 a7, py_below h.below (by omega) a0 a1 a2 a3 a4 a5 a6 a7⟩
theorem py_ownA {W : World} {base g i0 i1 i2 i3 i4 i5 i6 i7 : Nat} {v : Value} {zs : List Ac} (h : OwnA W base v zs) (hg : g < base) (a0 a1 a2 a3 a4 a5 a6 a7 : Value) : OwnA ((((((((W.setCell ⟨g, i0, none⟩ a0).setCell ⟨g, i1, none⟩ a1).setCell ⟨g, i2, none⟩ a2).setCell ⟨g, i3, none⟩ a3).setCell ⟨g, i4, none⟩ a4).setCell ⟨g, i5, none⟩ a5).setCell ⟨g, i6, none⟩ a6).setCell ⟨g, i7, none⟩ a7) base v zs := by
  have n2 : ∀ k, v.ownBlock = some k → k ≠ g := fun k e => by have := h.rowLt k e; omega
  exact ((((((((h.setOther (p := ⟨g, i0, none⟩) (u := a0) n2).setOther (p := ⟨g, i1, none⟩) (u := a1) n2).setOther (p := ⟨g, i2, none⟩) (u := a2) n2).setOther (p := ⟨g, i3, none⟩) (u := a3) n2).setOther (p := ⟨g, i4, none⟩) (u := a4) n2).setOther (p := ⟨g, i5, none⟩) (u := a5) n2).setOther (p := ⟨g, i6, none⟩) (u := a6) n2).setOther (p := ⟨g, i7, none⟩) (u := a7) n2)
theorem acc_three {w : World} {ad : Addr} {zs : List Ac} {k : Nat} {a : Ac} (h : RdA w (some ad) zs) (hk : zs[k]? = some a) :
    w.cell? (ad.add (k * 3)) = some (.int .i64 a.cur) ∧ w.cell? ⟨(ad.add (k * 3)).block, (ad.add (k * 3)).off + 1, none⟩ = some (.int .i64 a.bal) ∧ w.cell? ⟨(ad.add (k * 3)).block, (ad.add (k * 3)).off + 2, none⟩ = some (.int .i64 a.held) := by
  obtain ⟨ad', e, x0, x1, x2⟩ := h.at_ hk
  injection e with e
  subst e
  rw [add_next ad (k * 3) 1 (by omega)] at x1
  rw [add_next ad (k * 3) 2 (by omega)] at x2
  exact ⟨x0, x1, x2⟩
/-- One entry more, as one step of a region that draws. -/
theorem step_append_ent {ops : Array Oper} {o : Oper} {a : Act} {w : World} {K : Act → World → Prop} {Q : Exit → Act → World → Prop} {E : Prop} (hgd : o.guard = none) (s x : Operand)
    (ho : o.op = .call { callee := .builtin .append, args := #[s, x], argTypes := #[72, 72] })
    (base : Nat) (v : Value) (zs : List En) (hs : a.eval s = v) (hown : OwnE w base v zs) (ad : Addr) (c : Nat) (b : En) (hx : a.eval x = .slice (some ad) 1 c) (hc : EnAt w ad 0 b) (hl : zs.length ≤ 1000000) (hbase : base ≤ w.heap.size)
    (h : ∀ v' w', OwnE w' base v' (zs ++ [b]) → w.grownBy w' v.ownBlock → K (a.put o.dst v') w') : if Region.wanted o (yielded ops a.tmps) = true then Oper.wp Tryd.prog o a w K Q else E := by
  have hw : Region.wanted o (yielded ops a.tmps) = true := by simp [Region.wanted, hgd]
  rw [if_pos hw]
  obtain ⟨i0, hi, hz0, hz1, hz2⟩ := info_parts info_ent
  obtain ⟨v', w', hrun, h2, h3, _⟩ := run_append_own (P := Tryd.prog) w base 72 o.type 82 i0 _ 2 16 Tryd.underlying72 hi hz0 hz1 hz2 rfl (by omega) v zs.length (ecells zs) hown ad 1 c (ecells [b]) rfl
    (fun j u hu => by
      match j, hu with
      | 0, hu => simp [ecells] at hu; subst hu; exact hc.c0
      | 1, hu => simp [ecells] at hu; subst hu; exact hc.c1
      | j + 2, hu => simp [ecells] at hu) (ecells_one _) (by simp only [maxLen]; omega) (by omega) hbase
  unfold Oper.wp execOp
  simp only [ho, resolve, invoke, builtin, Sem.run_bind, Sem.run_pure, Result.andThen_ok, List.map_toArray, List.map_cons, List.map_nil, hs, hx, hrun]
  refine h v' w' ?_ h3
  unfold OwnE
  rw [List.length_append, ecells_append]
  exact h2
/-- The same, with what the old slice reads behind it: as before. -/
theorem step_append_entk {ops : Array Oper} {o : Oper} {a : Act} {w : World} {K : Act → World → Prop} {Q : Exit → Act → World → Prop} {E : Prop} (hgd : o.guard = none) (s x : Operand)
    (ho : o.op = .call { callee := .builtin .append, args := #[s, x], argTypes := #[72, 72] })
    (base : Nat) (v : Value) (zs : List En) (hs : a.eval s = v) (hown : OwnE w base v zs) (ad : Addr) (c : Nat) (b : En) (hx : a.eval x = .slice (some ad) 1 c) (hc : EnAt w ad 0 b) (hl : zs.length ≤ 1000000) (hbase : base ≤ w.heap.size)
    (h : ∀ v' w', OwnE w' base v' (zs ++ [b]) → w.grownBy w' v.ownBlock → OwnE w' base v zs → K (a.put o.dst v') w') : if Region.wanted o (yielded ops a.tmps) = true then Oper.wp Tryd.prog o a w K Q else E := by
  have hw : Region.wanted o (yielded ops a.tmps) = true := by simp [Region.wanted, hgd]
  rw [if_pos hw]
  obtain ⟨i0, hi, hz0, hz1, hz2⟩ := info_parts info_ent
  have hnews : ∀ (j : Nat) u, (ecells [b])[j]? = some u → w.cell? (ad.add j) = some u := fun j u hu => by
    match j, hu with
    | 0, hu => simp [ecells] at hu; subst hu; exact hc.c0
    | 1, hu => simp [ecells] at hu; subst hu; exact hc.c1
    | j + 2, hu => simp [ecells] at hu
  obtain ⟨v', w', hrun, h2, h3, _⟩ := run_append_own (P := Tryd.prog) w base 72 o.type 82 i0 _ 2 16 Tryd.underlying72 hi hz0 hz1 hz2 rfl (by omega) v zs.length (ecells zs) hown ad 1 c (ecells [b]) rfl
    hnews (ecells_one _) (by simp only [maxLen]; omega) (by omega) hbase
  have hkeep : OwnE w' base v zs := by
    rcases hown.2 with ⟨hv, hn⟩ | ⟨g, cap, cur, hv, hbg, hg, hnc, hcm, hcs, htake⟩
    · obtain rfl : zs = [] := List.eq_nil_of_length_eq_zero hn
      subst hv
      exact OwnE.nil
    · subst hv
      have hcs2 : cur.size = cap * 2 := hcs
      have htk2 : cur.toList.take (zs.length * 2) = ecells zs := htake
      by_cases hroom : zs.length + 1 ≤ cap
      · have hr := run_append_room (P := Tryd.prog) w 72 o.type 82 i0 Tryd.underlying72 hi g zs.length cap cur hg ad 1 c (ecells [b]) (by rw [hz1]; rfl) hnews (ecells_one _) hroom (by rw [hz1, hcs2]; simp [ecells]; omega)
        rw [hr] at hrun
        injection hrun with _ e2
        subst e2
        refine ⟨ecells_len zs, .inr ⟨g, cap, _, rfl, hbg, setRow_heap w g cur _ _ _ hg, hnc, hcm, ?_, ?_⟩⟩
        · rw [hz1]
          simp only [List.size_toArray, List.length_append, List.length_take, List.length_drop, Array.length_toList, ecells, List.length_cons, List.length_nil]
          omega
        · show List.take (zs.length * 2) (List.take (zs.length * i0.size) cur.toList ++ _ ++ _) = _
          rw [hz1, htk2, List.append_assoc]
          rw [List.take_left' (ecells_len zs)]
      · have holds : ∀ (j : Nat) u, (ecells zs)[j]? = some u → w.cell? ((⟨g, 0, none⟩ : Addr).add j) = some u := World.ownsRow.cells hown (g := g) rfl
        have hr := run_append_grow (P := Tryd.prog) w 72 o.type 82 i0 _ Tryd.underlying72 hi hz0 ⟨g, 0, none⟩ zs.length cap (ecells zs) (by rw [hz1]; exact ecells_len zs) holds ad 1 c (ecells [b]) (by rw [hz1]; rfl) hnews (by omega) (by omega) (growslice_fits (by omega) (by rw [hz2]; omega))
        rw [hr] at hrun
        injection hrun with _ e2
        subst e2
        exact OwnE.alloc (OwnE.drew hown) _
  unfold Oper.wp execOp
  simp only [ho, resolve, invoke, builtin, Sem.run_bind, Sem.run_pure, Result.andThen_ok, List.map_toArray, List.map_cons, List.map_nil, hs, hx, hrun]
  refine h v' w' ?_ h3 hkeep
  unfold OwnE
  rw [List.length_append, ecells_append]
  exact h2
end Go.Proofs.YtjnmppdohglcaaaDoor
