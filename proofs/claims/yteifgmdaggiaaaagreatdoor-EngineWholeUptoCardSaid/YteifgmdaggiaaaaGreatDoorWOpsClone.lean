/-
  slices.Clone of payments, of sagas and of what is known; draftOf: by their contracts.
-/
import Derived.Test.YteifgmdaggiaaaaGreatDoorWGrE
import Derived.Test.YteifgmdaggiaaaaGreatDoorWGrB
import Derived.Test.YteifgmdaggiaaaaGreatDoorWGrA
import Derived.Test.YteifgmdaggiaaaaGreatDoorWGrC
import Derived.Deep.RegionHeld3
import Derived.Deep.CutRange
set_option linter.unusedSimpArgs false
namespace Go.Proofs.YteifgmdaggiaaaaGreatDoor
open Go Go.RowKit
set_option linter.unusedVariables false
theorem info_saga : (Tryz.prog.info? 68).map (fun i => (i.zero, i.size, i.bytes)) = some (some (.agg #[.int .i64 0, .int .i64 0, .int .i64 0, .int .i64 0, .int .i64 0, .int .i64 0, .int .i64 0, .int .i64 0, .int .i64 0, .int .i64 0, .int .i64 0]), 11, 88) := by kernel_rfl
/-- How sagas lie in memory. -/
def sagas : Shape Sg := ⟨11, 68, Sg.cells, by omega, fun _ => rfl, fun a u hu => by
  simp only [Sg.cells, List.mem_cons, List.not_mem_nil, or_false] at hu
  rcases hu with rfl | rfl | rfl | rfl | rfl | rfl | rfl | rfl | rfl | rfl | rfl <;> rfl⟩
/-- A value that is a slice of records, whosever they are. -/
def RdV {α : Type} (S : Shape α) (w : World) (v : Value) (xs : List α) : Prop := ∃ A c, v = .slice A xs.length c ∧ RdS S w A xs ∧ Sl A xs.length c
theorem RdV.below {α : Type} {S : Shape α} {w w' : World} {v : Value} {xs : List α} (h : RdV S w v xs) (hb : Below w.heap.size w w') : RdV S w' v xs := by
 obtain ⟨A, c, e, hr, hs⟩ := h
 exact ⟨A, c, e, hr.below hb, hs⟩
theorem RdV.drew {α : Type} {S : Shape α} {w : World} {v : Value} {xs : List α} (h : RdV S w v xs) : RdV S w.drew v xs := h
theorem OwnS.rdV {α : Type} {S : Shape α} {w : World} {base : Nat} {v : Value} {xs : List α} (h : OwnS S w base v xs) : RdV S w v xs := by
 obtain ⟨A, c, e, hr, h1, h2, h3⟩ := h.form
 exact ⟨A, c, e, hr, ⟨h3, h1, h2⟩⟩
theorem RdV.nil {α : Type} (S : Shape α) (w : World) : RdV S w (.slice none 0 0) ([] : List α) := ⟨none, 0, rfl, RdS.nil, ⟨fun _ => ⟨rfl, rfl⟩, Nat.le_refl _, Nat.zero_le _⟩⟩
/-- append of any records, none too, to a slice of the call's own. -/
theorem wpList_append_all {α : Type} (S : Shape α) {P : Program} {bytes : Nat} {z : Value} (st : TypeId) (hu : P.underlying st = some (.slice S.ty)) (hinfo : (P.info? S.ty).map (fun i => (i.zero, i.size, i.bytes)) = some (some z, S.size, bytes)) (hzc : z.cells.size = S.size)
  {ops : Array Oper} {rest : List Oper} {o : Oper} {a : Act} {Q : Exit → Act → World → Prop} (w : World) (hgd : o.guard = none) (s x : Operand)
  (ho : o.op = .call { callee := .builtin .append, args := #[s, x], argTypes := #[st, st] })
  (base : Nat) (v : Value) (zs bs : List α) (hs : a.eval s = v) (hown : OwnS S w base v zs) (ad : Addr) (m c : Nat) (hx : a.eval x = .slice (some ad) m c) (hm : bs.length = m) (hc : RdS S w (some ad) bs)
  (hl : zs.length + m ≤ 17592186043904) (hby : (zs.length + m) * bytes ≤ 140737488355328) (hbase : base ≤ w.heap.size)
  (h : ∀ v' w', OwnS S w' base v' (zs ++ bs) → w.grownBy w' v.ownBlock → wpList P ops Q rest (a.put o.dst v') w') : wpList P ops Q (o :: rest) a w :=
 wpList_plain hgd fun _ hK => by
  obtain ⟨i0, hi, hz0, hz1, hz2⟩ := info_parts hinfo
  obtain ⟨v', w', hrun, h2, h3, _⟩ := run_append_own (P := P) w base st o.type S.ty i0 _ S.size bytes hu hi hz0 hz1 hz2 hzc S.pos v zs.length (S.flat zs) hown ad m c (S.flat bs) (by rw [S.flat_len, hm])
   hc.cells (S.flat_one _) (by simp only [maxLen]; omega) hby hbase
  unfold Oper.wp execOp
  simp only [ho, resolve, invoke, builtin, Sem.run_bind, Sem.run_pure, Result.andThen_ok, List.map_toArray, List.map_cons, List.map_nil, hs, hx, hrun]
  refine hK _ _ (h v' w' ?_ h3)
  unfold OwnS
  rw [List.length_append, S.flat_append, hm]
  exact h2
theorem eqn_pays (W : World) : (binOp .eql 31 (.slice none 0 0) (.slice none 0 0)).run Tryz.prog W = .ok (.bool true) W := by kernel_rfl
theorem eqs_pays (W : World) (ad : Addr) (n c : Nat) : (binOp .eql 31 (.slice (some ad) n c) (.slice none 0 0)).run Tryz.prog W = .ok (.bool false) W := by kernel_rfl
set_option maxRecDepth 100000 in
theorem clone_pays (v : Value) (xs : List Py) (w : World) (h : RdV pays w v xs) (hn : xs.length ≤ 2000000) :
  Calls Tryz.prog 78 #[v] w fun e w' => ∃ v', e = .returned v' ∧ OwnS pays w' w.heap.size v' xs ∧ Below w.heap.size w w' := by
 obtain ⟨A, c, rfl, hr, hs⟩ := h
 obtain ⟨n, hl⟩ : ∃ n, xs.length = n := ⟨_, rfl⟩
 rw [hl] at hn hs ⊢
 cases A with
 | none =>
   obtain ⟨rfl, rfl⟩ := hs.nil rfl
   obtain rfl : xs = [] := List.eq_nil_of_length_eq_zero hl
   clear hr hs hl hn
   have e1 := eqn_pays w
   go_enter Tryz.func78, Tryz.ntmps78
   go_wp2
   go_ret
   exact ⟨_, rfl, OwnS.nil, Below.refl _ _⟩
 | some ad =>
   have HR := Lib.hid hr
   have HL := Lib.hid hl
   clear hr hl hs
   have e1 := eqs_pays w ad n c
   go_enter Tryz.func78, Tryz.ntmps78
   go_wp2_with (at_builtin; first
     | (refine wpList_append_all pays 31 Tryz.underlying31 info_pay rfl _ rfl (.tmp 5) (.tmp 6) rfl w.heap.size _ [] xs rfl (OwnS.lit (S := pays) w [] w.heap.size (by simp [maxLen]) (Nat.le_refl _) #[] rfl) ad n c rfl HL.out (HR.out.alloc _) (by simp only [List.length_nil]; omega) (by simp only [List.length_nil]; omega) (by simp) ?_
        intro v1 w1 ho1 hg1
        have HO1 := Lib.hid ho1
        have HB1 := Lib.hid (below_grown ((Below.refl w.heap.size w).alloc (Nat.le_refl _) (.cells #[] 96)) hg1 (by simp) (Nat.le_refl _))
        clear ho1 hg1))
   go_ret
   exact ⟨_, rfl, HO1.out, HB1.out⟩
theorem eqn_sagas (W : World) : (binOp .eql 32 (.slice none 0 0) (.slice none 0 0)).run Tryz.prog W = .ok (.bool true) W := by kernel_rfl
theorem eqs_sagas (W : World) (ad : Addr) (n c : Nat) : (binOp .eql 32 (.slice (some ad) n c) (.slice none 0 0)).run Tryz.prog W = .ok (.bool false) W := by kernel_rfl
set_option maxRecDepth 100000 in
theorem clone_sagas (v : Value) (xs : List Sg) (w : World) (h : RdV sagas w v xs) (hn : xs.length ≤ 2000000) :
  Calls Tryz.prog 79 #[v] w fun e w' => ∃ v', e = .returned v' ∧ OwnS sagas w' w.heap.size v' xs ∧ Below w.heap.size w w' := by
 obtain ⟨A, c, rfl, hr, hs⟩ := h
 obtain ⟨n, hl⟩ : ∃ n, xs.length = n := ⟨_, rfl⟩
 rw [hl] at hn hs ⊢
 cases A with
 | none =>
   obtain ⟨rfl, rfl⟩ := hs.nil rfl
   obtain rfl : xs = [] := List.eq_nil_of_length_eq_zero hl
   clear hr hs hl hn
   have e1 := eqn_sagas w
   go_enter Tryz.func79, Tryz.ntmps79
   go_wp2
   go_ret
   exact ⟨_, rfl, OwnS.nil, Below.refl _ _⟩
 | some ad =>
   have HR := Lib.hid hr
   have HL := Lib.hid hl
   clear hr hl hs
   have e1 := eqs_sagas w ad n c
   go_enter Tryz.func79, Tryz.ntmps79
   go_wp2_with (at_builtin; first
     | (refine wpList_append_all sagas 32 Tryz.underlying32 info_saga rfl _ rfl (.tmp 5) (.tmp 6) rfl w.heap.size _ [] xs rfl (OwnS.lit (S := sagas) w [] w.heap.size (by simp [maxLen]) (Nat.le_refl _) #[] rfl) ad n c rfl HL.out (HR.out.alloc _) (by simp only [List.length_nil]; omega) (by simp only [List.length_nil]; omega) (by simp) ?_
        intro v1 w1 ho1 hg1
        have HO1 := Lib.hid ho1
        have HB1 := Lib.hid (below_grown ((Below.refl w.heap.size w).alloc (Nat.le_refl _) (.cells #[] 68)) hg1 (by simp) (Nat.le_refl _))
        clear ho1 hg1))
   go_ret
   exact ⟨_, rfl, HO1.out, HB1.out⟩
theorem eqn_known (W : World) : (binOp .eql 33 (.slice none 0 0) (.slice none 0 0)).run Tryz.prog W = .ok (.bool true) W := by kernel_rfl
theorem eqs_known (W : World) (ad : Addr) (n c : Nat) : (binOp .eql 33 (.slice (some ad) n c) (.slice none 0 0)).run Tryz.prog W = .ok (.bool false) W := by kernel_rfl
set_option maxRecDepth 100000 in
theorem clone_known (v : Value) (xs : List Kn) (w : World) (h : RdV known w v xs) (hn : xs.length ≤ 2000000) :
  Calls Tryz.prog 112 #[v] w fun e w' => ∃ v', e = .returned v' ∧ OwnS known w' w.heap.size v' xs ∧ Below w.heap.size w w' := by
 obtain ⟨A, c, rfl, hr, hs⟩ := h
 obtain ⟨n, hl⟩ : ∃ n, xs.length = n := ⟨_, rfl⟩
 rw [hl] at hn hs ⊢
 cases A with
 | none =>
   obtain ⟨rfl, rfl⟩ := hs.nil rfl
   obtain rfl : xs = [] := List.eq_nil_of_length_eq_zero hl
   clear hr hs hl hn
   have e1 := eqn_known w
   go_enter Tryz.func112, Tryz.ntmps112
   go_wp2
   go_ret
   exact ⟨_, rfl, OwnS.nil, Below.refl _ _⟩
 | some ad =>
   have HR := Lib.hid hr
   have HL := Lib.hid hl
   clear hr hl hs
   have e1 := eqs_known w ad n c
   go_enter Tryz.func112, Tryz.ntmps112
   go_wp2_with (at_builtin; first
     | (refine wpList_append_all known 33 Tryz.underlying33 info_known rfl _ rfl (.tmp 5) (.tmp 6) rfl w.heap.size _ [] xs rfl (OwnS.lit (S := known) w [] w.heap.size (by simp [maxLen]) (Nat.le_refl _) #[] rfl) ad n c rfl HL.out (HR.out.alloc _) (by simp only [List.length_nil]; omega) (by simp only [List.length_nil]; omega) (by simp) ?_
        intro v1 w1 ho1 hg1
        have HO1 := Lib.hid ho1
        have HB1 := Lib.hid (below_grown ((Below.refl w.heap.size w).alloc (Nat.le_refl _) (.cells #[] 124)) hg1 (by simp) (Nat.le_refl _))
        clear ho1 hg1))
   go_ret
   exact ⟨_, rfl, HO1.out, HB1.out⟩
/-- What draftOf hands back: a state that may be changed, over slices of its own. -/
def DrOf (w : World) (s : St) (sl : List Sg) (kl : List Kn) (e : Ending) (w' : World) : Prop :=
 ∃ g va vp X Y, e = .returned (.pointer (some ⟨g, 0, none⟩)) ∧ Dr (fun b => b < w.heap.size ∨ X.ownBlock = some b ∨ Y.ownBlock = some b) w' g va vp X Y s ∧ OwnS sagas w' w.heap.size X sl ∧ OwnS known w' w.heap.size Y kl ∧ Below w.heap.size w w'
set_option maxRecDepth 100000 in
set_option maxHeartbeats 1000000 in
theorem draftOf_any (s : St) (X Y : Value) (A : Option Addr) (c : Nat) (B : Option Addr) (d : Nat) (sl : List Sg) (kl : List Kn) (w : World) (hs : StAt w s X Y A c B d) (hX : RdV sagas w X sl) (hY : RdV known w Y kl) (hn : s.acs.length ≤ 64) (hq : s.pys.length ≤ 2000000) (hsl : sl.length ≤ 2000000) (hkl : kl.length ≤ 2000000) :
  Calls Tryz.prog 100 #[stV s X Y A c B d] w (DrOf w s sl kl) := by
 obtain ⟨zs, ps, now⟩ := s
 obtain ⟨ha, hp, hsa, hsp⟩ := hs
 have HSP0 : RdV pays w (.slice B ps.length d) ps := ⟨B, d, rfl, hp, hsp⟩
 unfold stV
 dsimp only at *
 obtain ⟨n, hn'⟩ : ∃ n, zs.length = n := ⟨_, rfl⟩
 obtain ⟨q, hq'⟩ : ∃ q, ps.length = q := ⟨_, rfl⟩
 have hq64 := hq
 rw [hn'] at hn hsa ⊢
 rw [hq'] at hq HSP0 ⊢
 have hn58 : n ≤ 5864062014805 := by omega
 have al := (Below.refl w.heap.size w).alloc (Nat.le_refl _) (.cells #[.slice A n c, .slice B q d, X, Y, .int .i64 now] 35)
 have HN := Lib.hid hn'
 have HSA := Lib.hid (ha.alloc (.cells #[.slice A n c, .slice B q d, X, Y, .int .i64 now] 35))
 have HSP := Lib.hid (HSP0.below al)
 have HSX := Lib.hid (hX.below al)
 have HSY := Lib.hid (hY.below al)
 have HNA := Lib.hid hsa.nil
 obtain ⟨XA, XC, rfl, _, _⟩ := hX
 obtain ⟨YA, YC, rfl, _, _⟩ := hY
 obtain ⟨xn, hxn⟩ : ∃ xn, sl.length = xn := ⟨_, rfl⟩
 obtain ⟨yn, hyn⟩ : ∃ yn, kl.length = yn := ⟨_, rfl⟩
 have HAL := Lib.hid al
 have HQ := Lib.hid hq'
 have HXN := Lib.hid hxn
 have HYN := Lib.hid hyn
 have HS0 := Lib.hid (Blk.new w 35 #[.slice A n c, .slice B q d, .slice XA xn XC, .slice YA yn YC, .int .i64 now])
 rw [hxn] at HSX HSA HSP HSY HAL ⊢
 rw [hyn] at HSX HSA HSP HSY HAL ⊢
 clear ha hp hsa hsp HSP0 hn' hq' hxn hyn al
 go_enter Tryz.func100, Tryz.ntmps100
 go_upto_region 1 with fail
 generalize w.alloc (.cells #[.slice A n c, .slice B q d, .slice XA xn XC, .slice YA yn YC, .int .i64 now] 35) = w0 at HSA HSP HSX HSY HAL HS0 ⊢
 refine wp_region_held_drew (S := fun w' => Below w0.heap.size w0 w') (by kernel_rfl) (Below.refl _ _).drew (fun hHeld => ?_)
 refine tk 0 3 (v := ?_) ?_ ?_
 rotate_left
 · intro w' hSw
   go_simp
   (try with_reducible rfl)
 (try simp only [Act.put, sA, sB, sC])
 refine tk 1 4 (v := ?_) ?_ ?_
 rotate_left
 · intro w' hSw
   have hSw' := hSw
   (try dsimp only at hSw')
   obtain ⟨k0, k1, k2, k3, k4⟩ := (show _ ∧ _ ∧ _ ∧ _ ∧ _ from ⟨(HS0.out.later hSw').cell 0 rfl, (HS0.out.later hSw').cell 1 rfl, (HS0.out.later hSw').cell 2 rfl, (HS0.out.later hSw').cell 3 rfl, (HS0.out.later hSw').cell 4 rfl⟩)
   go_simp
   (try with_reducible rfl)
 (try simp only [Act.put, sA, sB, sC])
 refine tk 3 6 (v := ?_) ?_ ?_
 rotate_left
 · intro w' hSw
   go_simp
   (try with_reducible rfl)
 (try simp only [Act.put, sA, sB, sC])
 refine tk 4 7 (v := ?_) ?_ ?_
 rotate_left
 · intro w' hSw
   have hSw' := hSw
   (try dsimp only at hSw')
   obtain ⟨k0, k1, k2, k3, k4⟩ := (show _ ∧ _ ∧ _ ∧ _ ∧ _ from ⟨(HS0.out.later hSw').cell 0 rfl, (HS0.out.later hSw').cell 1 rfl, (HS0.out.later hSw').cell 2 rfl, (HS0.out.later hSw').cell 3 rfl, (HS0.out.later hSw').cell 4 rfl⟩)
   go_simp
   (try with_reducible rfl)
 (try simp only [Act.put, sA, sB, sC])
 refine tk 6 9 (v := ?_) ?_ ?_
 rotate_left
 · intro w' hSw
   go_simp
   (try with_reducible rfl)
 (try simp only [Act.put, sA, sB, sC])
 refine tk 7 10 (v := ?_) ?_ ?_
 rotate_left
 · intro w' hSw
   have hSw' := hSw
   (try dsimp only at hSw')
   obtain ⟨k0, k1, k2, k3, k4⟩ := (show _ ∧ _ ∧ _ ∧ _ ∧ _ from ⟨(HS0.out.later hSw').cell 0 rfl, (HS0.out.later hSw').cell 1 rfl, (HS0.out.later hSw').cell 2 rfl, (HS0.out.later hSw').cell 3 rfl, (HS0.out.later hSw').cell 4 rfl⟩)
   go_simp
   (try with_reducible rfl)
 (try simp only [Act.put, sA, sB, sC])
 refine tk 9 12 (v := ?_) ?_ ?_
 rotate_left
 · intro w' hSw
   go_simp
   (try with_reducible rfl)
 (try simp only [Act.put, sA, sB, sC])
 refine tk 10 13 (v := ?_) ?_ ?_
 rotate_left
 · intro w' hSw
   have hSw' := hSw
   (try dsimp only at hSw')
   obtain ⟨k0, k1, k2, k3, k4⟩ := (show _ ∧ _ ∧ _ ∧ _ ∧ _ from ⟨(HS0.out.later hSw').cell 0 rfl, (HS0.out.later hSw').cell 1 rfl, (HS0.out.later hSw').cell 2 rfl, (HS0.out.later hSw').cell 3 rfl, (HS0.out.later hSw').cell 4 rfl⟩)
   go_simp
   (try with_reducible rfl)
 (try simp only [Act.put, sA, sB, sC])
 refine tk 12 15 (v := ?_) ?_ ?_
 rotate_left
 · intro w' hSw
   go_simp
   (try with_reducible rfl)
 (try simp only [Act.put, sA, sB, sC])
 refine tk 13 16 (v := ?_) ?_ ?_
 rotate_left
 · intro w' hSw
   have hSw' := hSw
   (try dsimp only at hSw')
   obtain ⟨k0, k1, k2, k3, k4⟩ := (show _ ∧ _ ∧ _ ∧ _ ∧ _ from ⟨(HS0.out.later hSw').cell 0 rfl, (HS0.out.later hSw').cell 1 rfl, (HS0.out.later hSw').cell 2 rfl, (HS0.out.later hSw').cell 3 rfl, (HS0.out.later hSw').cell 4 rfl⟩)
   go_simp
   (try with_reducible rfl)
 (try simp only [Act.put, sA, sB, sC])
 refine wpAnyH_ready (rs := [2]) (by kernel_rfl) (by simp) ?_
 refine AllReadyH.cons (i := 2) rfl (fun K hK => ?_) AllReadyH.nil
 go_simp
 go_at_call 68
 refine (clone_acc A n c zs _ HN.out HSA.out.drew hn58 HNA.out).mono ?_
 rintro _ w1 ⟨rfl, ho1, hb1⟩
 have hb1' : Below w0.heap.size w0 w1 := (Below.refl w0.heap.size w0).drew.trans hb1
 obtain ⟨g1, hg1⟩ : ∃ g1, g1 = w0.drew.heap.size := ⟨_, rfl⟩
 rw [← hg1] at ho1 ⊢
 have HO1 := Lib.hid ho1
 have HG1 := Lib.hid hg1
 clear hg1 ho1 hb1
 refine hK.out _ _ hb1' (fun hHeld => ?_)
 clear hK K
 (try simp only [Act.put, sA, sB, sC])
 refine wpAnyH_ready (rs := [5]) (by kernel_rfl) (by simp) ?_
 refine AllReadyH.cons (i := 5) rfl (fun K hK => ?_) AllReadyH.nil
 go_simp
 go_at_call 78
 refine (clone_pays _ ps _ (HSP.out.below hb1') hq64).mono ?_
 rintro _ w2 ⟨vp, rfl, ho2, hb2⟩
 obtain ⟨P2, d2, hv2, _, _, _, _⟩ := ho2.form
 rw [HQ.out] at hv2
 subst hv2
 have hb2' : Below w0.heap.size w0 w2 := hb1'.trans (hb2.mono hb1'.size)
 refine hK.out _ _ hb2' (fun hHeld => ?_)
 clear hK K
 (try simp only [Act.put, sA, sB, sC])
 refine wpAnyH_ready (rs := [8]) (by kernel_rfl) (by simp) ?_
 refine AllReadyH.cons (i := 8) rfl (fun K hK => ?_) AllReadyH.nil
 go_simp
 go_at_call 79
 refine (clone_sagas _ sl _ (HSX.out.below hb2') hsl).mono ?_
 rintro _ w3 ⟨vs, rfl, ho3, hb3⟩
 obtain ⟨P3, d3, hv3, _, _, _, _⟩ := ho3.form
 rw [HXN.out] at hv3
 subst hv3
 have hb3' : Below w0.heap.size w0 w3 := hb2'.trans (hb3.mono hb2'.size)
 refine hK.out _ _ hb3' (fun hHeld => ?_)
 clear hK K
 (try simp only [Act.put, sA, sB, sC])
 refine wpAnyH_ready (rs := [11]) (by kernel_rfl) (by simp) ?_
 refine AllReadyH.cons (i := 11) rfl (fun K hK => ?_) AllReadyH.nil
 go_simp
 go_at_call 112
 refine (clone_known _ kl _ (HSY.out.below hb3') hkl).mono ?_
 rintro _ w4 ⟨vk, rfl, ho4, hb4⟩
 obtain ⟨P4, d4, hv4, _, _, _, _⟩ := ho4.form
 rw [HYN.out] at hv4
 subst hv4
 have hb4' : Below w0.heap.size w0 w4 := hb3'.trans (hb4.mono hb3'.size)
 refine hK.out _ _ hb4' (fun hHeld => ?_)
 clear hK K
 (try simp only [Act.put, sA, sB, sC])
 refine tk 14 17 (v := ?_) ?_ ?_
 rotate_left
 · intro w' hSw
   go_simp
   (try with_reducible rfl)
 (try simp only [Act.put, sA, sB, sC])
 refine wpAnyH_ready (rs := [15]) (by kernel_rfl) (by simp) ?_
 refine AllReadyH.cons (i := 15) rfl (fun K hK => ?_) AllReadyH.nil
 go_simp
 refine hK.out _ _ (hb4'.alloc hb4'.size _) (fun hHeld => ?_)
 clear hK K
 (try simp only [Act.put, sA, sB, sC])
 refine tk 16 2 (v := ?_) ?_ ?_
 rotate_left
 · intro w' hSw
   go_simp
   (try with_reducible rfl)
 (try simp only [Act.put, sA, sB, sC])
 refine wpAnyH_done (by kernel_rfl) ?_ _
 go_wp2
 go_ret
 have H1 : OwnA w1 w0.heap.size (.slice (some ⟨g1, 0, none⟩) n n) zs := HO1.out.less (by rw [HG1.out]; exact Nat.le_refl _)
 have H2 : OwnA w4 w0.heap.size (.slice (some ⟨g1, 0, none⟩) n n) zs := H1.below ((hb2.trans (hb3.mono hb2.size)).trans (hb4.mono (Nat.le_trans hb2.size hb3.size)))
 have P2' : OwnS pays w4 w1.heap.size (.slice P2 q d2) ps := ho2.below (hb3.trans (hb4.mono hb3.size))
 have S2 : OwnS sagas w4 w2.heap.size (.slice P3 xn d3) sl := ho3.below hb4
 have s1 := hb1'.size
 have s2 := hb2.size
 have s3 := hb3.size
 have s4 := hb4.size
 have s0 := HAL.out.size
 have hlt1 := fun b (e : (Value.slice (some ⟨g1, 0, none⟩) n n).ownBlock = some b) => (World.ownsRow.lt H1 b e).2
 have hge1 := fun b (e : (Value.slice (some ⟨g1, 0, none⟩) n n).ownBlock = some b) => (World.ownsRow.lt H1 b e).1
 have hlt2 := fun b (e : (Value.slice P2 q d2).ownBlock = some b) => (World.ownsRow.lt ho2 b e).2
 have hge2 := fun b (e : (Value.slice P2 q d2).ownBlock = some b) => (World.ownsRow.lt ho2 b e).1
 have hlt3 := fun b (e : (Value.slice P3 xn d3).ownBlock = some b) => (World.ownsRow.lt ho3 b e).2
 have hge3 := fun b (e : (Value.slice P3 xn d3).ownBlock = some b) => (World.ownsRow.lt ho3 b e).1
 have hlt4 := fun b (e : (Value.slice P4 yn d4).ownBlock = some b) => (World.ownsRow.lt ho4 b e).2
 have hge4 := fun b (e : (Value.slice P4 yn d4).ownBlock = some b) => (World.ownsRow.lt ho4 b e).1
 refine ⟨w4.heap.size, _, _, .slice P3 xn d3, .slice P4 yn d4, rfl, ⟨Blk.new _ _ _, (H2.less (Nat.zero_le _)).alloc _, (P2'.less (Nat.zero_le _)).alloc _, fun b e => ⟨?_, fun e' => ?_, ?_⟩, fun b e => ⟨?_, ?_⟩, ?_, ?_⟩, (S2.less (by omega)).alloc _, (ho4.less (by omega)).alloc _, ?_⟩
 · have := hlt1 b e; omega
 · have := hlt1 b e; have := hge2 b e'; omega
 · have := hge1 b e
   have := hlt1 b e
   rintro (h | h | h)
   · omega
   · have := hge3 b h; omega
   · have := hge4 b h; omega
 · have := hlt2 b e; omega
 · have := hge2 b e
   have := hlt2 b e
   rintro (h | h | h)
   · omega
   · have := hge3 b h; omega
   · have := hge4 b h; omega
 · rintro (h | h | h)
   · omega
   · have := hlt3 _ h; omega
   · have := hlt4 _ h; omega
 · rintro k (h | h | h)
   · simp; omega
   · have := hlt3 _ h; simp; omega
   · have := hlt4 _ h; simp; omega
 · exact ((HAL.out.trans (hb4'.mono s0)).alloc (by omega) _)
end Go.Proofs.YteifgmdaggiaaaaGreatDoor
