/-
  Proved: where each request comes to its end ahead of the next one, an engine does and tells what a bank does
  Conditions: those of the card alone (errors.errorType is as the program's text lays it).
-/
import Derived.Test.YteifgmdaggiaaaaGreatDoorWLaid
import Derived.Test.YteifgmdaggiaaaaGreatDoorWBase
import Derived.Test.YteifgmdaggiaaaaGreatDoorWEngineWholeLaw
import Derived.Test.YteifgmdaggiaaaaGreatDoorWBulk
import Derived.JoinedCond
import Derived.Deep.DeepHandedRow
import Derived.Stop.Joined
import Derived.Test.YteifgmdaggiaaaaGreatDoorWGrH
import Derived.Test.YteifgmdaggiaaaaGreatDoorWGrP
import Derived.Test.YteifgmdaggiaaaaGreatDoorWFlags
import Derived.Test.YteifgmdaggiaaaaGreatDoorTie
import Derived.Test.YteifgmdaggiaaaaGreatDoorCards
import Derived.SevenTiedAt
namespace Go.Proofs.YteifgmdaggiaaaaGreatDoor
open Go.ChangeShapes Go.WideShapes Go.RowKit Go.ChangeAt
set_option linter.unusedVariables false
set_option maxRecDepth 100000 in
theorem engineWhole_contract (H : Type) (enc : TypeId × Value → H) (W : World) (base : Nat) (args : Array Value) (ds gs : List (DataW H)) (before : List MemPlace)
  (hval0 : ∀ (j : Nat) t v, Tryz.f3.params[j]? = some t → args[j]? = some v → Value.okWide Tryz.prog W .any base t v)
  (hW : DataW.Whole enc Tryz.prog Tryz.f3.params.toList Rows.engineWholeSpec.vars false W args.toList ds gs before) (hk0 : Rows.uptoSmall H (ds ++ gs) = true) (hL : laidMetH Tryz.prog lst W) :
  Calls Tryz.prog 3 args W fun e W' => ∃ v, e = .returned v ∧ Rows.engineWholeSpec.post enc Tryz.prog Tryz.f3 false true false false W args v W' := by
 have hk := bulk_bound hk0
 clear hk0
 have hval : ∀ (j : Nat) t v, Tryz.f3.params[j]? = some t → args[j]? = some v → Value.okWide Tryz.prog W .any base t v := hval0
 have hW' := hW
 obtain ⟨p, q, hA0, hV, rfl, hfz, hnd⟩ := hW
 have hA : DataW.TrodAll enc Tryz.prog W 0 (fun _ => true) true Tryz.f3.params.toList args.toList ds p := hA0
 rw [Tryz.params3] at hA hval
 obtain ⟨v0, vs0, d0, ds0, p0, q0, hargs, rfl, rfl, h0, r0⟩ := trodAll_cons hA
 obtain ⟨v1, vs1, d1, ds1, p1, q1, rfl, rfl, rfl, h1, r1⟩ := trodAll_cons r0
 obtain ⟨v2, vs2, d2, ds2, p2, q2, rfl, rfl, rfl, h2, r2⟩ := trodAll_cons r1
 obtain ⟨v3, vs3, d3, ds3, p3, q3, rfl, rfl, rfl, h3, r3⟩ := trodAll_cons r2
 obtain ⟨rfl, rfl, rfl⟩ := trodAll_nil r3
 obtain rfl : args = #[v0, v1, v2, v3] := by cases args; simp_all
 obtain ⟨rfl, rfl⟩ := trodVars_none hV
 have k0 := h0
 have lt0 : ∀ x ∈ p0, x.block < W.heap.size := by obtain ⟨m, hm⟩ := k0; exact DataW.trod_lt m _ _ _ hm
 have w0 : BookAt W v0 := book_arg (hval 0 25 v0 rfl rfl) h0
 have k1 := h1
 have lt1 : ∀ x ∈ p1, x.block < W.heap.size := by obtain ⟨m, hm⟩ := k1; exact DataW.trod_lt m _ _ _ hm
 obtain ⟨a1, len1, cap1, rfl⟩ := okWide_slice Tryz.underlying26 (hval 1 26 v1 rfl rfl)
 obtain ⟨w1, r1'⟩ : IsRecs paids Pd.fits W a1 len1 cap1 ∧ cap1 ≤ 1048576 := by
  obtain ⟨fuel, hf⟩ := h1
  obtain ⟨h1, h2⟩ := isRecs_of paids Pd.fits Tryz.underlying26 (by kernel_rfl) (fun _ _ _ h => pd_of h) hf
  have hpart := bulk_part (d := d1) (show d1 ∈ _ by simp) hk
  refine ⟨h1, ?_⟩
  rcases h2 with h2 | ⟨es, sp, h2, h3⟩
  · omega
  · dsimp only at h2
    subst h2
    have hs := bulk_slice hpart
    omega
 have k2 := h2
 have lt2 : ∀ x ∈ p2, x.block < W.heap.size := by obtain ⟨m, hm⟩ := k2; exact DataW.trod_lt m _ _ _ hm
 obtain ⟨a2, len2, cap2, rfl⟩ := okWide_slice Tryz.underlying27 (hval 2 27 v2 rfl rfl)
 obtain ⟨w2, r2'⟩ : IsRecs asks Ak.fits W a2 len2 cap2 ∧ cap2 ≤ 1048576 := by
  obtain ⟨fuel, hf⟩ := h2
  obtain ⟨h1, h2⟩ := isRecs_of asks Ak.fits Tryz.underlying27 (by kernel_rfl) (fun _ _ _ h => ak_of h) hf
  have hpart := bulk_part (d := d2) (show d2 ∈ _ by simp) hk
  refine ⟨h1, ?_⟩
  rcases h2 with h2 | ⟨es, sp, h2, h3⟩
  · omega
  · dsimp only at h2
    subst h2
    have hs := bulk_slice hpart
    omega
 have k3 := h3
 have lt3 : ∀ x ∈ p3, x.block < W.heap.size := by obtain ⟨m, hm⟩ := k3; exact DataW.trod_lt m _ _ _ hm
 obtain ⟨a3, len3, cap3, rfl⟩ := okWide_slice Tryz.underlying28 (hval 3 28 v3 rfl rfl)
 obtain ⟨w3, r3'⟩ : IsRecs flags (fun _ => True) W a3 len3 cap3 ∧ cap3 ≤ 1048576 := by
  obtain ⟨fuel, hf⟩ := h3
  obtain ⟨h1, h2⟩ := isRecs_of flags (fun _ => True) Tryz.underlying28 (by kernel_rfl) (fun _ _ _ h => flag_of h) hf
  have hpart := bulk_part (d := d3) (show d3 ∈ _ by simp) hk
  refine ⟨h1, ?_⟩
  rcases h2 with h2 | ⟨es, sp, h2, h3⟩
  · omega
  · dsimp only at h2
    subst h2
    have hs := bulk_slice hpart
    omega
 clear hA0 hval0
 have hh := hasErr_of_laid hL
 refine (engineWhole_walk W v0 w0 a1 len1 cap1 w1 r1' a2 len2 cap2 w2 r2' a3 len3 cap3 w3 r3' hh).mono fun e W' ⟨he, bel⟩ => ?_
 subst he
 exact ⟨_, rfl, _, _, _, [], _, [], hW', trodAll_mk1 (shut_bool Tryz.underlying4 _), (trodAll_cons_mk (Below.trod laidOut (by kernel_rfl) (of_decide_eq_true (by kernel_rfl)) k0 bel lt0) (trodAll_cons_mk (Below.trod laidOut (by kernel_rfl) (of_decide_eq_true (by kernel_rfl)) k1 bel lt1) (trodAll_cons_mk (Below.trod laidOut (by kernel_rfl) (of_decide_eq_true (by kernel_rfl)) k2 bel lt2) (trodAll_cons_mk (Below.trod laidOut (by kernel_rfl) (of_decide_eq_true (by kernel_rfl)) k3 bel lt3) trodAll_mk0)))), rfl, bel.frame _, fun h => by cases h⟩
set_option maxRecDepth 100000 in
theorem engineWhole_lifted (os : Os) (started : os.Started) (H : Type) (enc : TypeId × Value → H) (F : Stop.Interp) :
  ReturnsInHanded {} Tryz.checked os 3 .any ((Rows.OpenSpec.upto Rows.engineWholeSpec).preRow enc Tryz.prog Tryz.f3 Rows.engineWholeUptoRow.domain false Rows.engineWholeUptoRow.laid) (((Rows.OpenSpec.upto Rows.engineWholeSpec).at F).post enc Tryz.prog Tryz.f3 false true false false) := by
 refine returnsInHanded_of_row (C := Tryz.checked) (s := Rows.OpenSpec.upto Rows.engineWholeSpec) Tryz.own started (by kernel_rfl) Tryz.func3
  (witness_row_at (enc := enc) (C := Tryz.checked) false (laidWorld os) #[.agg #[.slice none 0 0, .slice none 0 0, .slice none 0 0], .slice none 0 0, .slice none 0 0, .slice none 0 0] rfl (by kernel_rfl) (by kernel_rfl) (by kernel_rfl)
    (OpenSpec.preRow_of_cond 8 (x := ([.agg [.nil, .nil, .nil], .nil, .nil, .nil], [], [])) (by kernel_rfl) (by kernel_rfl) (fun k hk => by cases hk; kernel_rfl) (by kernel_rfl) (laidWorld_met os _))) ?_
 intro W base args ds gs before hval hW _ hcond _ hL _ _
 exact engineWhole_contract H enc W base args ds gs before hval hW (hcond _ rfl) hL
theorem engineWhole_row : Rows.EngineWholeUptoSaid :=
 OpenClaim.holds_of_cond 3 Tryz.f3 rfl rfl rfl rfl rfl rfl rfl ⟨rfl, rfl, rfl, rfl, rfl⟩ rfl rfl rfl rfl rfl (by kernel_rfl) Tryz.func3 (by kernel_rfl)
  (of_decide_eq_true (by kernel_rfl)) (by unfold Func.isWrapper; rw [if_neg (of_decide_eq_false (by kernel_rfl))]; exact ⟨rfl, rfl⟩)
  (fun os started H enc _ F => by rw [OpenClaim.pre_eq_preRow]; exact engineWhole_lifted os started H enc F)
theorem engineWhole_card : Rows.EngineWholeUptoCardSaid :=
 Claim7.holds_tied_plain_at .later [] [.handle] true Rows.engineWholeUptoCard.stood.harness true
  engineWhole_row (fun _ h => by cases h) (by kernel_rfl) (fun _ h => by cases h) engineWholeUpto_row_tie rfl ⟨rfl, rfl⟩ (by kernel_rfl) rfl
  (fun f fn hf hfn => by
    obtain rfl : f = 3 := Option.some.inj ((show Tryz.prog.funcNamed "hawala/hawalalaw17.EngineWhole" = some 3 by kernel_rfl).symm.trans hf) |>.symm
    obtain rfl : fn = Tryz.f3 := (Option.some.inj (Tryz.func3.symm.trans hfn)).symm
    exact ⟨by kernel_rfl, fun j t ht => by
      rw [Tryz.params3] at ht
      have hall : ∀ t ∈ (#[25, 26, 27, 28] : Array Nat).toList, Tryz.prog.wantsStandIn t = false := by
        intro t ht
        simp only [List.mem_cons, List.not_mem_nil, or_false] at ht
        rcases ht with rfl | rfl | rfl | rfl <;> kernel_rfl
      exact hall t (by simpa using Array.mem_of_getElem? ht)⟩)
  (by kernel_rfl)
#print axioms engineWhole_card
end Go.Proofs.YteifgmdaggiaaaaGreatDoor
