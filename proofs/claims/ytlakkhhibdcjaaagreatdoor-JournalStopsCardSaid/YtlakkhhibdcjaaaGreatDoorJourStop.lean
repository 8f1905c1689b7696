/-
  What a disk that has stopped has when it goes on: a journal's files, cut somewhere.
-/
import Derived.Test.YtlakkhhibdcjaaaGreatDoorJourArmed
namespace Go.Proofs.YtlakkhhibdcjaaaGreatDoor
open Go Go.RowKit Go.Maps
set_option linter.unusedVariables false

theorem scanned_exists : ∀ (n : Nat) (bs : List Nat), bs.length ≤ n → ∃ rs, Scanned bs rs
  | 0, bs, h => ⟨[], by simp, bs, by simp [flat_nil], fone_short (by omega)⟩
  | n + 1, bs, h => by
    cases hf : fone bs with
    | none => exact ⟨[], by simp, bs, by simp [flat_nil], hf⟩
    | some r =>
      have h1 := fone_some hf
      have h2 := fone_split hf
      obtain ⟨rs, hl, t, ht, hn⟩ := scanned_exists n (bs.drop (6 + r.length)) (by rw [List.length_drop]; omega)
      refine ⟨r :: rs, ?_, t, ?_, hn⟩
      · intro x hx
        rcases List.mem_cons.1 hx with rfl | hx
        · exact h1.1
        · exact hl x hx
      · rw [flat_cons, List.append_assoc, ← ht]; exact h2
/-- Of records that are cut behind the first ones those are read that end ahead of the cut. -/
theorem scanned_part {rs ns : List (List Nat)} (h1 : ∀ r ∈ rs, r.length ≤ 16384) (h2 : ∀ r ∈ ns, r.length ≤ 16384) (c : Nat) (hc : (flat rs).length ≤ c) (hc2 : c ≤ (flat (rs ++ ns)).length) :
    ∃ i, i ≤ ns.length ∧ Scanned ((flat (rs ++ ns)).take c) (rs ++ ns.take i) := by
  have hall : ∀ r ∈ rs ++ ns, r.length ≤ 16384 := fun r hr => (List.mem_append.1 hr).elim (h1 r) (h2 r)
  obtain ⟨ys, hy⟩ := scanned_exists _ ((flat (rs ++ ns)).take c) (Nat.le_refl _)
  have h3 := Scanned.cut (rs ++ ns) hall hc2 hy
  have h4 : (flat (rs ++ ns)).take c = flat rs ++ ((flat ns).take (c - (flat rs).length)) := by
    rw [flat_append, List.take_append, List.take_of_length_le hc]
  obtain ⟨zs, hz⟩ := Scanned.all rs h1 (h4 ▸ hy)
  have hyl : ys.length = rs.length + zs.length := by rw [hz, List.length_append]
  have h5 : ys.length ≤ (rs ++ ns).length := by have := congrArg List.length h3.1; rw [List.length_take] at this; omega
  rw [List.length_append] at h5
  refine ⟨zs.length, by omega, ?_⟩
  have h6 : ys = rs ++ ns.take zs.length := by
    rw [h3.1, hyl, List.take_append, List.take_of_length_le (by omega)]
    congr 2
    omega
  rw [← h6]
  exact hy

theorem rst_safe (keep : Int) (k : Int) (zs : List Nat) : rst keep (k, zs, zs.length) = (k, zs, zs.length) := by simp [rst, Int.emod_one]
theorem rst_any (keep : Int) (k : Int) (zs : List Nat) (n : Nat) (hn : n ≤ zs.length) : ∃ c, n ≤ c ∧ c ≤ zs.length ∧ rst keep (k, zs, n) = (k, zs.take c, (zs.take c).length) := by
  have h1 := Int.emod_nonneg keep (show ((zs.length - n : Nat) : Int) + 1 ≠ 0 by omega)
  have h2 := Int.emod_lt_of_pos keep (show (0 : Int) < ((zs.length - n : Nat) : Int) + 1 by omega)
  obtain ⟨q, hq⟩ : ∃ q, q = (keep % (((zs.length - n : Nat) : Int) + 1)).toNat := ⟨_, rfl⟩
  have hq2 : q ≤ zs.length - n := by omega
  refine ⟨n + q, by omega, by omega, ?_⟩
  simp only [rst, ← hq]
  rw [List.length_take]
  congr 2
  omega
theorem snapF_rst (keep : Int) (t : Nat) (b : List Nat) : (snapF t b).map (rst keep) = snapF t b := by
  unfold snapF
  split
  · rfl
  · simp only [List.map_cons, List.map_nil, rst_safe]
theorem recF_rst (keep : Int) (t : Nat) (o : Option (List (List Nat))) : (recF t o).map (rst keep) = recF t o := by
  cases o with
  | none => rfl
  | some qs => simp only [recF, List.map_cons, List.map_nil, rst_safe]
theorem jf_putz (t : Nat) (b : List Nat) (o : Option (List (List Nat))) (zs : List Nat) (n : Nat) : pput (jf t b o) (2 + (t : Int)) zs n = snapF t b ++ [(2 + (t : Int), zs, n)] := by
  have h0 : ¬ (2 + (t : Int) < 0) := by omega
  have h1 : ((0 : Int) == 2 + (t : Int)) = false := by simp; omega
  unfold jf snapF
  cases o <;> split <;> simp [recF, pput, pdel, pins, h0, h1]
theorem jf_put1 (t : Nat) (b : List Nat) (o : Option (List (List Nat))) (zs : List Nat) (n : Nat) : pput (jf t b o) 1 zs n = snapF t b ++ ((1, zs, n) :: recF t o) := by
  have h1 : (1 : Int) < 2 + (t : Int) := by omega
  have h2 : ((2 + (t : Int)) == 1) = false := by simp; omega
  unfold jf snapF
  cases o <;> split <;> simp [recF, pput, pdel, pins, h1, h2]
theorem snapF_kept (t : Nat) (b : List Nat) (k : Int) : (snapF t b).filter (kept k) = snapF t b := by
  unfold snapF
  split <;> simp [kept]
theorem recF_kept (t : Nat) (o : Option (List (List Nat))) : (recF t o).filter (kept (2 + (t : Int))) = recF t o := by
  cases o <;> simp [recF, kept]
theorem recF_other (t : Nat) (o : Option (List (List Nat))) : (recF t o).filter (kept (2 + ((t + 1 : Nat) : Int))) = [] := by
  cases o with
  | none => rfl
  | some qs =>
    have h1 : ((2 + (t : Int)) == 0) = false := by simp; omega
    have h2 : ((2 + (t : Int)) == 2 + ((t + 1 : Nat) : Int)) = false := by simp; omega
    simp only [recF, List.filter_cons, kept, h1, h2]
    rfl

section
variable {S T : Nat → Prop} {w w' : World} {base jb sb : Nat} {room : Int} {s : DS} {t : Nat} {b b' : List Nat} {rs ns : List (List Nat)} {o : Option (List (List Nat))} {ps : List PF}

/-- The disk goes on behind an Append at which it stopped. -/
theorem restart_append (hd : DiskQ w S base sb room (pput (jf t b o) (2 + (t : Int)) (flat (rs ++ ns)) (flat rs).length) s) (keep : Int) (hkeep : -9223372036854775808 ≤ keep ∧ keep ≤ 9223372036854775807) (h1 : ∀ r ∈ rs, r.length ≤ 16384) (h2 : ∀ r ∈ ns, r.length ≤ 16384) (hsm : t ≤ 100000) (hsnap : (snapRec t b).length ≤ 16384)
    (hl : (flat (rs ++ ns)).length ≤ 300000) (hbase : base ≤ w.heap.size) :
    Calls Tryz.prog 16 #[.pointer (some ⟨sb, 0, none⟩), .int .i64 keep] w fun e w' => e = .returned (.tuple #[]) ∧ ∃ i zs, i ≤ ns.length ∧ Scanned zs (rs ++ ns.take i) ∧ zs.length ≤ 300000 ∧ StepQ S w base sb room (snapF t b ++ [(2 + (t : Int), zs, zs.length)]) calm w' := by
  rw [jf_putz] at hd
  obtain ⟨c, hc1, hc2, hc⟩ := rst_any keep (2 + (t : Int)) (flat (rs ++ ns)) (flat rs).length (by rw [flat_append, List.length_append]; omega)
  obtain ⟨i, hi, hsc⟩ := scanned_part h1 h2 c hc1 hc2
  refine (restart_q hd keep hkeep ?_ (fun p hp => ?_) hbase).mono ?_
  · have := jf_len t b none
    unfold jf at this
    simp only [recF, List.append_nil] at this
    rw [List.length_append]
    simp
    omega
  · rcases List.mem_append.1 hp with hp | hp
    · unfold snapF at hp
      split at hp
      · cases hp
      · simp at hp
        subst hp
        refine ⟨?_, wf0⟩
        simp only [fmk_length]
        omega
    · simp at hp
      subst hp
      exact ⟨by simp only; omega, turn_wf t (by omega)⟩
  · rintro e w' ⟨rfl, hst⟩
    rw [List.map_append, snapF_rst, List.map_cons, List.map_nil, hc] at hst
    refine ⟨rfl, i, _, hi, hsc, ?_, hst⟩
    rw [List.length_take]
    omega

/-- .. behind a Save at which it stopped ahead of the rename's end. -/
theorem restart_save {n : Nat} (hd : DiskQ w S base sb room (pput (jf t b o) 1 (fmk (snapRec ((t : Int) + 1) b')) n) s) (keep : Int) (hkeep : -9223372036854775808 ≤ keep ∧ keep ≤ 9223372036854775807) (hsm : t ≤ 100000) (hsnap : (snapRec t b).length ≤ 16384) (hsh : (snapRec ((t : Int) + 1) b').length ≤ 16384)
    (hfits : (ptotal (jf t b o) : Int) ≤ 262144) (hbase : base ≤ w.heap.size) :
    Calls Tryz.prog 16 #[.pointer (some ⟨sb, 0, none⟩), .int .i64 keep] w fun e w' => e = .returned (.tuple #[]) ∧ ∃ zs m, zs.length ≤ 300000 ∧ StepQ S w base sb room (snapF t b ++ ((1, zs, m) :: recF t o)) calm w' := by
  have hn : n ≤ (fmk (snapRec ((t : Int) + 1) b')).length := by
    rw [jf_put1] at hd
    exact (hd.lt (k := 1) (zs := fmk (snapRec ((t : Int) + 1) b')) (n := n) (by simp)).2
  rw [jf_put1] at hd
  obtain ⟨c, hc1, hc2, hc⟩ := rst_any keep 1 _ n hn
  have hmem : ∀ p ∈ recF t o, p.2.1.length ≤ 262144 ∧ p.1 = 2 + (t : Int) := fun p hp => by
    have h1 := jf_mem t b o p (by unfold jf; exact List.mem_append_right _ hp)
    refine ⟨by omega, ?_⟩
    cases o with
    | none => cases hp
    | some qs => simp [recF] at hp; rw [hp]
  refine (restart_q hd keep hkeep ?_ (fun p hp => ?_) hbase).mono ?_
  · have := jf_len t b o
    unfold jf at this
    simp only [List.length_append, List.length_cons] at this ⊢
    omega
  · rcases List.mem_append.1 hp with hp | hp
    · unfold snapF at hp
      split at hp
      · cases hp
      · simp at hp
        subst hp
        refine ⟨?_, wf0⟩
        simp only [fmk_length]
        omega
    · rcases List.mem_cons.1 hp with rfl | hp
      · refine ⟨?_, wf3 1 (by omega)⟩
        simp only [fmk_length]
        omega
      · have h1 := hmem p hp
        exact ⟨by omega, by rw [h1.2]; exact turn_wf t (by omega)⟩
  · rintro e w' ⟨rfl, hst⟩
    rw [List.map_append, snapF_rst, List.map_cons, recF_rst, hc] at hst
    refine ⟨rfl, _, _, ?_, hst⟩
    rw [List.length_take, fmk_length]
    omega

/-- .. behind a Save at which it stopped behind the rename. -/
theorem restart_late {qs : List (List Nat)} (hd : DiskQ w S base sb room (snapF (t + 1) b' ++ recF t (some qs)) s) (keep : Int) (hkeep : -9223372036854775808 ≤ keep ∧ keep ≤ 9223372036854775807) (hsm : t ≤ 100000) (hsh : (snapRec ((t : Int) + 1) b').length ≤ 16384) (hq : (flat qs).length ≤ 300000) (hbase : base ≤ w.heap.size) :
    Calls Tryz.prog 16 #[.pointer (some ⟨sb, 0, none⟩), .int .i64 keep] w fun e w' => e = .returned (.tuple #[]) ∧ StepQ S w base sb room (snapF (t + 1) b' ++ recF t (some qs)) calm w' := by
  refine (restart_q hd keep hkeep ?_ (fun p hp => ?_) hbase).mono ?_
  · simp [snapF, recF]
  · rcases List.mem_append.1 hp with hp | hp
    · simp [snapF] at hp
      subst hp
      refine ⟨?_, wf0⟩
      simp only [fmk_length]
      omega
    · simp [recF] at hp
      subst hp
      exact ⟨by simp only; omega, turn_wf t (by omega)⟩
  · rintro e w' ⟨rfl, hst⟩
    rw [List.map_append, snapF_rst, recF_rst] at hst
    exact ⟨rfl, hst⟩

theorem open_appended {zs : List Nat} (hd : DiskQ w S base sb room (snapF t b ++ [(2 + (t : Int), zs, zs.length)]) calm) (hz : zs.length ≤ 300000) (hsc : Scanned zs rs) (hzero : t = 0 → b = []) (hsm : t ≤ 100000) (hsnap : (snapRec t b).length ≤ 16384) (hfits : (ptotal (jf t b (some rs)) : Int) ≤ room) (hroom : 0 ≤ room ∧ room ≤ 262144) (hbase : base ≤ w.heap.size) :
    Calls Tryz.prog 9 #[.pointer (some ⟨sb, 0, none⟩)] w (OpenJn S w base sb room t b rs (some rs)) := by
  refine open_gen hd (fun p hp => ?_) ?_ ?_ hsc hzero hsm hsnap hfits hroom hbase
  · rcases List.mem_append.1 hp with hp | hp
    · unfold snapF at hp
      split at hp
      · cases hp
      · simp at hp
        subst hp
        refine ⟨?_, wf0⟩
        simp only [fmk_length]
        omega
    · simp at hp
      subst hp
      exact ⟨hz, turn_wf t (by omega)⟩
  · have := jf_len t b none
    unfold jf at this
    simp only [recF, List.append_nil] at this
    rw [List.length_append]
    simp
    omega
  · rw [List.filter_append, snapF_kept]
    simp [kept]
theorem open_saved {zs : List Nat} {m : Nat} (hd : DiskQ w S base sb room (snapF t b ++ ((1, zs, m) :: recF t o)) calm) (hz : zs.length ≤ 300000) (hrec : o.getD [] = rs) (hshort : ∀ r ∈ rs, r.length ≤ 16384) (hzero : t = 0 → b = []) (hsm : t ≤ 100000) (hsnap : (snapRec t b).length ≤ 16384) (hfits : (ptotal (jf t b o) : Int) ≤ room) (hroom : 0 ≤ room ∧ room ≤ 262144) (hbase : base ≤ w.heap.size) :
    Calls Tryz.prog 9 #[.pointer (some ⟨sb, 0, none⟩)] w (OpenJn S w base sb room t b rs o) := by
  have h1 : ((1 : Int) == 2 + (t : Int)) = false := by simp; omega
  have hfl : (snapF t b ++ ((1, zs, m) :: recF t o)).filter (kept (2 + (t : Int))) = snapF t b ++ recF t o := by
    rw [List.filter_append, snapF_kept, List.filter_cons, if_neg (by simp [kept]; omega), recF_kept]
  have hn : ∀ p ∈ snapF t b ++ ((1, zs, m) :: recF t o), p.2.1.length ≤ 300000 ∧ (Lit.int .i64 p.1).wf = true := by
    intro p hp
    rcases List.mem_append.1 hp with hp | hp
    · have h1 := jf_mem t b o p (by unfold jf; exact List.mem_append_left _ hp)
      refine ⟨by omega, ?_⟩
      unfold snapF at hp
      split at hp
      · cases hp
      · simp at hp; rw [hp]; exact wf0
    · rcases List.mem_cons.1 hp with rfl | hp
      · exact ⟨hz, wf3 1 (by omega)⟩
      · have h1 := jf_mem t b o p (by unfold jf; exact List.mem_append_right _ hp)
        refine ⟨by omega, ?_⟩
        cases o with
        | none => cases hp
        | some qs => simp [recF] at hp; rw [hp]; exact turn_wf t (by omega)
  have hlen : (snapF t b ++ ((1, zs, m) :: recF t o)).length < 1000 := by
    have := jf_len t b o
    unfold jf at this
    simp only [List.length_append, List.length_cons] at this ⊢
    omega
  cases o with
  | none =>
    simp at hrec
    subst hrec
    exact open_gen0 hd hn hlen (by rw [hfl]; simp [recF]) hzero hsm hsnap hfits hroom hbase
  | some qs =>
    simp at hrec
    subst hrec
    exact open_gen hd hn hlen (by rw [hfl]; rfl) (scanned_flat hshort) hzero hsm hsnap hfits hroom hbase
theorem open_late {qs : List (List Nat)} (hd : DiskQ w S base sb room (snapF (t + 1) b' ++ recF t (some qs)) calm) (hq : (flat qs).length ≤ 300000) (hsm : t + 1 ≤ 100000) (hsnap : (snapRec ((t + 1 : Nat) : Int) b').length ≤ 16384) (hfits : (ptotal (jf (t + 1) b' none) : Int) ≤ room) (hroom : 0 ≤ room ∧ room ≤ 262144) (hbase : base ≤ w.heap.size) :
    Calls Tryz.prog 9 #[.pointer (some ⟨sb, 0, none⟩)] w (OpenJn S w base sb room (t + 1) b' [] none) := by
  refine open_gen0 hd (fun p hp => ?_) (by simp [snapF, recF]) ?_ (by omega) hsm hsnap hfits hroom hbase
  · rcases List.mem_append.1 hp with hp | hp
    · have e : ((t + 1 : Nat) : Int) = (t : Int) + 1 := by omega
      rw [e] at hsnap
      simp [snapF] at hp
      subst hp
      refine ⟨?_, wf0⟩
      simp only [fmk_length]
      omega
    · simp [recF] at hp
      subst hp
      exact ⟨hq, turn_wf t (by omega)⟩
  · rw [List.filter_append, snapF_kept, recF_other, List.append_nil]
end
end Go.Proofs.YtlakkhhibdcjaaaGreatDoor
