/-
  A journal on a disk that may stop: Append and Save by their contracts; what Open finds behind a stop.
-/
import Derived.Test.YtlakkhhibdcjaaaGreatDoorJourB
import Derived.Test.YtlakkhhibdcjaaaGreatDoorDiskGenArm
namespace Go.Proofs.YtlakkhhibdcjaaaGreatDoor
open Go Go.RowKit Go.Maps
set_option linter.unusedVariables false

/-- A journal that is as it should be, on a disk that may be armed, and has not stopped. -/
structure Jm (w : World) (S T : Nat → Prop) (base jb sb : Nat) (room : Int) (s : DS) (t : Nat) (b : List Nat) (rs : List (List Nat)) (o : Option (List (List Nat))) : Prop where
  jd : JD w S T base jb sb room (jf t b o) s t b rs false
  on : s.stopped = false
  left_ : s.left ≤ 1000
  recs : o.getD [] = rs
  zero : t = 0 → b = []
  small : t ≤ 100000
  snap : (snapRec t b).length ≤ 16384
  short : ∀ r ∈ rs, r.length ≤ 16384
  fits : (ptotal (jf t b o) : Int) ≤ room
  room_ : 0 ≤ room ∧ room ≤ 262144
  base_ : base ≤ w.heap.size

section
variable {R S T : Nat → Prop} {w w' : World} {base jb sb : Nat} {room : Int} {s : DS} {t : Nat} {b b' : List Nat} {rs ns : List (List Nat)} {o : Option (List (List Nat))}

theorem Jm.below (h : Jm w S T base jb sb room s t b rs o) (hb : Below w.heap.size w w') : Jm w' S T base jb sb room s t b rs o :=
  ⟨h.jd.below hb, h.on, h.left_, h.recs, h.zero, h.small, h.snap, h.short, h.fits, h.room_, Nat.le_trans h.base_ hb.size⟩
theorem Jm.alloc (h : Jm w S T base jb sb room s t b rs o) (ob : Obj) : Jm (w.alloc ob) S T base jb sb room s t b rs o := h.below ((Below.refl _ _).alloc (Nat.le_refl _) _)
theorem Jm.out (h : Jm w S T base jb sb room s t b rs o) : ∀ i, w.heap.size ≤ i → ¬ joined S T i := fun i hi hj => by have := (h.jd.low i hj).2; omega
theorem Jm.recLen (h : Jm w S T base jb sb room s t b rs o) : rs.length ≤ 50000 := by
  have h1 := h.fits
  have h2 := h.room_.2
  rw [jf_total] at h1
  have h3 := h.recs
  cases o with
  | none => simp at h3; subst h3; simp
  | some qs => simp at h3; subst h3; have := flat_len qs; simp only at h1; omega
theorem Jm.same (h : Jm w S T base jb sb room s t b rs o) (hs : ∀ i, joined S T i → w'.heap[i]? = w.heap[i]?) (hz : w.heap.size ≤ w'.heap.size) : Jm w' S T base jb sb room s t b rs o :=
  ⟨⟨h.jd.disk.same (fun i hi => hs i (.inl hi)) hz, h.jd.jat.same (fun i hi => hs i (.inr hi)) hz, h.jd.apt⟩, h.on, h.left_, h.recs, h.zero, h.small, h.snap, h.short, h.fits, h.room_, Nat.le_trans h.base_ hz⟩
theorem Jm.grew {v v' : Value} (h : Jm w S T base jb sb room s t b rs o) (hg : Grew w w' v v') (hn : ∀ g, v.ownBlock = some g → ¬ joined S T g) : Jm w' S T base jb sb room s t b rs o := by
  refine h.same (fun i hi => ?_) ?_
  · have hl := (h.jd.low i hi).2
    rcases hg with ⟨_, hg⟩ | ⟨hg, _⟩
    · exact hg.block i hl (fun e => hn i e.symm hi)
    · exact hg.block i hl (by simp)
  · rcases hg with ⟨_, hg⟩ | ⟨hg, _⟩ <;> exact hg.size
theorem jrec_get (hrec : o.getD [] = rs) : (pget (jf t b o) (2 + (t : Int))).getD ([], 0) = (flat rs, (flat rs).length) := by
  rw [jf_rec]
  cases o with
  | none => simp at hrec; subst hrec; rfl
  | some qs => simp at hrec; subst hrec; rfl

def JmStep (S T : Nat → Prop) (w : World) (base jb sb : Nat) (room : Int) (t : Nat) (b : List Nat) (rs : List (List Nat)) (o : Option (List (List Nat))) (w' : World) : Prop :=
  ∃ s S' T', Jm w' S' T' base jb sb room s t b rs o ∧ Fr (joined S T) w w' ∧ Wider (joined S T) (joined S' T') w
/-- A journal that is broken, on a disk that has stopped. -/
def Stop (S T : Nat → Prop) (w : World) (base jb sb : Nat) (room : Int) (ps : List PF) (t : Int) (b : List Nat) (rs : List (List Nat)) (w' : World) : Prop :=
  ∃ s, s.stopped = true ∧ JStep S T w base jb sb room ps s t b rs true w'

theorem append_go_ (h : Jm w S T base jb sb room s t b rs o) (h1 : s.hit = false) (h2 : s.go.hit = false) (A : Option Addr) (len cap : Nat) (hrl : ns.length = len) (hr : RdRowsR R w A ns) (hR : ∀ i, R i → i < w.heap.size ∧ ¬ joined S T i) (hlt : ∀ r ∈ ns, ∀ x ∈ r, x < 256) (hlen : len ≤ 10000)
    (hshort : ∀ r ∈ ns, r.length ≤ 16384) (hfit : (ptotal (jf t b o) : Int) + (flat ns).length ≤ room) :
    Calls Tryz.prog 18 #[.pointer (some ⟨jb, 0, none⟩), .slice A len cap] w fun e w' => e = .returned .nilIface ∧ JmStep S T w base jb sb room t b (rs ++ ns) (some (rs ++ ns)) w' := by
  have hrm := h.room_
  have hsm := h.small
  have hrec := h.recs
  have hg := jrec_get (t := t) (b := b) hrec
  have hjl := jf_len t b o
  have hll := h.left_
  refine (jappend_done h.jd A len cap hrl hr hR hlt hlen (by omega) hshort (by have := h.recLen; omega) h.base_ (turn_wrap t (by omega)) (ps' := jf t b (some (rs ++ ns))) (s' := s.go.go) fun w1 B d hj hz hrd => ?_).mono ?_
  · have hw := write_ok hj h.on h1 h2 (by omega) (turn_wf t (by omega)) B _ d (flat ns) hrd (flat_lt hlt) hg hrm.2 hfit (by omega) (by have := h.base_; omega)
    rw [← flat_append, jf_put] at hw
    exact hw
  · rintro e w' ⟨rfl, S', T', hj, hf, hw⟩
    refine ⟨rfl, s.go.go, S', T', ⟨hj, h.on, DS.go_left _ (DS.go_left _ hll), rfl, h.zero, h.small, h.snap, ?_, ?_, h.room_, Nat.le_trans h.base_ hf.size⟩, hf, hw⟩
    · intro r hr
      rcases List.mem_append.1 hr with hr | hr
      · exact h.short r hr
      · exact hshort r hr
    · rw [jf_total] at hfit ⊢
      simp only [flat_append, List.length_append]
      cases o with
      | none => simp at hrec; subst hrec; simp only [flat_nil, List.length_nil] at hfit ⊢; omega
      | some qs => simp at hrec; subst hrec; simp only at hfit; omega

theorem append_crash_ (h : Jm w S T base jb sb room s t b rs o) (h1 : s.hit = true ∨ (s.hit = false ∧ s.go.hit = true)) (A : Option Addr) (len cap : Nat) (hrl : ns.length = len) (hr : RdRows w A ns) (hlt : ∀ r ∈ ns, ∀ x ∈ r, x < 256) (hlen : len ≤ 10000)
    (hshort : ∀ r ∈ ns, r.length ≤ 16384) (hfit : (ptotal (jf t b o) : Int) + (flat ns).length ≤ room) :
    Calls Tryz.prog 18 #[.pointer (some ⟨jb, 0, none⟩), .slice A len cap] w fun e w' => e = .returned (.iface 39 (.int .i64 12)) ∧ Stop S T w base jb sb room (pput (jf t b o) (2 + (t : Int)) (flat (rs ++ ns)) (flat rs).length) t b rs w' := by
  have hsm := h.small
  have hrm := h.room_
  have hg := jrec_get (t := t) (b := b) h.recs
  have hjl := jf_len t b o
  have hll := h.left_
  refine jappend_fail h.jd.jat A len cap hrl hr hlt (by omega) (by omega) hshort (turn_wrap t (by omega)) fun w1 B d hb hrd => ?_
  refine (write_crash (h.jd.below hb) h.on h1 (by omega) (turn_wf t (by omega)) B _ d (flat ns) hrd (flat_lt hlt) hg hrm.2 hfit (by omega) (by have := h.base_; have := hb.size; omega)).mono ?_
  rintro e w2 ⟨rfl, s', hs', hst⟩
  rw [← flat_append] at hst
  exact ⟨rfl, s', hs', JStep.trans (ps := jf t b o) (s := s) (Fr.of_below hb) (Wider.refl _ _ |> fun h => h) (by
    obtain ⟨S2, T2, hj, hf, hw⟩ := hst
    exact ⟨S2, T2, hj, hf, hw⟩)⟩

/-- Save, where the disk does not stop. -/
theorem save_go_ (h : Jm w S T base jb sb room s t b rs o) (h1 : s.hit = false) (h2 : s.go.hit = false) (h3 : s.go.go.hit = false) (h4 : o ≠ none → s.go.go.go.hit = false) (ht : t + 1 ≤ 100000) (A : Option Addr) (n c : Nat) (hr : Rd .u8 w A n (ints b')) (hto : RowTo R (.slice A n c)) (hR : ∀ i, R i → i < w.heap.size ∧ ¬ joined S T i) (hlt : ∀ x ∈ b', x < 256) (hn : n ≤ 1000000)
    (hsh : (snapRec ((t : Int) + 1) b').length ≤ 16384) (hfit : (ptotal (jf t b o) : Int) + (6 + (snapRec ((t : Int) + 1) b').length) ≤ room) :
    Calls Tryz.prog 11 #[.pointer (some ⟨jb, 0, none⟩), .slice A n c] w fun e w' => e = .returned .nilIface ∧ JmStep S T w base jb sb room (t + 1) b' [] none w' := by
  have hrm := h.room_
  have hsm := h.small
  have hjl := jf_len t b o
  have hll := h.left_
  obtain ⟨x, hx⟩ : ∃ x, x = fmk (snapRec ((t : Int) + 1) b') := ⟨_, rfl⟩
  have hxl : x.length = 6 + (snapRec ((t : Int) + 1) b').length := by rw [hx, fmk_length]
  have hpl := pput_len (jf t b o) 1 x x.length
  have hbz := h.base_
  have hend : ∀ w5 S5 T5 s5, s5.stopped = false → s5.left ≤ 1000 → JD w5 S5 T5 base jb sb room (jf (t + 1) b' none) s5 ((t : Int) + 1) b' [] false → Fr (joined S T) w w5 → Wider (joined S T) (joined S5 T5) w → JmStep S T w base jb sb room (t + 1) b' [] none w5 := by
    intro w5 S5 T5 s5 hs5 hl5 hj hf hw
    refine ⟨s5, S5, T5, ⟨?_, hs5, hl5, rfl, by omega, ht, ?_, by simp, ?_, h.room_, Nat.le_trans h.base_ hf.size⟩, hf, hw⟩
    · have e : ((t + 1 : Nat) : Int) = (t : Int) + 1 := by omega
      rw [e]; exact hj
    · have e : ((t + 1 : Nat) : Int) = (t : Int) + 1 := by omega
      rw [e]; exact hsh
    · rw [jf_next]
      simp only [ptotal, List.map_cons, List.map_nil, List.sum_cons, List.sum_nil, ← hx]
      omega
  have hl3 : s.go.go.go.left ≤ 1000 := DS.go_left _ (DS.go_left _ (DS.go_left _ hll))
  refine jsave_go h.jd A n c hr hto hR hlt (by omega) hn h.base_ rfl hsh (turn_wrap t (by omega)) (ps1 := pput (jf t b o) 1 x x.length) (s1 := s.go.go) (z1 := x) (n1 := x.length) ?_ h.on h3 (by have := DS.go_left _ (DS.go_left _ hll); omega) (by rw [pget_pput]; simp) (by omega) ?_
  · intro w1 B d hj hz hrd
    have hw := write_ok hj h.on h1 h2 (by omega) (wf3 1 (by omega)) B _ d x (by rw [hx]; exact hrd) (by rw [hx]; exact fmk_lt (snapRec_lt hlt)) (zs := []) (n := 0) (by rw [show pget (jf t b o) ((1 : Nat) : Int) = none from jf_one t b o]; rfl) hrm.2 (by omega) (by omega) (by omega)
    rw [List.nil_append] at hw
    exact hw
  · intro w4 S4 T4 hj hf hw hz
    rw [jf_saved] at hj
    cases o with
    | none =>
      have hj' : JD w4 S4 T4 base jb sb room (jf (t + 1) b' none) s.go.go.go ((t : Int) + 1) b' [] false := by rw [jf_next, ← hx]; exact hj
      refine (drop_none hj' (2 + (t : Int)) ?_ (by have := jf_len (t + 1) b' none; omega)).mono ?_
      · rw [jf_next]
        have h3 : ((0 : Int) == 2 + (t : Int)) = false := by simp; omega
        simp [pget, h3]
      · rintro e w5 ⟨rfl, hb5⟩
        exact ⟨rfl, hend w5 S4 T4 s.go.go.go h.on hl3 (hj'.below hb5) (hf.trans (Fr.of_below (S := joined S4 T4) hb5) hw) hw⟩
    | some qs =>
      have h3 : ((0 : Int) == 2 + (t : Int)) = false := by simp; omega
      refine (drop_some hj h.on (h4 (by simp)) (by omega) (turn_wf t (by omega)) (zs := flat qs) (n := (flat qs).length) (by simp [recF, pget, h3]) (by simp [recF])).mono ?_
      rintro e w5 ⟨rfl, S5, T5, hj5, hf5, hw5⟩
      have e1 : pdel ((0, x, x.length) :: recF t (some qs)) (2 + (t : Int)) = jf (t + 1) b' none := by
        rw [jf_next, ← hx]
        simp [pdel, recF, h3]
      rw [e1] at hj5
      exact ⟨rfl, hend w5 S5 T5 s.go.go.go.go h.on (DS.go_left _ hl3) hj5 (hf.trans hf5 hw) (hw.trans hw5 hf.size)⟩

/-- Save, where the disk stops ahead of the rename's end. -/
theorem save_crash_ (h : Jm w S T base jb sb room s t b rs o) (h1 : s.hit = true ∨ (s.hit = false ∧ s.go.hit = true) ∨ (s.hit = false ∧ s.go.hit = false ∧ s.go.go.hit = true)) (ht : t + 1 ≤ 100000) (A : Option Addr) (n c : Nat) (hr : Rd .u8 w A n (ints b')) (hlt : ∀ x ∈ b', x < 256) (hn : n ≤ 1000000)
    (hsh : (snapRec ((t : Int) + 1) b').length ≤ 16384) (hfit : (ptotal (jf t b o) : Int) + (6 + (snapRec ((t : Int) + 1) b').length) ≤ room) :
    Calls Tryz.prog 11 #[.pointer (some ⟨jb, 0, none⟩), .slice A n c] w fun e w' => e = .returned (.iface 39 (.int .i64 12)) ∧ ∃ n1, Stop S T w base jb sb room (pput (jf t b o) 1 (fmk (snapRec ((t : Int) + 1) b')) n1) t b rs w' := by
  have hrm := h.room_
  have hsm := h.small
  have hjl := jf_len t b o
  have hll := h.left_
  obtain ⟨x, hx⟩ : ∃ x, x = fmk (snapRec ((t : Int) + 1) b') := ⟨_, rfl⟩
  have hxl : x.length = 6 + (snapRec ((t : Int) + 1) b').length := by rw [hx, fmk_length]
  have hbz := h.base_
  have hg1 : (pget (jf t b o) ((1 : Nat) : Int)).getD ([], 0) = ([], 0) := by rw [show pget (jf t b o) ((1 : Nat) : Int) = none from jf_one t b o]; rfl
  rw [← hx]
  rcases h1 with h1 | h1 | ⟨h1, h2, h3⟩
  · refine jsave_fail h.jd.jat A n c hr hlt (by omega) hn rfl hsh fun w1 B d hb hrd => ?_
    refine (write_crash (h.jd.below hb) h.on (.inl h1) (by omega) (wf3 1 (by omega)) B _ d x (by rw [hx]; exact hrd) (by rw [hx]; exact fmk_lt (snapRec_lt hlt)) hg1 hrm.2 (by omega) (by omega) (by have := hb.size; omega)).mono ?_
    rintro e w2 ⟨rfl, s', hs', hst⟩
    exact ⟨rfl, 0, s', hs', JStep.trans (ps := jf t b o) (s := s) (Fr.of_below hb) (Wider.refl _ _ |> fun h => h) hst⟩
  · refine jsave_fail h.jd.jat A n c hr hlt (by omega) hn rfl hsh fun w1 B d hb hrd => ?_
    refine (write_crash (h.jd.below hb) h.on (.inr h1) (by omega) (wf3 1 (by omega)) B _ d x (by rw [hx]; exact hrd) (by rw [hx]; exact fmk_lt (snapRec_lt hlt)) hg1 hrm.2 (by omega) (by omega) (by have := hb.size; omega)).mono ?_
    rintro e w2 ⟨rfl, s', hs', hst⟩
    exact ⟨rfl, 0, s', hs', JStep.trans (ps := jf t b o) (s := s) (Fr.of_below hb) (Wider.refl _ _ |> fun h => h) hst⟩
  · refine (jsave_stuck h.jd A n c hr hlt (by omega) hn rfl hsh (ps1 := pput (jf t b o) 1 x x.length) (s1 := s.go.go) (z1 := x) (n1 := x.length) ?_ h.on h3 (by rw [pget_pput]; simp)).mono ?_
    · intro w1 B d hj hz hrd
      have hw := write_ok hj h.on h1 h2 (by omega) (wf3 1 (by omega)) B _ d x (by rw [hx]; exact hrd) (by rw [hx]; exact fmk_lt (snapRec_lt hlt)) (zs := []) (n := 0) hg1 hrm.2 (by omega) (by omega) (by omega)
      rw [List.nil_append] at hw
      exact hw
    · rintro e w2 ⟨rfl, hst⟩
      exact ⟨rfl, x.length, _, rfl, hst⟩

/-- Save, where the disk stops behind the rename. -/
theorem save_late_ {qs : List (List Nat)} (h : Jm w S T base jb sb room s t b rs (some qs)) (h1 : s.hit = false) (h2 : s.go.hit = false) (h3 : s.go.go.hit = false) (h4 : s.go.go.go.hit = true) (ht : t + 1 ≤ 100000) (A : Option Addr) (n c : Nat) (hr : Rd .u8 w A n (ints b')) (hto : RowTo R (.slice A n c)) (hR : ∀ i, R i → i < w.heap.size ∧ ¬ joined S T i) (hlt : ∀ x ∈ b', x < 256) (hn : n ≤ 1000000)
    (hsh : (snapRec ((t : Int) + 1) b').length ≤ 16384) (hfit : (ptotal (jf t b (some qs)) : Int) + (6 + (snapRec ((t : Int) + 1) b').length) ≤ room) :
    Calls Tryz.prog 11 #[.pointer (some ⟨jb, 0, none⟩), .slice A n c] w fun e w' => e = .returned (.iface 39 (.int .i64 12)) ∧ Stop S T w base jb sb room (snapF (t + 1) b' ++ recF t (some qs)) ((t : Int) + 1) b' [] w' := by
  have hrm := h.room_
  have hsm := h.small
  have hjl := jf_len t b (some qs)
  have hll := h.left_
  obtain ⟨x, hx⟩ : ∃ x, x = fmk (snapRec ((t : Int) + 1) b') := ⟨_, rfl⟩
  have hxl : x.length = 6 + (snapRec ((t : Int) + 1) b').length := by rw [hx, fmk_length]
  have hpl := pput_len (jf t b (some qs)) 1 x x.length
  have hbz := h.base_
  refine jsave_go h.jd A n c hr hto hR hlt (by omega) hn h.base_ rfl hsh (turn_wrap t (by omega)) (ps1 := pput (jf t b (some qs)) 1 x x.length) (s1 := s.go.go) (z1 := x) (n1 := x.length) ?_ h.on h3 (by have := DS.go_left _ (DS.go_left _ hll); omega) (by rw [pget_pput]; simp) (by omega) ?_
  · intro w1 B d hj hz hrd
    have hw := write_ok hj h.on h1 h2 (by omega) (wf3 1 (by omega)) B _ d x (by rw [hx]; exact hrd) (by rw [hx]; exact fmk_lt (snapRec_lt hlt)) (zs := []) (n := 0) (by rw [show pget (jf t b (some qs)) ((1 : Nat) : Int) = none from jf_one t b (some qs)]; rfl) hrm.2 (by omega) (by omega) (by omega)
    rw [List.nil_append] at hw
    exact hw
  · intro w4 S4 T4 hj hf hw hz
    rw [jf_saved] at hj
    have h3 : ((0 : Int) == 2 + (t : Int)) = false := by simp; omega
    refine (drop_crash hj h.on h4 (turn_wf t (by omega)) (zs := flat qs) (n := (flat qs).length) (by simp [recF, pget, h3]) (by simp [recF])).mono ?_
    rintro e w5 ⟨rfl, hst⟩
    have e1 : ((0 : Int), x, x.length) :: recF t (some qs) = snapF (t + 1) b' ++ recF t (some qs) := by simp [snapF, hx]
    rw [e1] at hst
    exact ⟨rfl, _, rfl, JStep.trans (ps := jf t b (some qs)) (s := s) hf hw hst⟩
end

/-! What Open finds behind a stop. -/
section
variable {S : Nat → Prop} {w : World} {base sb : Nat} {room : Int} {t : Nat} {b : List Nat} {rs : List (List Nat)} {ps : List PF}

theorem snap_get {ps : List PF} {t : Nat} {b : List Nat} {r : List PF} (hu : Up ps) (hf : ps.filter (kept (2 + (t : Int))) = snapF t b ++ r) (hr : ∀ p ∈ r, p.1 ≠ 0) (hzero : t = 0 → b = []) (hsm : t ≤ 100000) (hsnap : (snapRec t b).length ≤ 16384) : snapOf (pget ps 0) = some ((t : Int), b) := by
  by_cases h0 : t = 0
  · have hb := hzero h0
    have hn : pget ps 0 = none := by
      unfold pget
      rw [List.find?_eq_none.2]
      · rfl
      · intro p hp he
        have hp0 : p.1 = 0 := by simpa using he
        have : p ∈ ps.filter (kept (2 + (t : Int))) := List.mem_filter.2 ⟨hp, by simp [kept, hp0]⟩
        rw [hf] at this
        simp [snapF, h0] at this
        exact hr p this hp0
    rw [hn]
    subst h0
    simp [snapOf, hb]
  · have hm : ((0 : Int), fmk (snapRec t b), (fmk (snapRec t b)).length) ∈ ps := by
      have : ((0 : Int), fmk (snapRec t b), (fmk (snapRec t b)).length) ∈ ps.filter (kept (2 + (t : Int))) := by rw [hf]; simp [snapF, h0]
      exact (List.mem_filter.1 this).1
    have := pget_of_mem hu hm
    simp only at this
    rw [this]
    exact snapB_mk (by omega) (by omega) hsnap

theorem open_gen {zs : List Nat} (hd : DiskQ w S base sb room ps calm) (hn : ∀ p ∈ ps, p.2.1.length ≤ 300000 ∧ (Lit.int .i64 p.1).wf = true) (hlen : ps.length < 1000) (hf : ps.filter (kept (2 + (t : Int))) = snapF t b ++ [(2 + (t : Int), zs, zs.length)]) (hsc : Scanned zs rs)
    (hzero : t = 0 → b = []) (hsm : t ≤ 100000) (hsnap : (snapRec t b).length ≤ 16384) (hfits : (ptotal (jf t b (some rs)) : Int) ≤ room) (hroom : 0 ≤ room ∧ room ≤ 262144) (hbase : base ≤ w.heap.size) :
    Calls Tryz.prog 9 #[.pointer (some ⟨sb, 0, none⟩)] w (OpenJn S w base sb room t b rs (some rs)) := by
  have hsn := snap_get hd.up hf (by intro p hp; simp at hp; subst hp; simp only; omega) hzero hsm hsnap
  have h0 : ((0 : Int) == 2 + (t : Int)) = false := by simp; omega
  have h1 : ¬ (2 + (t : Int) < 0) := by omega
  have hg : (pget (ps.filter (kept (2 + (t : Int)))) (2 + (t : Int))).getD ([], 0) = (zs, zs.length) := by
    rw [hf]
    unfold snapF
    split <;> simp [pget, h0]
  refine (open_any hd hn hlen hbase hsn (turn_wrap t (by omega)) (turn_wf t (by omega)) hg).mono ?_
  rintro e w' ⟨rs', jb, S', T', hsc', he, hj, hfr, hw, hT⟩
  obtain rfl := scanned_unique hsc' hsc
  have e1 : opened ps (2 + (t : Int)) rs' zs = jf t b (some rs') := by
    unfold opened
    rw [hf]
    split
    · rename_i hl
      obtain ⟨_, tl, hz, _⟩ := hsc
      have : tl = [] := List.eq_nil_of_length_eq_zero (by rw [hz, List.length_append] at hl; omega)
      subst this
      rw [List.append_nil] at hz
      subst hz
      rfl
    · unfold jf snapF recF
      split <;> simp [pput, pdel, pins, h0, h1]
  rw [e1] at hj
  exact ⟨jb, S', T', he, ⟨hj, rfl, hzero, hsm, hsnap, (scanned_in hsc).1, hfits, hroom, Nat.le_trans hbase hfr.size⟩, hfr, hw, hT⟩

theorem open_gen0 (hd : DiskQ w S base sb room ps calm) (hn : ∀ p ∈ ps, p.2.1.length ≤ 300000 ∧ (Lit.int .i64 p.1).wf = true) (hlen : ps.length < 1000) (hf : ps.filter (kept (2 + (t : Int))) = snapF t b)
    (hzero : t = 0 → b = []) (hsm : t ≤ 100000) (hsnap : (snapRec t b).length ≤ 16384) (hfits : (ptotal (jf t b none) : Int) ≤ room) (hroom : 0 ≤ room ∧ room ≤ 262144) (hbase : base ≤ w.heap.size) :
    Calls Tryz.prog 9 #[.pointer (some ⟨sb, 0, none⟩)] w (OpenJn S w base sb room t b [] none) := by
  have hsn := snap_get (r := []) hd.up (by rw [hf]; simp) (by simp) hzero hsm hsnap
  have h0 : ((0 : Int) == 2 + (t : Int)) = false := by simp; omega
  have hg : (pget (ps.filter (kept (2 + (t : Int)))) (2 + (t : Int))).getD ([], 0) = ([], 0) := by
    rw [hf]
    unfold snapF
    split <;> simp [pget, h0]
  refine (open_any hd hn hlen hbase hsn (turn_wrap t (by omega)) (turn_wf t (by omega)) hg).mono ?_
  rintro e w' ⟨rs', jb, S', T', hsc', he, hj, hfr, hw, hT⟩
  have hrs : rs' = [] := hsc'.none_ (fone_short (by simp))
  subst hrs
  have e1 : opened ps (2 + (t : Int)) [] [] = jf t b none := by
    unfold opened
    rw [if_pos (by simp [flat_nil]), hf]
    simp [jf, recF]
  rw [e1] at hj
  exact ⟨jb, S', T', he, ⟨hj, rfl, hzero, hsm, hsnap, by simp, hfits, hroom, Nat.le_trans hbase hfr.size⟩, hfr, hw, hT⟩
end
end Go.Proofs.YtlakkhhibdcjaaaGreatDoor
