/-
  The statement VarintTwo by its walk.
-/
import Derived.Test.YtmmgnppgabohhaaVarTwoEnd
import Derived.Deep.RegionWith
import Derived.Deep.DeepCutAuto
namespace Go.Proofs.Ytmmgnppgabohhaa
open Go.RowKit
set_option linter.unusedVariables false

theorem all_one (ad : Addr) (c : Nat) (n : Int) (w : World) (n1 : -9223372036854775808 ≤ n) (n2 : n ≤ 9223372036854775807) (hc : w.cell? ad = some (.int .i64 n)) :
    Calls Try.prog 11 #[.slice (some ad) 1 c] w (OwnRes w w.heap.size (enc (pairN n))) := by
  have h := all_any (some ad) 1 c [n] w ⟨rfl, fun _ => ⟨ad, rfl, fun j hj => by
    obtain rfl : j = 0 := by omega
    rw [Addr.add_zero']; exact hc⟩⟩ (by intro x hx; simp at hx; omega) (by omega)
  rw [encs_one] at h
  exact h

theorem cells_of {W w1 : World} (hb : Below W.heap.size W w1) : ∀ b o, b < W.heap.size → w1.cell? ⟨b, o, none⟩ = W.cell? ⟨b, o, none⟩ := fun b o h => hb.cell (p := ⟨b, o, none⟩) h

theorem step_below {B : Nat} {w W wa : World} (hb : Below W.heap.size W wa) (h : Below B w W) (hs : B ≤ W.heap.size) : Below B w wa := h.trans (hb.mono hs)

set_option maxRecDepth 100000 in
set_option maxHeartbeats 8000000 in
theorem two_any (a b : Int) (w : World) (a1 : -9223372036854775808 ≤ a) (a2 : a ≤ 9223372036854775807) (b1 : -9223372036854775808 ≤ b) (b2 : b ≤ 9223372036854775807) :
    Calls Try.prog 6 #[.int .i64 a, .int .i64 b] w fun e w' => e = .returned (.bool true) ∧ Below w.heap.size w w' := by
  obtain ⟨x, hx⟩ : ∃ x, x = enc (pairN a) := ⟨_, rfl⟩
  obtain ⟨y, hy⟩ : ∃ y, y = enc (pairN b) := ⟨_, rfl⟩
  have HCA := Lib.hid (fun (ad : Addr) (W : World) h => all_one ad 1 a W a1 a2 h)
  have HCB := Lib.hid (fun (ad : Addr) (W : World) h => all_one ad 1 b W b1 b2 h)
  rw [← hx] at HCA
  rw [← hy] at HCB
  have HX := Lib.hid hx
  have HY := Lib.hid hy
  clear hx hy
  go_enter Try.func6, Try.ntmps6
  go_wp2_with fail
  refine (awake_ok w).mono ?_
  rintro e w1 ⟨rfl, hb⟩
  have HB := Lib.hid hb
  clear hb
  go_upto_region 3 with fail
  go_cut [5, 6] (fun s t wx => s = .string (strN x) ∧ t = .string (strN y) ∧ Below w.heap.size w wx)
  case first =>
    go_region_with (first | (go_at_call 11; refine (HCA.out _ _ ?_).mono ?_; (solve | simp [*] | (rw [hcsp _ _ (by simp; omega)]; simp) | (rw [hcsq _ _ (by simp; omega)]; simp)); rintro e wp ⟨vp, rfl, hop, hbp⟩; obtain ⟨Ap, kp, rfl, _, _, hrp, _⟩ := hop.form; have sp := str_of wp Ap _ kp _ hrp; have tp := fun o => str_of (wp.alloc o) Ap _ kp _ (hrp.alloc o); have hcsp := cells_of hbp; (first | have sq2 := str_of wp Aq _ kq _ (hrq.below hbp) | have sq2 := str_of wp Aq _ kq _ ((hrq.alloc _).below hbp) | skip); have HBp := Lib.hid (step_below hbp (by first | exact HBq.out | exact HBq.out.alloc HBq.out.size _ | exact (HB.out.alloc HB.out.size _).drew | exact ((HB.out.alloc HB.out.size _).alloc (by have := HB.out.size; simp; omega) _).drew) (by have := HB.out.size; first | (have := HBq.out.size; simp; omega) | (simp; omega))); clear hop) | (go_at_call 11; refine (HCB.out _ _ ?_).mono ?_; (solve | simp [*] | (rw [hcsp _ _ (by simp; omega)]; simp) | (rw [hcsq _ _ (by simp; omega)]; simp)); rintro e wq ⟨vq, rfl, hoq, hbq⟩; obtain ⟨Aq, kq, rfl, _, _, hrq, _⟩ := hoq.form; have sq := str_of wq Aq _ kq _ hrq; have tq := fun o => str_of (wq.alloc o) Aq _ kq _ (hrq.alloc o); have hcsq := cells_of hbq; (first | have sp2 := str_of wq Ap _ kp _ (hrp.below hbq) | have sp2 := str_of wq Ap _ kp _ ((hrp.alloc _).below hbq) | skip); have HBq := Lib.hid (step_below hbq (by first | exact HBp.out | exact HBp.out.alloc HBp.out.size _ | exact (HB.out.alloc HB.out.size _).drew | exact ((HB.out.alloc HB.out.size _).alloc (by have := HB.out.size; simp; omega) _).drew) (by have := HB.out.size; first | (have := HBp.out.size; simp; omega) | (simp; omega))); clear hoq))
    all_goals
      go_wp2_with fail
      go_meet
      first | exact ⟨rfl, rfl, HBq.out⟩ | exact ⟨rfl, rfl, HBp.out⟩
  case rest =>
    obtain ⟨rfl, rfl, hb2⟩ := hcut
    have HB2 := Lib.hid hb2
    clear hb2 HCA HCB HB
    have hxl : 1 ≤ x.length ∧ x.length ≤ 10 := by rw [HX.out]; exact ⟨enc_len_pos _, enc_len_ten (pairN_lt a1 a2)⟩
    obtain ⟨x1, x10⟩ := hxl
    have sx := strN_size x
    have sy := strN_size y
    by_cases hab : a = b
    · have hxy : x = y := by rw [HX.out, HY.out, hab]
      have q1 := eqT hab
      subst hxy
      have q2 : ((strN x).toList == (strN x).toList) = true := beq_self_eq_true _
      clear hab
      go_wp2
      go_ret
      exact ⟨rfl, HB2.out⟩
    · have q1 := eqF hab
      have hne : ∀ r, y ≠ x ++ r := by
        intro r h
        apply hab
        rw [HX.out, HY.out] at h
        refine pairN_inj (enc_two (pairN_lt a1 a2) (pairN_lt b1 b2) r [] ?_)
        rw [← h, List.append_nil]
      have bx : ∀ c ∈ x, c < 256 := by rw [HX.out]; exact enc_bytes _
      have bY : ∀ c ∈ y, c < 256 := by rw [HY.out]; exact enc_bytes _
      have q2 := str_ne bx bY (fun e => hne [] (by rw [List.append_nil]; exact e.symm))
      have q3 := str_front bx bY hne
      clear bx bY
      clear hab hne
      by_cases hl : y.length < x.length
      · go_wp2
        go_ret
        exact ⟨rfl, HB2.out⟩
      · go_wp2
        go_ret
        exact ⟨rfl, HB2.out⟩

theorem varintTwo_walk (w : World) (a : Int) (ha : (Lit.int .i64 a).wf = true) (b : Int) (hb : (Lit.int .i64 b).wf = true) :
    Calls Try.prog 6 #[.int .i64 a, .int .i64 b] w fun e w' => e = .returned (.bool true) ∧ Below w.heap.size w w' := by
  have e1 : IntKind.i64.min = -9223372036854775808 := rfl
  have e2 : IntKind.i64.max = 9223372036854775807 := rfl
  simp only [Lit.wf, Bool.and_eq_true, decide_eq_true_eq] at ha hb
  exact two_any a b w (by omega) (by omega) (by omega) (by omega)
end Go.Proofs.Ytmmgnppgabohhaa
