/-
  The document's examples of layer 8 hold.
-/
import Derived.Test.YtpgjifbeckmieaaDoorMovePlain
import Derived.Test.YtpgjifbeckmieaaDoorEntBal
import Derived.Test.YtpgjifbeckmieaaDoorBook
namespace Go.Proofs.YtpgjifbeckmieaaDoor
open Go Go.RowKit
set_option linter.unusedVariables false

set_option maxRecDepth 100000 in
set_option maxHeartbeats 4000000 in
theorem awake_ok (w : World) : Calls Tryd.prog 4 #[] w fun e w' => e = .returned (.bool true) ∧ Below w.heap.size w w' := by
  obtain ⟨W0, hW0⟩ : ∃ W0, W0 = w.alloc (.cells #[.int .u8 0, .int .u8 1] 5) := ⟨_, rfl⟩
  have hrd : Rd .u8 W0 (some ⟨w.heap.size, 0, none⟩) 2 (ints [0, 1]) := by
    refine ⟨rfl, fun _ => ⟨_, rfl, fun j hj => ?_⟩⟩
    have h2 : j = 0 ∨ j = 1 := by omega
    rw [hW0]
    rcases h2 with rfl | rfl <;> simp [ints, Addr.add]
  have hcall := accounts_curs (some ⟨w.heap.size, 0, none⟩) none none 2 2 0 0 0 0 [0, 1] [] [] W0 hrd Rd.nil Rd.nil (by simp) (by simp) (by simp) (by omega) (by omega) (by omega)
  have hb0 : Below w.heap.size w W0 := by rw [hW0]; exact (Below.refl _ _).alloc (Nat.le_refl _) _
  have HB0 := Lib.hid hb0
  have HC := Lib.hid hcall
  rw [hW0] at HC HB0
  clear hrd hcall hb0 hW0
  go_enter Tryd.func4, Tryd.ntmps4
  go_wp2_with fail
  refine HC.out.mono ?_
  rintro e w1 ⟨v1, zs, k, rfl, ho, hk8, hk, hbk, hcs, hb1⟩
  have hk2 : 2 ≤ k := by omega
  have hzl := hbk.len
  obtain ⟨a0, h0, hc0⟩ := hcs 0 (by omega)
  obtain ⟨a1, h1, hc1⟩ := hcs 1 (by omega)
  have q0 : curOf zs 9 = 0 := by have := curOf_at h0; rw [show (((9 + 0 : Nat)) : Int) = 9 from rfl] at this; rw [this, hc0]; rfl
  have q1 : curOf zs 10 = 1 := by have := curOf_at h1; rw [show (((9 + 1 : Nat)) : Int) = 10 from rfl] at this; rw [this, hc1]; rfl
  have hE : moveE zs 9 10 10 = 0 := by
    unfold moveE
    rw [if_neg (by omega), if_neg (by omega), q0, q1]
    decide
  have hL : moveL zs 9 10 10 = [⟨9, -10⟩, ⟨1, 10⟩, ⟨4, -9⟩, ⟨10, 9⟩] := by
    unfold moveL
    rw [if_pos hE, q0, q1]
    rfl
  have hbal := move_bal hbk.house_ (Curs.of_book hbk) hE (by omega)
  obtain ⟨n, hn⟩ : ∃ n, zs.length = n := ⟨_, rfl⟩
  obtain ⟨g, cap, hv1, hg1, hg2, hnc, hcm⟩ := ho.open_ (by omega)
  rw [hn] at hv1
  subst hv1
  have hn17 : n ≤ 17 := by omega
  have HM := Lib.hid (move_any (some ⟨g, 0, none⟩) n cap zs 9 10 10 w1 hn ho.rd (Curs.of_book hbk) (by omega))
  have HO := Lib.hid ho
  have HN := Lib.hid hn
  have HB1 := Lib.hid (HB0.out.trans (hb1.mono HB0.out.size))
  have HE := Lib.hid hE
  have HL := Lib.hid hL
  have HBAL := Lib.hid hbal
  clear ho hbk hcs hb1 hn hE hL hbal q0 q1 h0 h1 hc0 hc1 hzl hg1 hg2 hnc hcm hk hk8
  go_wp2_with fail
  refine HM.out.mono ?_
  rintro e w2 ⟨v2, rfl, ho2, hb2⟩
  rw [HE.out, errV, if_pos rfl]
  rw [HL.out] at ho2
  obtain ⟨g2, cap2, hv2, hg21, hg22, hnc2, hcm2⟩ := ho2.open_ (by simp)
  rw [show ([⟨9, -10⟩, ⟨1, 10⟩, ⟨4, -9⟩, ⟨10, 9⟩] : List En).length = 4 from rfl] at hv2 hnc2
  subst hv2
  obtain ⟨x00, x01⟩ := ho2.at_ (j := 0) (a := ⟨9, -10⟩) rfl
  obtain ⟨x30, x31⟩ := ho2.at_ (j := 3) (a := ⟨10, 9⟩) rfl
  rw [HL.out] at HBAL
  have HBC := Lib.hid (balanced_any (some ⟨g, 0, none⟩) (some ⟨g2, 0, none⟩) n 4 cap cap2 zs [⟨9, -10⟩, ⟨1, 10⟩, ⟨4, -9⟩, ⟨10, 9⟩] w2 HN.out (HO.out.below hb2).rd rfl ho2.rd (by omega) (by omega))
  rw [HBAL.out] at HBC
  have HB2 := Lib.hid (HB1.out.trans (hb2.mono HB1.out.size))
  clear hb2 ho2 hg21 hg22 hcm2
  go_wp2_with (first | (go_at_call 10; refine HBC.out.mono ?_; rintro e w3 ⟨rfl, hb3⟩))
  go_ret
  exact ⟨rfl, HB2.out.trans (hb3.mono HB2.out.size)⟩
end Go.Proofs.YtpgjifbeckmieaaDoor
