/-
  The law's do by its contract, whatever is asked for.
-/
import Derived.Test.YtjnmppdohglcaaaDoorOpsDoNone
import Derived.Test.YtjnmppdohglcaaaDoorOpsDoOpen
import Derived.Test.YtjnmppdohglcaaaDoorOpsDoDep
import Derived.Test.YtjnmppdohglcaaaDoorOpsDoTra
import Derived.Test.YtjnmppdohglcaaaDoorOpsDoAuth
import Derived.Test.YtjnmppdohglcaaaDoorOpsDoAuthOk
import Derived.Test.YtjnmppdohglcaaaDoorOpsDoPayNo
import Derived.Test.YtjnmppdohglcaaaDoorOpsDoPayDo
import Derived.Test.YtjnmppdohglcaaaDoorOpsDoPayMove
import Derived.Test.YtjnmppdohglcaaaDoorOpsDoVoid
import Derived.Test.YtjnmppdohglcaaaDoorOpsDoCap
import Derived.Test.YtjnmppdohglcaaaDoorOpsDoRef
import Derived.Test.YtjnmppdohglcaaaDoorOpsDoChgNo
import Derived.Test.YtjnmppdohglcaaaDoorOpsDoChgOk
namespace Go.Proofs.YtjnmppdohglcaaaDoor
open Go Go.RowKit
set_option linter.unusedVariables false

theorem op_no {P : St → Int → Int → Prop} {s : St} {r : Rq} {E : Int} (hE : opE s r = E) (h0 : E ≠ 0) (h : P s E 0) : P (opS s r) (opE s r) (opI s r) := by
  have hI : opI s r = 0 := by unfold opI; rw [hE, if_neg h0]
  rw [opS_no (by rw [hE]; exact h0), hE, hI]
  exact h
theorem op_yes {P : St → Int → Int → Prop} {s T : St} {r : Rq} {I : Int} (hE : opE s r = 0) (hT : opT s r = T) (hI : (if r.op = 0 then (s.acs.length : Int) else if r.op = 3 then (s.pys.length : Int) else 0) = I) (h : P T 0 I) : P (opS s r) (opE s r) (opI s r) := by
  have hI2 : opI s r = I := by unfold opI; rw [if_pos hE]; exact hI
  rw [opS_yes hE, hT, hE, hI2]
  exact h
theorem lawdo_any (s : St) (X Y : Value) (A : Option Addr) (c : Nat) (B : Option Addr) (d : Nat) (r : Rq) (w : World) (hs : StAt w s X Y A c B d) (hX : IsSl X) (hY : IsSl Y) (hl9 : 9 ≤ s.acs.length) (hl64 : s.acs.length ≤ 64) (hp64 : s.pys.length ≤ 2000000) (hh : HasErr w) (hrt : rightB s.acs = true) :
    Calls Tryd.prog 9 #[stV s X Y A c B d, r.val] w (OpRes w (opS s r) X Y (opE s r) (opI s r)) := by
  have hcu : Curs s.acs := right_curs hrt
  let P : St → Int → Int → Prop := fun s' E I => Calls Tryd.prog 9 #[stV s X Y A c B d, r.val] w (OpRes w s' X Y E I)
  show P (opS s r) (opE s r) (opI s r)
  by_cases h0 : r.op = 0
  · by_cases hl : 64 ≤ s.acs.length
    · exact op_no (P := P) (show opE s r = 7 by unfold opE; rw [if_pos h0, if_pos hl]) (by decide) (lawop_full s X Y A c B d r w hs hX hY hl9 hl64 hp64 h0 hl)
    · exact op_yes (P := P) (show opE s r = 0 by unfold opE; rw [if_pos h0, if_neg hl]) (show opT s r = ⟨s.acs ++ [⟨r.a, 0, 0⟩], s.pys, s.now⟩ by unfold opT; rw [if_pos h0]) (show _ = (s.acs.length : Int) by rw [if_pos h0]) (lawop_open s X Y A c B d r w hs hX hY hl9 hl64 hp64 h0 (by omega))
  by_cases h1 : r.op = 1
  · by_cases hc : isC s.acs.length r.a
    · by_cases hM : moveE s.acs (3 * (acOf s.acs r.a).cur) r.a r.amt = 0
      · by_cases hP : postE s.acs (moveL s.acs (3 * (acOf s.acs r.a).cur) r.a r.amt) = 0
        · exact op_yes (P := P) (show opE s r = 0 by unfold opE; rw [if_neg (by omega), if_pos h1, if_pos hc]; unfold goE; rw [if_pos hM]; exact hP) (show opT s r = ⟨postL s.acs (moveL s.acs (3 * (acOf s.acs r.a).cur) r.a r.amt), s.pys, s.now⟩ by unfold opT goL; rw [if_neg (by omega), if_pos h1]) (show _ = 0 by rw [if_neg (by omega), if_neg (by omega)]) (lawop_dep_ok s X Y A c B d r w hs hX hY hl9 hl64 hp64 hh hcu h1 hc hM hP)
        · have hE0 := hP
          exact op_no (P := P) (show opE s r = postE s.acs (moveL s.acs (3 * (acOf s.acs r.a).cur) r.a r.amt) by unfold opE; rw [if_neg (by omega), if_pos h1, if_pos hc]; unfold goE; rw [if_pos hM]) hE0 (lawop_dep_post s X Y A c B d r w hs hX hY hl9 hl64 hp64 hh hcu h1 hc hM _ rfl hP)
      · have hE0 := hM
        exact op_no (P := P) (show opE s r = moveE s.acs (3 * (acOf s.acs r.a).cur) r.a r.amt by unfold opE; rw [if_neg (by omega), if_pos h1, if_pos hc]; unfold goE; rw [if_neg hM]) hE0 (lawop_dep_move s X Y A c B d r w hs hX hY hl9 hl64 hp64 hh hcu h1 hc _ rfl hM)
    · exact op_no (P := P) (show opE s r = 2 by unfold opE; rw [if_neg (by omega), if_pos h1, if_neg hc]) (by decide) (lawop_dep_no s X Y A c B d r w hs hX hY hl9 hl64 hp64 h1 hc)
  by_cases h2 : r.op = 2
  · by_cases hc : isC s.acs.length r.a
    · by_cases hb : isC s.acs.length r.b
      · by_cases hM : moveE s.acs r.a r.b r.amt = 0
        · by_cases hP : postE s.acs (moveL s.acs r.a r.b r.amt) = 0
          · exact op_yes (P := P) (show opE s r = 0 by unfold opE; rw [if_neg (by omega), if_neg (by omega), if_pos h2, if_pos ⟨hc, hb⟩]; unfold goE; rw [if_pos hM]; exact hP) (show opT s r = ⟨postL s.acs (moveL s.acs r.a r.b r.amt), s.pys, s.now⟩ by unfold opT goL; rw [if_neg (by omega), if_neg (by omega), if_pos h2]) (show _ = 0 by rw [if_neg (by omega), if_neg (by omega)]) (lawop_tra_ok s X Y A c B d r w hs hX hY hl9 hl64 hp64 hh hcu h2 hc hb hM hP)
          · have hE0 := hP
            exact op_no (P := P) (show opE s r = postE s.acs (moveL s.acs r.a r.b r.amt) by unfold opE; rw [if_neg (by omega), if_neg (by omega), if_pos h2, if_pos ⟨hc, hb⟩]; unfold goE; rw [if_pos hM]) hE0 (lawop_tra_post s X Y A c B d r w hs hX hY hl9 hl64 hp64 hh hcu h2 hc hb hM _ rfl hP)
        · have hE0 := hM
          exact op_no (P := P) (show opE s r = moveE s.acs r.a r.b r.amt by unfold opE; rw [if_neg (by omega), if_neg (by omega), if_pos h2, if_pos ⟨hc, hb⟩]; unfold goE; rw [if_neg hM]) hE0 (lawop_tra_move s X Y A c B d r w hs hX hY hl9 hl64 hp64 hh hcu h2 hc hb _ rfl hM)
      · exact op_no (P := P) (show opE s r = 2 by unfold opE; rw [if_neg (by omega), if_neg (by omega), if_pos h2, if_neg (fun h => hb h.2)]) (by decide) (lawop_tra_no2 s X Y A c B d r w hs hX hY hl9 hl64 hp64 h2 hc hb)
    · exact op_no (P := P) (show opE s r = 2 by unfold opE; rw [if_neg (by omega), if_neg (by omega), if_pos h2, if_neg (fun h => hc h.1)]) (by decide) (lawop_tra_no1 s X Y A c B d r w hs hX hY hl9 hl64 hp64 h2 hc)
  by_cases h3 : r.op = 3
  · by_cases hc : isC s.acs.length r.a
    · by_cases hb : isC s.acs.length r.b
      · by_cases he : r.a = r.b
        · exact op_no (P := P) (show opE s r = 1 by unfold opE; rw [if_neg (by omega), if_neg (by omega), if_neg (by omega), if_pos h3]; unfold authE; rw [if_pos ⟨hc, hb⟩, if_pos (.inl he)]) (by decide) (lawop_auth_bad1 s X Y A c B d r w hs hX hY hl9 hl64 hp64 h3 hc hb he)
        · by_cases ht : r.til ≤ s.now
          · exact op_no (P := P) (show opE s r = 1 by unfold opE; rw [if_neg (by omega), if_neg (by omega), if_neg (by omega), if_pos h3]; unfold authE; rw [if_pos ⟨hc, hb⟩, if_pos (.inr ht)]) (by decide) (lawop_auth_bad2 s X Y A c B d r w hs hX hY hl9 hl64 hp64 h3 hc hb he ht)
          · by_cases hf : 64 ≤ s.pys.length
            · exact op_no (P := P) (show opE s r = 7 by unfold opE; rw [if_neg (by omega), if_neg (by omega), if_neg (by omega), if_pos h3]; unfold authE; rw [if_pos ⟨hc, hb⟩, if_neg (fun h => h.elim he ht), if_pos hf]) (by decide) (lawop_auth_full s X Y A c B d r w hs hX hY hl9 hl64 hp64 h3 hc hb he ht hf)
            · by_cases hE : holdE s.acs r.a r.amt = 0
              · exact op_yes (P := P) (show opE s r = 0 by unfold opE; rw [if_neg (by omega), if_neg (by omega), if_neg (by omega), if_pos h3]; unfold authE; rw [if_pos ⟨hc, hb⟩, if_neg (fun h => h.elim he ht), if_neg hf]; exact hE) (show opT s r = ⟨holdL s.acs r.a r.amt, s.pys ++ [⟨r.a, r.b, r.amt, 0, 0, 0, r.til, 0⟩], s.now⟩ by unfold opT; rw [if_neg (by omega), if_neg (by omega), if_neg (by omega), if_pos h3]) (show _ = (s.pys.length : Int) by rw [if_neg (by omega), if_pos h3]) (lawop_auth_ok s X Y A c B d r w hs hX hY hl9 hl64 hp64 h3 hc hb he ht (by omega) hE)
              · have hE0 := hE
                exact op_no (P := P) (show opE s r = holdE s.acs r.a r.amt by unfold opE; rw [if_neg (by omega), if_neg (by omega), if_neg (by omega), if_pos h3]; unfold authE; rw [if_pos ⟨hc, hb⟩, if_neg (fun h => h.elim he ht), if_neg hf]) hE0 (lawop_auth_hold s X Y A c B d r w hs hX hY hl9 hl64 hp64 hh h3 hc hb he ht (by omega) _ rfl hE)
      · exact op_no (P := P) (show opE s r = 2 by unfold opE; rw [if_neg (by omega), if_neg (by omega), if_neg (by omega), if_pos h3]; unfold authE; rw [if_neg (fun h => hb h.2)]) (by decide) (lawop_auth_no2 s X Y A c B d r w hs hX hY hl9 hl64 hp64 h3 hc hb)
    · exact op_no (P := P) (show opE s r = 2 by unfold opE; rw [if_neg (by omega), if_neg (by omega), if_neg (by omega), if_pos h3]; unfold authE; rw [if_neg (fun h => hc h.1)]) (by decide) (lawop_auth_no1 s X Y A c B d r w hs hX hY hl9 hl64 hp64 h3 hc)
  by_cases h47 : 4 ≤ r.op ∧ r.op ≤ 7
  · by_cases hc : 0 ≤ r.a ∧ r.a < (s.pys.length : Int)
    · by_cases hP : payE (pyAt s.pys r.a) r.op r.amt = 0
      · have hEE : opE s r = accE s.acs (pyAt s.pys r.a) r.op r.amt := by unfold opE; rw [if_neg (by omega), if_neg (by omega), if_neg (by omega), if_neg (by omega), if_pos (by omega)]; unfold payOpE; rw [if_pos hc, if_pos hP]
        have hTT : opT s r = ⟨accL s.acs (pyAt s.pys r.a) r.op r.amt, s.pys.set r.a.toNat (payP (pyAt s.pys r.a) r.op r.amt), s.now⟩ := by unfold opT; rw [if_neg (by omega), if_neg (by omega), if_neg (by omega), if_neg (by omega)]
        have hII : (if r.op = 0 then (s.acs.length : Int) else if r.op = 3 then (s.pys.length : Int) else 0) = 0 := by rw [if_neg h0, if_neg h3]
        by_cases g4 : r.op = 4
        · rw [g4] at hEE hTT hP
          by_cases hM : moveE s.acs (pyAt s.pys r.a).frm (pyAt s.pys r.a).dst r.amt = 0
          · have hz : opE s r = spendE s.acs r.amt (moveL s.acs (pyAt s.pys r.a).frm (pyAt s.pys r.a).dst r.amt) := by rw [hEE]; unfold accE; rw [if_neg (by decide), if_pos hM, if_pos rfl]
            by_cases hE0 : spendE s.acs r.amt (moveL s.acs (pyAt s.pys r.a).frm (pyAt s.pys r.a).dst r.amt) = 0
            · exact op_yes (P := P) (hz.trans hE0) (show opT s r = ⟨spendL s.acs r.amt (moveL s.acs (pyAt s.pys r.a).frm (pyAt s.pys r.a).dst r.amt), s.pys.set r.a.toNat (payP (pyAt s.pys r.a) 4 r.amt), s.now⟩ by rw [hTT]; unfold accL; rw [if_neg (by decide), if_pos rfl]) hII (lawop_cap_ok s X Y A c B d r w hs hX hY hl9 hl64 hp64 hh hcu g4 hc hP hM hE0)
            · exact op_no (P := P) hz hE0 (lawop_cap_no s X Y A c B d r w hs hX hY hl9 hl64 hp64 hh hcu g4 hc hP hM _ rfl hE0)
          · exact op_no (P := P) (show opE s r = moveE s.acs (pyAt s.pys r.a).frm (pyAt s.pys r.a).dst r.amt by rw [hEE]; unfold accE; rw [if_neg (by decide), if_neg hM]) hM (lawop_pay_move4 s X Y A c B d r w hs hX hY hl9 hl64 hp64 hh hcu g4 hc hP _ rfl hM)
        by_cases g5 : r.op = 5
        · rw [g5] at hEE hTT hP
          have hz : opE s r = relE s.acs (pyAt s.pys r.a).frm (leftP (pyAt s.pys r.a)) := by rw [hEE]; unfold accE; rw [if_pos rfl]
          by_cases hE0 : relE s.acs (pyAt s.pys r.a).frm (leftP (pyAt s.pys r.a)) = 0
          · exact op_yes (P := P) (hz.trans hE0) (show opT s r = ⟨relL s.acs (pyAt s.pys r.a).frm (leftP (pyAt s.pys r.a)), s.pys.set r.a.toNat (payP (pyAt s.pys r.a) 5 r.amt), s.now⟩ by rw [hTT]; unfold accL; rw [if_pos rfl]) hII (lawop_void_ok s X Y A c B d r w hs hX hY hl9 hl64 hp64 hh g5 hc hP hE0)
          · exact op_no (P := P) hz hE0 (lawop_void_no s X Y A c B d r w hs hX hY hl9 hl64 hp64 hh g5 hc hP _ rfl hE0)
        by_cases g6 : r.op = 6
        · rw [g6] at hEE hTT hP
          by_cases hM : moveE s.acs (pyAt s.pys r.a).frm (pyAt s.pys r.a).dst r.amt = 0
          · have hz : opE s r = postE s.acs (backE (moveL s.acs (pyAt s.pys r.a).frm (pyAt s.pys r.a).dst r.amt)) := by rw [hEE]; unfold accE; rw [if_neg (by decide), if_pos hM, if_neg (by decide), if_pos rfl]
            by_cases hE0 : postE s.acs (backE (moveL s.acs (pyAt s.pys r.a).frm (pyAt s.pys r.a).dst r.amt)) = 0
            · exact op_yes (P := P) (hz.trans hE0) (show opT s r = ⟨postL s.acs (backE (moveL s.acs (pyAt s.pys r.a).frm (pyAt s.pys r.a).dst r.amt)), s.pys.set r.a.toNat (payP (pyAt s.pys r.a) 6 r.amt), s.now⟩ by rw [hTT]; unfold accL; rw [if_neg (by decide), if_neg (by decide), if_pos rfl]) hII (lawop_ref_ok s X Y A c B d r w hs hX hY hl9 hl64 hp64 hh hcu g6 hc hP hM hE0)
            · exact op_no (P := P) hz hE0 (lawop_ref_no s X Y A c B d r w hs hX hY hl9 hl64 hp64 hh hcu g6 hc hP hM _ rfl hE0)
          · exact op_no (P := P) (show opE s r = moveE s.acs (pyAt s.pys r.a).frm (pyAt s.pys r.a).dst r.amt by rw [hEE]; unfold accE; rw [if_neg (by decide), if_neg hM]) hM (lawop_pay_move6 s X Y A c B d r w hs hX hY hl9 hl64 hp64 hh hcu g6 hc hP _ rfl hM)
        have g7 : r.op = 7 := by omega
        · rw [g7] at hEE hTT hP
          by_cases hM : moveE s.acs (pyAt s.pys r.a).frm (pyAt s.pys r.a).dst r.amt = 0
          · have hz : opE s r = postE s.acs (chgL s.acs (pyAt s.pys r.a).dst (backE (moveL s.acs (pyAt s.pys r.a).frm (pyAt s.pys r.a).dst r.amt))) := by rw [hEE]; unfold accE; rw [if_neg (by decide), if_pos hM, if_neg (by decide), if_neg (by decide)]
            by_cases hE0 : postE s.acs (chgL s.acs (pyAt s.pys r.a).dst (backE (moveL s.acs (pyAt s.pys r.a).frm (pyAt s.pys r.a).dst r.amt))) = 0
            · exact op_yes (P := P) (hz.trans hE0) (show opT s r = ⟨postL s.acs (chgL s.acs (pyAt s.pys r.a).dst (backE (moveL s.acs (pyAt s.pys r.a).frm (pyAt s.pys r.a).dst r.amt))), s.pys.set r.a.toNat (payP (pyAt s.pys r.a) 7 r.amt), s.now⟩ by rw [hTT]; unfold accL; rw [if_neg (by decide), if_neg (by decide), if_neg (by decide)]) hII (lawop_chg_ok s X Y A c B d r w hs hX hY hl9 hl64 hp64 hh hcu g7 hc hP hrt hM hE0)
            · exact op_no (P := P) hz hE0 (lawop_chg_no s X Y A c B d r w hs hX hY hl9 hl64 hp64 hh hcu g7 hc hP hrt hM _ rfl hE0)
          · exact op_no (P := P) (show opE s r = moveE s.acs (pyAt s.pys r.a).frm (pyAt s.pys r.a).dst r.amt by rw [hEE]; unfold accE; rw [if_neg (by decide), if_neg hM]) hM (lawop_pay_move7 s X Y A c B d r w hs hX hY hl9 hl64 hp64 hh hcu g7 hc hP _ rfl hM)
      · have hEE : opE s r = payE (pyAt s.pys r.a) r.op r.amt := by unfold opE; rw [if_neg (by omega), if_neg (by omega), if_neg (by omega), if_neg (by omega), if_pos (by omega)]; unfold payOpE; rw [if_pos hc, if_neg hP]
        by_cases g4 : r.op = 4
        · rw [g4] at hEE hP
          exact op_no (P := P) hEE hP (lawop_pay_do4 s X Y A c B d r w hs hX hY hl9 hl64 hp64 hh g4 hc _ rfl hP)
        by_cases g5 : r.op = 5
        · rw [g5] at hEE hP
          exact op_no (P := P) hEE hP (lawop_pay_do5 s X Y A c B d r w hs hX hY hl9 hl64 hp64 hh g5 hc _ rfl hP)
        by_cases g6 : r.op = 6
        · rw [g6] at hEE hP
          exact op_no (P := P) hEE hP (lawop_pay_do6 s X Y A c B d r w hs hX hY hl9 hl64 hp64 hh g6 hc _ rfl hP)
        have g7 : r.op = 7 := by omega
        · rw [g7] at hEE hP
          exact op_no (P := P) hEE hP (lawop_pay_do7 s X Y A c B d r w hs hX hY hl9 hl64 hp64 hh g7 hc _ rfl hP)
    · have hEE : opE s r = 2 := by unfold opE; rw [if_neg (by omega), if_neg (by omega), if_neg (by omega), if_neg (by omega), if_pos (by omega)]; unfold payOpE; rw [if_neg hc]
      by_cases g4 : r.op = 4
      · exact op_no (P := P) hEE (by decide) (lawop_pay_no4 s X Y A c B d r w hs hX hY hl9 hl64 hp64 g4 hc)
      by_cases g5 : r.op = 5
      · exact op_no (P := P) hEE (by decide) (lawop_pay_no5 s X Y A c B d r w hs hX hY hl9 hl64 hp64 g5 hc)
      by_cases g6 : r.op = 6
      · exact op_no (P := P) hEE (by decide) (lawop_pay_no6 s X Y A c B d r w hs hX hY hl9 hl64 hp64 g6 hc)
      have g7 : r.op = 7 := by omega
      · exact op_no (P := P) hEE (by decide) (lawop_pay_no7 s X Y A c B d r w hs hX hY hl9 hl64 hp64 g7 hc)
  exact op_no (P := P) (show opE s r = 1 by unfold opE; rw [if_neg (by omega), if_neg (by omega), if_neg (by omega), if_neg (by omega), if_neg (by omega)]) (by decide) (lawop_none s X Y A c B d r w hs hX hY hl9 hl64 hp64 (by omega))
end Go.Proofs.YtjnmppdohglcaaaDoor
