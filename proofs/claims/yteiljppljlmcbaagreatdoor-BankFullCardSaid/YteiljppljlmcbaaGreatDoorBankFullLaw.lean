/-
  The law BankFull: where there are too many keys a request is told so, and changes nothing.
-/
import Derived.Test.YteiljppljlmcbaaGreatDoorBankAwake
import Derived.Test.YteiljppljlmcbaaGreatDoorBankHist
import Derived.Test.YteiljppljlmcbaaGreatDoorAskSlice
import Derived.Test.YteiljppljlmcbaaGreatDoorGrG
namespace Go.Proofs.YteiljppljlmcbaaGreatDoor
open Go Go.RowKit
set_option linter.unusedVariables false

/-- What is known when so many were laid. -/
def fkR (i : Nat) : Rq := ⟨1000 + (i : Int), 0, 0, 0, 0, 0, 0⟩
def fks (j : Nat) : List Kn := (List.range j).map fun i => ⟨fkR i, 0, 0, true⟩
theorem fks_len (j : Nat) : (fks j).length = j := by simp [fks]
theorem fks_next (j : Nat) : fks (j + 1) = fks j ++ [⟨fkR j, 0, 0, true⟩] := by simp [fks, List.range_succ]
theorem fks_none {j : Nat} {key : Int} (hk : key < 256) : findN (fks j) key = none := find_none.2 fun i a h => by
  have hm := List.mem_of_getElem? h
  unfold fks at hm
  obtain ⟨x, _, rfl⟩ := List.mem_map.1 hm
  unfold fkR
  dsimp only
  omega
theorem fks_full {s : St} {j : Nat} {r : Rq} {ls : List Bool} (h : r.few) (hj : 256 ≤ j) : bkO s (fks j) r ls = ⟨s, fks j, 7, 0, 0⟩ := by
  have hf := fks_none (j := j) h.2.2.2
  unfold bkO
  rw [if_pos h.1, if_neg (fun e => (find_askR.1 e) hf), show kputE (fks j) r = 7 by unfold kputE; rw [if_pos hf, if_pos (by rw [fks_len]; exact hj)], if_neg (by decide)]
theorem fks_room {s : St} {j : Nat} {r : Rq} {ls : List Bool} (h : r.few) (hj : j < 256) : (bkO s (fks j) r ls).kl.length = j + 1 := by
  have hf := fks_none (j := j) h.2.2.2
  unfold bkO
  rw [if_pos h.1, if_neg (fun e => (find_askR.1 e) hf), if_pos (by unfold kputE; rw [if_pos hf, if_neg (by rw [fks_len]; omega)])]
  simp [fks_len]

set_option maxRecDepth 100000 in
set_option maxHeartbeats 2000000 in
theorem bankFull_walk (w : World) (y : Int) (hy : (Lit.int .u16 y).wf = true) (z : Ak) (hzf : z.fits) (hh : HasErr w) :
    Calls Tryz.prog 6 #[.int .u16 y, z.val] w fun e w' => e = .returned (.bool true) ∧ Below w.heap.size w w' := by
  obtain ⟨x, rfl, hx⟩ := u16_nat hy
  obtain ⟨j8, hj8⟩ : ∃ k : Nat, x % 8 = k := ⟨_, rfl⟩
  have hk1 : (x : Int) % 8 = (j8 : Int) := by omega
  have hk2 : (x : Int).tmod 8 = (j8 : Int) := by rw [Int.tmod_eq_emod_of_nonneg (by omega)]; exact hk1
  have hk3 : j8 < 8 := by omega
  obtain ⟨m, hm⟩ : ∃ m, m = min (250 + j8) 256 := ⟨_, rfl⟩
  have hmin := fun W' => min2_ok (P := Tryz.prog) (250 + j8) 256 m (250 + (j8 : Int)) 256 (by omega) rfl hm W' #[3, 3] 3
  have hm1 : m ≤ 256 := by omega
  have hm2 : m = 256 ∨ m = 250 + j8 := by omega
  have hm3 : m ≤ 250 + j8 := by omega
  have HAW := Lib.hid (fun W (hW : Below w.heap.size w W) => bawake_ok W (hh.below hW))
  have HNW := Lib.hid (fun W => onew_any W)
  have HAS := Lib.hid (fun W => ask_any z hzf W)
  have hfew := z.few hzf
  generalize z.req = r at HAS hfew
  have hn9 : new0.acs.length = 9 := rfl
  have hq0 : new0.pys.length = 0 := rfl
  have ht0 : new0.now = 0 := rfl
  have hrt : rightB new0.acs = true := by decide
  have HN9 := Lib.hid hn9
  have HD := Lib.hid (fun W V (h1 : SkAt W V new0 [] (fks m)) (h2 : Below w.heap.size w W) => bdo_any V new0 [] (fks m) r W none 0 0 [] h1 ⟨hrt, by decide, by decide, by rw [fks_len]; omega⟩ (hh.below h2) RdS.nil rfl (by decide) (by rw [fks_len]; omega))
  unfold BkRes at HD
  have HFU := Lib.hid (fun (hj : 256 ≤ m) => fks_full (s := new0) (j := m) (ls := []) hfew hj)
  have HRO := Lib.hid (fun (hj : m < 256) => fks_room (s := new0) (j := m) (ls := []) hfew hj)
  have HSA := Lib.hid (fun W V V' (h1 : SkAt W V new0 [] (fks m)) (h2 : SkAt W V' new0 [] (fks m)) => sk_same V V' new0 [] [] (fks m) W h1 h2 (by decide) (by decide) (by rw [fks_len]; omega))
  generalize bkO new0 (fks m) r [] = X at HD HFU HRO
  unfold BoolRes Sv.val Sv.cells at HSA
  unfold stV at HNW
  rw [hn9, hq0, ht0] at HNW
  obtain ⟨rk, ro, ra, rb, rm, rl, ru⟩ := r
  obtain ⟨key, op, qa, qb, amt, legs, til⟩ := z
  unfold AskRes Rq.val at HAS
  unfold Ak.val at HAS ⊢
  unfold Sv.val Sv.cells Rq.val at HD
  dsimp only at HAS HD HSA ⊢
  have HB0 := Lib.hid ((Below.refl w.heap.size w).alloc (Nat.le_refl _) (.cells #[.int .u8 (key : Int), .int .u8 (op : Int), .int .u8 (qa : Int), .int .u8 (qb : Int), .int .u16 (amt : Int), .int .u8 (legs : Int), .int .u8 (til : Int)] 39))
  have HQ0 := Lib.hid (Blk.new w 39 #[.int .u8 (key : Int), .int .u8 (op : Int), .int .u8 (qa : Int), .int .u8 (qb : Int), .int .u16 (amt : Int), .int .u8 (legs : Int), .int .u8 (til : Int)])
  clear hh hy hzf hj8 hm hfew hn9 hq0 ht0 hrt
  go_enter Tryz.func6, Tryz.ntmps6
  go_upto_region 1 with fail
  generalize w.alloc (.cells #[.int .u8 (key : Int), .int .u8 (op : Int), .int .u8 (qa : Int), .int .u8 (qb : Int), .int .u16 (amt : Int), .int .u8 (legs : Int), .int .u8 (til : Int)] 39) = wz at HB0 HQ0 ⊢
  go_wp2_with fail
  refine (HAW.out _ HB0.out).mono ?_
  rintro _ wa ⟨rfl, hba⟩
  have HL_0 := Lib.hid (HB0.out.trans (hba.mono HB0.out.size))
  have Q_0 := Lib.hid (HQ0.out.later hba)
  have hqa : w.heap.size < wa.heap.size := Q_0.out.lt
  clear hba HAW HB0 HQ0
  go_wp2_with fail
  refine (HNW.out _).mono ?_
  rintro _ w1 ⟨A, c, rfl, hst, hb1⟩
  have HV_1 := Lib.hid (show SkAt w1 ⟨A, 9, c, none, 0, 0, none, 0, 0, none, 0, 0, 0⟩ new0 [] [] from ⟨rfl, rfl, rfl, rfl, rfl, hst.accs, RdS.nil, RdS.nil, RdS.nil, by have := hst.sa; rw [HN9.out] at this; exact this, by have := hst.sp; exact this, ⟨fun _ => ⟨rfl, rfl⟩, Nat.le_refl _, Nat.zero_le _⟩, ⟨fun _ => ⟨rfl, rfl⟩, Nat.le_refl _, Nat.zero_le _⟩⟩)
  have HL_1 := Lib.hid (HL_0.out.trans (hb1.mono HL_0.out.size))
  have Q_1 := Lib.hid (Q_0.out.later hb1)
  clear hst hb1 HNW HL_0 Q_0
  go_upto_region 4 with fail
  have hg : w.heap.size ≤ w1.heap.size := HL_1.out.size
  have hgq : w.heap.size < w1.heap.size := Q_1.out.lt
  have al := (Below.refl w1.heap.size w1).alloc (Nat.le_refl _) (.cells #[.slice A 9 c, .slice none 0 0, .slice none 0 0, .slice none 0 0, .int .i64 0] 34)
  have nb0 := Blk.new w1 34 #[.slice A 9 c, .slice none 0 0, .slice none 0 0, .slice none 0 0, .int .i64 0]
  have HL_2 := Lib.hid (HL_1.out.trans (al.mono HL_1.out.size))
  have HV_2 := Lib.hid (HV_1.out.below al)
  have Q_2 := Lib.hid (Q_1.out.later al)
  clear al HL_1 HV_1 Q_1
  have G_2 := Lib.hid (nb0)
  clear nb0
  generalize w1.alloc (.cells #[.slice A 9 c, .slice none 0 0, .slice none 0 0, .slice none 0 0, .int .i64 0] 34) = w2 at HL_2 HV_2 Q_2 G_2 ⊢
  generalize w1.heap.size = g at G_2 hg hgq ⊢
  have hgb : g < w2.heap.size := G_2.out.lt
  go_wp2
  go_loopw [7] (fun i wr => ∃ (k : Nat) (Y : Option Addr) (yc : Nat), k ≤ m ∧ i = .int .i64 (k : Int) ∧ Blk wr g 34 #[.slice A 9 c, .slice none 0 0, .slice none 0 0, .slice Y k yc, .int .i64 0] ∧ OwnS known wr w2.heap.size (.slice Y k yc) (fks k) ∧ On (fun b => b < w2.heap.size ∧ b ≠ g) w2 wr) (fun i _ => m - (intOf i).toNat)
  case atStart => exact ⟨0, none, 0, Nat.zero_le _, rfl, G_2.out, OwnS.nil, On.refl _ _⟩
  case round =>
    obtain ⟨k, Y, yc, hk, rfl, hG, hO, hOn⟩ := hrel
    have G3 := Lib.hid hG
    have O3 := Lib.hid hO
    have N3 := Lib.hid hOn
    clear hG hO hOn
    by_cases hlt : k < m
    · have y3 := G3.out.cell 3 rfl
      have hszr := N3.out.size
      go_upto_region 8 with fail
      go_wp2_with (at_builtin; first
        | (refine wpList_append_rec known 32 Tryz.underlying32 info_known rfl _ rfl (.tmp 26) (.tmp 31) rfl w2.heap.size (.slice Y k yc) (fks k) rfl (O3.out.alloc _) ⟨wr.heap.size, 0, none⟩ 1 ⟨fkR k, 0, 0, true⟩ rfl (AtS.new rfl) (by rw [fks_len]; omega) (by rw [fks_len]; omega) (by simp; omega) ?_
           intro v' w4 ho4 hg4
           rw [← fks_next] at ho4
           obtain ⟨Y4, yc4, rfl, _, _, _, _⟩ := ho4.form
           rw [fks_len] at ho4 ⊢
           have O4 := Lib.hid ho4
           have hgr : ∀ b, (Value.slice Y k yc).ownBlock = some b → w2.heap.size ≤ b := O3.out.rowLt
           have G4 := Lib.hid ((G3.out.more _).grown hg4 (fun e => by have := hgr _ e.symm; omega))
           have N4 := Lib.hid ((N3.out.trans (On.of ((Below.refl wr.heap.size wr).alloc (Nat.le_refl _) _) (fun b hb => by have := hb.1; omega))).grown hg4 (fun b hb => by have := hb.1; simp; omega) (fun b e hb => by have := hgr b e; have := hb.1; omega))
           have k3 := G4.out.cell 3 rfl
           have f3 := G4.out.loose 3
           clear ho4 hg4 y3 hgr))
      go_roundw
      · exact ⟨k + 1, Y4, yc4, by omega, by first | rfl | (congr 1; omega), G4.out.set 3 (.slice Y4 (k + 1) yc4), O4.out.setOther (p := ⟨g, 3, none⟩) (fun b e => by have := O4.out.rowLt b e; dsimp only; omega), N4.out.setCell (p := ⟨g, 3, none⟩) (fun e => e.2 rfl) _⟩
      · simp [intOf]; omega
    · obtain rfl : k = m := by omega
      have HVr := Lib.hid (HV_2.out.on G_2.out (thin_st _ _ _ _ _ _ _ _ _ _ _ _ _) N3.out)
      obtain ⟨_, _, eY, oy1, oy2, oy3, oy4⟩ := O3.out.form
      injection eY with eY1 eY2 eY3
      subst eY1 eY3
      clear eY2
      rw [fks_len] at oy2 oy4
      have HV_0 := Lib.hid (show SkAt wr ⟨A, 9, c, none, 0, 0, none, 0, 0, Y, k, yc, 0⟩ new0 [] (fks k) from ⟨HVr.out.n, HVr.out.q, HVr.out.xn, fks_len k, HVr.out.t, HVr.out.accs, HVr.out.pays, HVr.out.sag, oy1, HVr.out.sa, HVr.out.sp, HVr.out.sx, ⟨oy4, oy2, oy3⟩⟩)
      have HL_0 := Lib.hid (HL_2.out.trans (N3.out.below (B := w.heap.size) (fun b hb => ⟨by have := HL_2.out.size; omega, by omega⟩)))
      have Q_0 := Lib.hid (Blk.on Q_2.out N3.out ⟨by omega, by omega⟩)
      have G_0 := Lib.hid G3.out
      clear HVr G3 O3 N3 HL_2 HV_2 Q_2 G_2 oy1 oy2 oy3 oy4
      obtain ⟨r0, r1, r2, r3, r4, r5, r6⟩ := (show _ ∧ _ ∧ _ ∧ _ ∧ _ ∧ _ ∧ _ from ⟨Q_0.out.cell 0 rfl, Q_0.out.cell 1 rfl, Q_0.out.cell 2 rfl, Q_0.out.cell 3 rfl, Q_0.out.cell 4 rfl, Q_0.out.cell 5 rfl, Q_0.out.cell 6 rfl⟩)
      go_upto_region 10 with (first
        | (go_at_call 10; refine (HAS.out _).mono ?_; rintro _ wc ⟨rfl, hbc⟩
           have HXc := Lib.hid hbc
           clear hbc r0 r1 r2 r3 r4 r5 r6))
      have HL_1 := Lib.hid (HL_0.out.trans (HXc.out.mono HL_0.out.size))
      have HV_1 := Lib.hid (HV_0.out.below HXc.out)
      have G_1 := Lib.hid (G_0.out.later HXc.out)
      clear HL_0 HV_0 G_0
      have hgc : g < wc.heap.size := G_1.out.lt
      have al := (Below.refl wc.heap.size wc).alloc (Nat.le_refl _) (.cells (rqC rk ro ra rb rm rl ru) 42)
      have nb0 := Blk.new wc 42 (rqC rk ro ra rb rm rl ru)
      have HL_2 := Lib.hid (HL_1.out.trans (al.mono HL_1.out.size))
      have HV_2 := Lib.hid (HV_1.out.below al)
      have G_2 := Lib.hid (G_1.out.later al)
      clear al HL_1 HV_1 G_1
      have R_2 := Lib.hid (nb0)
      clear nb0
      generalize wc.alloc (.cells (rqC rk ro ra rb rm rl ru) 42) = wd at HL_2 HV_2 G_2 R_2 ⊢
      clear HXc HAS Q_0
      generalize wc.heap.size = gr at R_2 hgc ⊢
      have D1 := Lib.hid (HD.out wd ⟨A, 9, c, none, 0, 0, none, 0, 0, Y, k, yc, 0⟩ HV_2.out HL_2.out)
      dsimp only at D1
      by_cases h256 : 256 ≤ k
      · have hX := HFU.out h256
        subst hX
        dsimp only at D1
        have hj6 : 256 ≤ 250 + (j8 : Int) := by omega
        have qe := decide_eq_true hj6
        obtain ⟨x0, x1, x2, x3, x4⟩ := (show _ ∧ _ ∧ _ ∧ _ ∧ _ from ⟨G_2.out.cell 0 rfl, G_2.out.cell 1 rfl, G_2.out.cell 2 rfl, G_2.out.cell 3 rfl, G_2.out.cell 4 rfl⟩)
        obtain ⟨r0, r1, r2, r3, r4, r5, r6⟩ := (show _ ∧ _ ∧ _ ∧ _ ∧ _ ∧ _ ∧ _ from ⟨R_2.out.cell 0 rfl, R_2.out.cell 1 rfl, R_2.out.cell 2 rfl, R_2.out.cell 3 rfl, R_2.out.cell 4 rfl, R_2.out.cell 5 rfl, R_2.out.cell 6 rfl⟩)
        go_upto_region 11 with (first
          | (go_at_call 13; refine D1.out.mono ?_; rintro _ we ⟨V, rfl, hv, hb⟩
             obtain ⟨A4, n4, c4, B4, q4, d4, X4, xn4, xc4, Y4, yn4, yc4, t4⟩ := V
             dsimp only at hv ⊢
             have HVa := Lib.hid hv
             have HXe := Lib.hid hb
             clear hv hb x0 x1 x2 x3 x4 r0 r1 r2 r3 r4 r5 r6))
        have HL_3 := Lib.hid (HL_2.out.trans (HXe.out.mono HL_2.out.size))
        have HV_3 := Lib.hid (HV_2.out.below HXe.out)
        have G_3 := Lib.hid (G_2.out.later HXe.out)
        have R_3 := Lib.hid (R_2.out.later HXe.out)
        clear HL_2 HV_2 G_2 R_2
        have HP_3 := Lib.hid (HVa.out)
        clear HVa HXe D1 HD
        have hge : g < we.heap.size := G_3.out.lt
        have al := (Below.refl we.heap.size we).alloc (Nat.le_refl _) (.cells #[.slice A4 n4 c4, .slice B4 q4 d4, .slice X4 xn4 xc4, .slice Y4 yn4 yc4, .int .i64 t4] 34)
        replace al := al.alloc (by simp; try omega) (.cells #[.int .i64 7, .int .i64 0] 50)
        have nb0 := (Blk.new we 34 #[.slice A4 n4 c4, .slice B4 q4 d4, .slice X4 xn4 xc4, .slice Y4 yn4 yc4, .int .i64 t4]).more (.cells #[.int .i64 7, .int .i64 0] 50)
        have nb1 := Blk.new (we.alloc (.cells #[.slice A4 n4 c4, .slice B4 q4 d4, .slice X4 xn4 xc4, .slice Y4 yn4 yc4, .int .i64 t4] 34)) 50 #[.int .i64 7, .int .i64 0]
        rw [alloc_size] at nb1
        have HL_4 := Lib.hid (HL_3.out.trans (al.mono HL_3.out.size))
        have HV_4 := Lib.hid (HV_3.out.below al)
        have G_4 := Lib.hid (G_3.out.later al)
        have R_4 := Lib.hid (R_3.out.later al)
        have HP_4 := Lib.hid (HP_3.out.below al)
        clear al HL_3 HV_3 G_3 R_3 HP_3
        have S1_4 := Lib.hid (nb0)
        have P1_4 := Lib.hid (nb1)
        clear nb0 nb1
        generalize (we.alloc (.cells #[.slice A4 n4 c4, .slice B4 q4 d4, .slice X4 xn4 xc4, .slice Y4 yn4 yc4, .int .i64 t4] 34)).alloc (.cells #[.int .i64 7, .int .i64 0] 50) = wf at HL_4 HV_4 G_4 R_4 HP_4 S1_4 P1_4 ⊢
        generalize we.heap.size = g9 at S1_4 P1_4 hge ⊢
        obtain ⟨x0, x1, x2, x3, x4⟩ := (show _ ∧ _ ∧ _ ∧ _ ∧ _ from ⟨S1_4.out.cell 0 rfl, S1_4.out.cell 1 rfl, S1_4.out.cell 2 rfl, S1_4.out.cell 3 rfl, S1_4.out.cell 4 rfl⟩)
        obtain ⟨y0, y1, y2, y3, y4⟩ := (show _ ∧ _ ∧ _ ∧ _ ∧ _ from ⟨G_4.out.cell 0 rfl, G_4.out.cell 1 rfl, G_4.out.cell 2 rfl, G_4.out.cell 3 rfl, G_4.out.cell 4 rfl⟩)
        obtain ⟨p0, p1⟩ := (show _ ∧ _ from ⟨P1_4.out.cell 0 rfl, P1_4.out.cell 1 rfl⟩)
        have HS := Lib.hid (HSA.out wf ⟨A, 9, c, none, 0, 0, none, 0, 0, Y, k, yc, 0⟩ ⟨A4, n4, c4, B4, q4, d4, X4, xn4, xc4, Y4, yn4, yc4, t4⟩ HV_4.out HP_4.out)
        dsimp only at HS
        go_wp2_with (go_at_call 12; refine HS.out.mono ?_; rintro _ wg ⟨rfl, hbg⟩)
        go_ret
        exact ⟨rfl, HL_4.out.trans (hbg.mono HL_4.out.size)⟩
      · have hX := HRO.out (by omega)
        obtain ⟨T8, K8, E8, I8, N8⟩ := X
        dsimp only at D1 hX
        have HX8 := Lib.hid hX
        clear hX
        have hj6 : ¬ 256 ≤ 250 + (j8 : Int) := by omega
        have qe := decide_eq_false hj6
        obtain ⟨x0, x1, x2, x3, x4⟩ := (show _ ∧ _ ∧ _ ∧ _ ∧ _ from ⟨G_2.out.cell 0 rfl, G_2.out.cell 1 rfl, G_2.out.cell 2 rfl, G_2.out.cell 3 rfl, G_2.out.cell 4 rfl⟩)
        obtain ⟨r0, r1, r2, r3, r4, r5, r6⟩ := (show _ ∧ _ ∧ _ ∧ _ ∧ _ ∧ _ ∧ _ from ⟨R_2.out.cell 0 rfl, R_2.out.cell 1 rfl, R_2.out.cell 2 rfl, R_2.out.cell 3 rfl, R_2.out.cell 4 rfl, R_2.out.cell 5 rfl, R_2.out.cell 6 rfl⟩)
        go_upto_region 11 with (first
          | (go_at_call 13; refine D1.out.mono ?_; rintro _ we ⟨V, rfl, hv, hb⟩
             obtain ⟨A4, n4, c4, B4, q4, d4, X4, xn4, xc4, Y4, yn4, yc4, t4⟩ := V
             dsimp only at hv ⊢
             have HVa := Lib.hid hv
             have HXe := Lib.hid hb
             clear hv hb x0 x1 x2 x3 x4 r0 r1 r2 r3 r4 r5 r6))
        have HL_3 := Lib.hid (HL_2.out.trans (HXe.out.mono HL_2.out.size))
        have HV_3 := Lib.hid (HV_2.out.below HXe.out)
        have G_3 := Lib.hid (G_2.out.later HXe.out)
        have R_3 := Lib.hid (R_2.out.later HXe.out)
        clear HL_2 HV_2 G_2 R_2
        have HP_3 := Lib.hid (HVa.out)
        clear HVa HXe D1 HD
        have al := (Below.refl we.heap.size we).alloc (Nat.le_refl _) (.cells #[.slice A4 n4 c4, .slice B4 q4 d4, .slice X4 xn4 xc4, .slice Y4 yn4 yc4, .int .i64 t4] 34)
        replace al := al.alloc (by simp; try omega) (.cells #[.int .i64 E8, .int .i64 I8] 50)
        have nb0 := (Blk.new we 34 #[.slice A4 n4 c4, .slice B4 q4 d4, .slice X4 xn4 xc4, .slice Y4 yn4 yc4, .int .i64 t4]).more (.cells #[.int .i64 E8, .int .i64 I8] 50)
        have nb1 := Blk.new (we.alloc (.cells #[.slice A4 n4 c4, .slice B4 q4 d4, .slice X4 xn4 xc4, .slice Y4 yn4 yc4, .int .i64 t4] 34)) 50 #[.int .i64 E8, .int .i64 I8]
        rw [alloc_size] at nb1
        have HL_4 := Lib.hid (HL_3.out.trans (al.mono HL_3.out.size))
        have HV_4 := Lib.hid (HV_3.out.below al)
        have G_4 := Lib.hid (G_3.out.later al)
        have R_4 := Lib.hid (R_3.out.later al)
        have HP_4 := Lib.hid (HP_3.out.below al)
        clear al HL_3 HV_3 G_3 R_3 HP_3
        have S1_4 := Lib.hid (nb0)
        have P1_4 := Lib.hid (nb1)
        clear nb0 nb1
        generalize (we.alloc (.cells #[.slice A4 n4 c4, .slice B4 q4 d4, .slice X4 xn4 xc4, .slice Y4 yn4 yc4, .int .i64 t4] 34)).alloc (.cells #[.int .i64 E8, .int .i64 I8] 50) = wf at HL_4 HV_4 G_4 R_4 HP_4 S1_4 P1_4 ⊢
        have hy4 : (yn4 : Int) = 250 + (j8 : Int) + 1 := by have h1 := HP_4.out.yn; have h2 := HX8.out; dsimp only at h1; omega
        have hye := eqT hy4
        have x3 := S1_4.out.cell 3 rfl
        clear hy4
        go_wp2
        go_ret
        exact ⟨rfl, HL_4.out⟩
end Go.Proofs.YteiljppljlmcbaaGreatDoor
