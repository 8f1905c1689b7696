/-
  The law's Entries by its contract.
-/
import Derived.Test.YtbneohglblkmeaaDoorEntriesPlain
import Derived.Test.YtbneohglblkmeaaDoorChartWords
import Derived.RegionTactic
import Derived.BigRegion
namespace Go.Proofs.YtbneohglblkmeaaDoor
open Go Go.RowKit
set_option linter.unusedVariables false

theorem enAt_new (W : World) (n : Nat) (h : n = W.heap.size) (x b : Int) (t : TypeId) : EnAt (W.alloc (.cells #[.int .i64 x, .int .i64 b] t)) ⟨n, 0, none⟩ 0 ⟨x, b⟩ := by
  subst h
  exact ⟨by simp [Addr.add], by simp [Addr.add]⟩
theorem EnAt.drew {w : World} {ad : Addr} {j : Nat} {a : En} (h : EnAt w ad j a) : EnAt w.drew ad j a := h.keep fun _ _ => rfl
theorem EnAt.alloc {w : World} {ad : Addr} {j : Nat} {a : En} (h : EnAt w ad j a) (o : Obj) : EnAt (w.alloc o) ad j a := h.keep fun p hp => World.cell?_alloc_lt w o p hp
theorem ix3_0 (a b c : Int) (W : World) : (Instr.index 58 (.agg #[.int .i64 a, .int .i64 b, .int .i64 c]) (.int .i64 0)).run Tryd.prog W = .ok (.int .i64 a) W := by kernel_rfl
theorem ix3_1 (a b c : Int) (W : World) : (Instr.index 58 (.agg #[.int .i64 a, .int .i64 b, .int .i64 c]) (.int .i64 1)).run Tryd.prog W = .ok (.int .i64 b) W := by kernel_rfl
theorem ix3_2 (a b c : Int) (W : World) : (Instr.index 58 (.agg #[.int .i64 a, .int .i64 b, .int .i64 c]) (.int .i64 2)).run Tryd.prog W = .ok (.int .i64 c) W := by kernel_rfl
/-- Three sums in memory. -/
def S3.cells (s : S3) : Array Value := #[.int .i64 s.a, .int .i64 s.b, .int .i64 s.c]
theorem S3.cells_set (s : S3) (x : Nat) (hx : x ≤ 2) (v : Int) : s.cells.setIfInBounds x (.int .i64 v) = (s.put (x : Int) v).cells := by
  have h1 : x = 0 ∨ x = 1 ∨ x = 2 := by omega
  rcases h1 with rfl | rfl | rfl <;> rfl
theorem S3.cells_at (s : S3) (x : Nat) (hx : x ≤ 2) : s.cells[x]? = some (.int .i64 (s.get (x : Int))) := by
  have h1 : x = 0 ∨ x = 1 ∨ x = 2 := by omega
  rcases h1 with rfl | rfl | rfl <;> rfl

set_option maxRecDepth 100000 in
set_option maxHeartbeats 8000000 in
theorem entries_any (A P : Option Addr) (n m cap capp : Nat) (zs : List Ac) (ps : List Pr) (w : World) (hl : zs.length = n) (hr : RdA w A zs) (hcu : ∀ (j : Nat) (a : Ac), zs[j]? = some a → 0 ≤ a.cur ∧ a.cur < 3) (hn : 9 ≤ n) (hn2 : n ≤ 1000)
    (hlp : ps.length = m) (hrp : RdP w P ps) (hpf : ∀ (j : Nat) z, ps[j]? = some z → z.fits) (hm : m ≤ 9223372036854775807) :
    Calls Tryd.prog 10 #[.slice A n cap, .slice P m capp] w fun e w' => ∃ v, e = .returned v ∧ OwnE w' w.heap.size v (entriesL zs ps) ∧ Below w.heap.size w w' := by
  have HR := Lib.hid hr
  have HL := Lib.hid hl
  have HRP := Lib.hid hrp
  have HLP := Lib.hid hlp
  have HPF := Lib.hid hpf
  have HCU := Lib.hid hcu
  clear hr hl hrp hlp hpf hcu
  go_enter Tryd.func10, Tryd.ntmps10
  go_wp2
  have h1 := heap_alloc_new w (.cells #[.int .i64 0, .int .i64 0, .int .i64 0] 58)
  have H1 := Lib.hid h1
  have HB := Lib.hid ((Below.refl w.heap.size w).alloc (Nat.le_refl _) (.cells #[.int .i64 0, .int .i64 0, .int .i64 0] 58))
  clear h1
  go_loopw [5, 14] (fun v i wr => ∃ k : Nat, k ≤ m ∧ k ≤ 6 ∧ i = .int .i64 (k : Int) ∧ OwnE wr (w.heap.size + 1) v (firsts n ps k) ∧ wr.heap[w.heap.size]? = some (.cells (sums3 zs (firsts n ps k)).cells 58 (0, 0)) ∧ Below w.heap.size w wr) (fun _ i _ => m - (intOf i).toNat)
  case atStart => exact ⟨0, Nat.zero_le _, Nat.zero_le _, rfl, OwnE.nil, H1.out, HB.out⟩
  case round =>
    obtain ⟨k, hk, hk6, rfl, hown, h1, hbel⟩ := hrel
    have H1 := Lib.hid h1
    have HOWN := Lib.hid hown
    have HBEL := Lib.hid hbel
    have hsz := hbel.size
    have hlt1 : w.heap.size < wr.heap.size := (Array.getElem?_eq_some_iff.1 h1).1
    have hne1 : ¬ w.heap.size = wr.heap.size := by omega
    clear h1 hown hbel
    by_cases hlt : k < m ∧ k < 6
    · obtain ⟨hlt, hk5⟩ := hlt
      obtain ⟨p, hp⟩ : ∃ p, ps[k]? = some p := ⟨_, List.getElem?_eq_getElem (by rw [HLP.out]; exact hlt)⟩
      obtain ⟨ap, rfl, hap⟩ := (HRP.out.below HBEL.out).at_ hp
      obtain ⟨e0, e1⟩ := hap
      rw [add_next ap (k * 2) 1 (by omega)] at e1
      have hpf := HPF.out _ _ hp
      have HNEXT := Lib.hid (firsts_next (n := n) hp)
      clear hp
      obtain ⟨pa, px⟩ := p
      obtain ⟨f0, f1, f2⟩ := hpf
      dsimp only at e0 e1 f0 f1 f2
      obtain ⟨t, ht⟩ : ∃ t : Nat, pa % n = t := ⟨_, rfl⟩
      obtain ⟨y, hy⟩ : ∃ y : Int, px.tmod 50000 = y := ⟨_, rfl⟩
      have htn : t < n := by rw [← ht]; exact Nat.mod_lt _ (by omega)
      have hy1 : -50000 < y := by rw [← hy]; exact Int.lt_tmod_of_pos px (by omega)
      have hy2 : y < 50000 := by rw [← hy]; exact Int.tmod_lt_of_pos px (by omega)
      have ht1 : (pa : Int) % (n : Int) = (t : Int) := by rw [← ht]; rfl
      have ht2 : (pa : Int).tmod (n : Int) = (t : Int) := by rw [Int.tmod_eq_emod_of_nonneg (by omega)]; exact ht1
      have HPE : Hid (prE n ⟨pa, px⟩ = ⟨(t : Int), y⟩) := Lib.hid (by simp only [prE, ht, hy])
      rw [HPE.out] at HNEXT
      have hn0 : ¬ (n : Int) = 0 := by omega
      obtain ⟨⟨c, ab, al⟩, ha⟩ : ∃ a, zs[t]? = some a := ⟨_, List.getElem?_eq_getElem (by rw [HL.out]; exact htn)⟩
      obtain ⟨ad, rfl, hat⟩ := (HR.out.below HBEL.out).at_ ha
      have c0 := hat.c0
      have hc := HCU.out _ _ ha
      have HCO := Lib.hid (curOf_at ha)
      dsimp only at c0 HCO hc
      have hab1 := World.block_lt_of_cell? _ _ c0
      have hab2 : ad.block < wr.heap.size := by rw [add_block] at hab1; exact hab1
      obtain ⟨x, rfl⟩ : ∃ x : Nat, c = (x : Int) := ⟨c.toNat, by omega⟩
      have hx2 : x ≤ 2 := by omega
      clear hat ha hc
      obtain ⟨s, hs⟩ : ∃ s, (sums3 zs (firsts n ps k)).get (x : Int) = s := ⟨_, rfl⟩
      have hsb : -300000 ≤ s ∧ s ≤ 300000 := by
        rw [← hs, sums3_get _ _ _ (by omega)]
        exact esum_six zs _ n ps k hk6
      have d0 : wr.cell? ⟨w.heap.size, x, none⟩ = some (.int .i64 s) := by
        rw [cell_of_row wr w.heap.size x _ _ (0, 0) H1.out, S3.cells_at _ _ hx2, hs]
      have g0 : wr.frozen? ⟨w.heap.size, x, none⟩ = false := frozen_of_row wr w.heap.size x _ _ H1.out
      have HSUM : Hid (sums3 zs (firsts n ps (k + 1)) = (sums3 zs (firsts n ps k)).put (x : Int) (s + y)) := Lib.hid (by
        rw [HNEXT.out, sums3_next _ _ _ (by simp only [HCO.out]; omega)]
        simp only [HCO.out, hs])
      obtain ⟨hs1, hs2⟩ := hsb
      have hw1 : wrap64 (pa : Int) = (pa : Int) := by simp only [wrap64]; omega
      have hw2 : wrap64 px = px := by simp only [wrap64]; omega
      have ht3 : (wrap64 (pa : Int)).tmod (n : Int) = (t : Int) := by rw [hw1]; exact ht2
      have hy3 : (wrap64 px).tmod 50000 = y := by rw [hw2]; exact hy
      clear hs ht hw1 hw2 f0 f1 f2 ht1 ht2 hy
      have hk6' : ((k : Int) == 6) = false := by simp; omega
      obtain ⟨W1, hW1⟩ : ∃ W1, W1 = ((wr.setCell ⟨w.heap.size, x, none⟩ (.int .i64 (s + y))).alloc (.cells #[.int .u8 (pa : Int), .int .i32 px] 56)).alloc (.cells #[.int .i64 (t : Int), .int .i64 y] 33) := ⟨_, rfl⟩
      have hz1 : W1.heap.size = wr.heap.size + 2 := by rw [hW1]; simp
      have ho1 : ∀ v, OwnE wr (w.heap.size + 1) v (firsts n ps k) → OwnE W1 (w.heap.size + 1) v (firsts n ps k) := fun v h => by
        rw [hW1]
        exact ((h.setOther (fun g hg => by have := h.rowLt g hg; dsimp only; omega)).alloc _).alloc _
      have hb1 : Below w.heap.size w W1 := by
        rw [hW1]
        exact ((HBEL.out.setCell (by simp) _).alloc (by simp; omega) _).alloc (by simp; omega) _
      have hh1 : W1.heap[w.heap.size]? = some (.cells (sums3 zs (firsts n ps (k + 1))).cells 58 (0, 0)) := by
        rw [hW1, Below.heap_alloc _ _ _ (by simp; omega), Below.heap_alloc _ _ _ (by simp; omega), heap_setCell_same _ _ _ _ _ _ H1.out, S3.cells_set _ _ hx2, HSUM.out]
      have HO1 := Lib.hid (ho1 _ HOWN.out)
      have HB1 := Lib.hid hb1
      have HH1 := Lib.hid hh1
      have HZ1 := Lib.hid hz1
      rw [hW1] at HO1 HB1 HH1 HZ1
      clear ho1 hb1 hh1 hz1 hW1
      go_wp2
      go_region
      go_wp2
      go_region
      go_wp2_with (first
        | (at_builtin
           refine wpList_append_ent _ rfl (.tmp 44) (.tmp 46) rfl (w.heap.size + 1) _ _ rfl ((HO1.out.alloc (.cells #[.int .i64 (t : Int), .int .i64 y] 33)).drew.drew) ⟨wr.heap.size + 2, 0, none⟩ 1 ⟨(t : Int), y⟩ rfl ((enAt_new _ _ HZ1.out.symm _ _ _).drew.drew) (by have := firsts_len n ps k; omega) (by simp; omega) ?_
           intro v2 w2 ho2 hg2))
      have hb2 : Below w.heap.size w w2 := Below.grown ((HB1.out.alloc HB1.out.size _).drew.drew) hg2 (by simp; omega) (fun j hj => by have := HOWN.out.rowLt j hj; omega)
      have hh2 : w2.heap[w.heap.size]? = some (.cells (sums3 zs (firsts n ps (k + 1))).cells 58 (0, 0)) := by
        rw [hg2.block _ (by simp; omega) (fun h => by have := HOWN.out.rowLt _ h.symm; omega)]
        exact (Below.heap_alloc _ _ _ (by simp; omega)).trans HH1.out
      go_roundw
      case rel => exact ⟨k + 1, by omega, by omega, by go_num, by rw [HNEXT.out]; exact ho2, hh2, hb2⟩
      case measure => simp [intOf]; omega
    · have hF : firsts n ps k = firsts n ps 6 := by
        unfold firsts
        by_cases h : k = 6
        · rw [h]
        · rw [List.take_of_length_le (by rw [HLP.out]; omega), List.take_of_length_le (by rw [HLP.out]; omega)]
      rw [hF] at HOWN H1
      obtain ⟨es6, hes⟩ : ∃ es, firsts n ps 6 = es := ⟨_, rfl⟩
      have HES6 : Hid (es6.length ≤ 6) := Lib.hid (by rw [← hes]; exact firsts_len n ps 6)
      obtain ⟨s0, h0⟩ : ∃ s, esum zs 0 es6 = s := ⟨_, rfl⟩
      obtain ⟨s1, h1⟩ : ∃ s, esum zs 1 es6 = s := ⟨_, rfl⟩
      obtain ⟨s2, h2⟩ : ∃ s, esum zs 2 es6 = s := ⟨_, rfl⟩
      have b0 : -300000 ≤ s0 ∧ s0 ≤ 300000 := by rw [← h0, ← hes]; exact esum_six zs 0 n ps 6 (Nat.le_refl _)
      have b1 : -300000 ≤ s1 ∧ s1 ≤ 300000 := by rw [← h1, ← hes]; exact esum_six zs 1 n ps 6 (Nat.le_refl _)
      have b2 : -300000 ≤ s2 ∧ s2 ≤ 300000 := by rw [← h2, ← hes]; exact esum_six zs 2 n ps 6 (Nat.le_refl _)
      have hs3 : sums3 zs es6 = ⟨s0, s1, s2⟩ := by simp only [sums3, h0, h1, h2]
      have HFIN : Hid (entriesL zs ps = es6 ++ evenTo ⟨s0, s1, s2⟩ 3) := Lib.hid (by rw [entriesL, HL.out, hes, hs3])
      rw [hes, hs3] at H1
      rw [hes] at HOWN
      simp only [S3.cells] at H1
      have hcc : ∀ j (u : Value), (#[.int .i64 s0, .int .i64 s1, .int .i64 s2] : Array Value)[j]? = some u → wr.cell? ⟨w.heap.size, j, none⟩ = some u := fun j u hu => by
        rw [cell_of_row wr w.heap.size j _ _ (0, 0) H1.out]; exact hu
      have g0 := hcc 0 _ rfl
      have g1 := hcc 1 _ rfl
      have g2 := hcc 2 _ rfl
      have hix0 : ∀ W, (Instr.index 58 (.agg #[.int .i64 s0, .int .i64 s1, .int .i64 s2]) (.int .i64 0)).run Tryd.prog W = .ok (.int .i64 s0) W := ix3_0 s0 s1 s2
      have hix1 : ∀ W, (Instr.index 58 (.agg #[.int .i64 s0, .int .i64 s1, .int .i64 s2]) (.int .i64 1)).run Tryd.prog W = .ok (.int .i64 s1) W := ix3_1 s0 s1 s2
      have hix2 : ∀ W, (Instr.index 58 (.agg #[.int .i64 s0, .int .i64 s1, .int .i64 s2]) (.int .i64 2)).run Tryd.prog W = .ok (.int .i64 s2) W := ix3_2 s0 s1 s2
      obtain ⟨b01, b02⟩ := b0
      obtain ⟨b11, b12⟩ := b1
      obtain ⟨b21, b22⟩ := b2
      clear hcc h0 h1 h2 hs3 hes hF
      by_cases hkm : k < m
      · have hk6e : k = 6 := by omega
        have hk6' : ((k : Int) == 6) = true := by simp; omega
        obtain ⟨p, hp⟩ : ∃ p, ps[k]? = some p := ⟨_, List.getElem?_eq_getElem (by rw [HLP.out]; exact hkm)⟩
        obtain ⟨ap, rfl, hap⟩ := (HRP.out.below HBEL.out).at_ hp
        obtain ⟨e0, e1⟩ := hap
        rw [add_next ap (k * 2) 1 (by omega)] at e1
        clear hk6e
        clear hp hlt
        obtain ⟨pa, px⟩ := p
        dsimp only at e0 e1
        go_wp2
        have hown2 := HOWN.out.alloc (.cells #[.int .u8 (pa : Int), .int .i32 px] 56)
        have hbel2 := HBEL.out.alloc hsz (.cells #[.int .u8 (pa : Int), .int .i32 px] 56)
        have HOWN2 := Lib.hid hown2
        have HBEL2 := Lib.hid hbel2
        clear hown2 hbel2
        go_loopw [5, 50] (fun v i wr2 => ∃ q : Nat, q ≤ 3 ∧ i = .int .i64 (q : Int) ∧ OwnE wr2 (w.heap.size + 1) v (es6 ++ evenTo ⟨s0, s1, s2⟩ q) ∧ Below w.heap.size w wr2) (fun _ i _ => 3 - (intOf i).toNat)
        case atStart => exact ⟨0, Nat.zero_le _, rfl, by simpa [evenTo] using HOWN2.out, HBEL2.out⟩
        case round =>
          obtain ⟨q, hq, rfl, hown, hbel⟩ := hrel
          have HOWN3 := Lib.hid hown
          have HBEL3 := Lib.hid hbel
          have hsz := hbel.size
          clear hown hbel HOWN2 HBEL2
          have h4 : q = 0 ∨ q = 1 ∨ q = 2 ∨ q = 3 := by omega
          rcases h4 with rfl | rfl | rfl | rfl
          · have hst : evenTo ⟨s0, s1, s2⟩ (0 + 1) = evenTo ⟨s0, s1, s2⟩ 0 ++ evenE 0 s0 := rfl
            have HST := Lib.hid hst
            clear hst
            by_cases hz : s0 = 0
            · have hz2 : (s0 != 0) = false := by simp [hz]
              have hev : evenE 0 s0 = [] := by unfold evenE; rw [if_pos hz]
              have HEV := Lib.hid hev
              have HZ := Lib.hid hz
              clear hev hz
              go_wp2
              go_roundw
              case rel => exact ⟨0 + 1, by omega, by go_num, by rw [HST.out, HEV.out, List.append_nil]; exact HOWN3.out, HBEL3.out⟩
              case measure => simp [intOf]
            · have hz2 : (s0 != 0) = true := by simp [hz]
              have hev : evenE 0 s0 = [⟨0, -s0⟩] := by unfold evenE; rw [if_neg hz]; rfl
              have HEV := Lib.hid hev
              clear hev
              go_wp2_with (first
                | (at_builtin
                   refine wpList_append_ent _ rfl (.tmp 56) (.tmp 62) rfl (w.heap.size + 1) _ _ rfl (HOWN3.out.alloc _) ⟨wr.heap.size, 0, none⟩ 1 ⟨0, -s0⟩ rfl (enAt_new _ _ rfl _ _ _) (by have := evenTo_len ⟨s0, s1, s2⟩ 0; simp only [List.length_append]; have := HES6.out; omega) (by simp; omega) ?_
                   intro v2 w2 ho2 hg2))
              go_roundw
              case rel => exact ⟨0 + 1, by omega, by go_num, by rw [HST.out, HEV.out, ← List.append_assoc]; exact ho2, Below.grown (HBEL3.out.alloc hsz _) hg2 (by simp; omega) (fun j hj => by have := HOWN3.out.rowLt j hj; omega)⟩
              case measure => simp [intOf]
          · have hst : evenTo ⟨s0, s1, s2⟩ (1 + 1) = evenTo ⟨s0, s1, s2⟩ 1 ++ evenE 1 s1 := rfl
            have HST := Lib.hid hst
            clear hst
            by_cases hz : s1 = 0
            · have hz2 : (s1 != 0) = false := by simp [hz]
              have hev : evenE 1 s1 = [] := by unfold evenE; rw [if_pos hz]
              have HEV := Lib.hid hev
              have HZ := Lib.hid hz
              clear hev hz
              go_wp2
              go_roundw
              case rel => exact ⟨1 + 1, by omega, by go_num, by rw [HST.out, HEV.out, List.append_nil]; exact HOWN3.out, HBEL3.out⟩
              case measure => simp [intOf]
            · have hz2 : (s1 != 0) = true := by simp [hz]
              have hev : evenE 1 s1 = [⟨3, -s1⟩] := by unfold evenE; rw [if_neg hz]; rfl
              have HEV := Lib.hid hev
              clear hev
              go_wp2_with (first
                | (at_builtin
                   refine wpList_append_ent _ rfl (.tmp 56) (.tmp 62) rfl (w.heap.size + 1) _ _ rfl (HOWN3.out.alloc _) ⟨wr.heap.size, 0, none⟩ 1 ⟨3, -s1⟩ rfl (enAt_new _ _ rfl _ _ _) (by have := evenTo_len ⟨s0, s1, s2⟩ 1; simp only [List.length_append]; have := HES6.out; omega) (by simp; omega) ?_
                   intro v2 w2 ho2 hg2))
              go_roundw
              case rel => exact ⟨1 + 1, by omega, by go_num, by rw [HST.out, HEV.out, ← List.append_assoc]; exact ho2, Below.grown (HBEL3.out.alloc hsz _) hg2 (by simp; omega) (fun j hj => by have := HOWN3.out.rowLt j hj; omega)⟩
              case measure => simp [intOf]
          · have hst : evenTo ⟨s0, s1, s2⟩ (2 + 1) = evenTo ⟨s0, s1, s2⟩ 2 ++ evenE 2 s2 := rfl
            have HST := Lib.hid hst
            clear hst
            by_cases hz : s2 = 0
            · have hz2 : (s2 != 0) = false := by simp [hz]
              have hev : evenE 2 s2 = [] := by unfold evenE; rw [if_pos hz]
              have HEV := Lib.hid hev
              have HZ := Lib.hid hz
              clear hev hz
              go_wp2
              go_roundw
              case rel => exact ⟨2 + 1, by omega, by go_num, by rw [HST.out, HEV.out, List.append_nil]; exact HOWN3.out, HBEL3.out⟩
              case measure => simp [intOf]
            · have hz2 : (s2 != 0) = true := by simp [hz]
              have hev : evenE 2 s2 = [⟨6, -s2⟩] := by unfold evenE; rw [if_neg hz]; rfl
              have HEV := Lib.hid hev
              clear hev
              go_wp2_with (first
                | (at_builtin
                   refine wpList_append_ent _ rfl (.tmp 56) (.tmp 62) rfl (w.heap.size + 1) _ _ rfl (HOWN3.out.alloc _) ⟨wr.heap.size, 0, none⟩ 1 ⟨6, -s2⟩ rfl (enAt_new _ _ rfl _ _ _) (by have := evenTo_len ⟨s0, s1, s2⟩ 2; simp only [List.length_append]; have := HES6.out; omega) (by simp; omega) ?_
                   intro v2 w2 ho2 hg2))
              go_roundw
              case rel => exact ⟨2 + 1, by omega, by go_num, by rw [HST.out, HEV.out, ← List.append_assoc]; exact ho2, Below.grown (HBEL3.out.alloc hsz _) hg2 (by simp; omega) (fun j hj => by have := HOWN3.out.rowLt j hj; omega)⟩
              case measure => simp [intOf]
          · clear hix0 hix1 hix2
            go_wp2
            go_ret
            refine ⟨_, rfl, ?_, HBEL3.out⟩
            rw [HFIN.out]
            exact HOWN3.out.less (by omega)
      · obtain rfl : k = m := by omega
        clear hlt
        go_wp2
        have hown2 := HOWN.out
        have hbel2 := HBEL.out
        have HOWN2 := Lib.hid hown2
        have HBEL2 := Lib.hid hbel2
        clear hown2 hbel2
        go_loopw [5, 50] (fun v i wr2 => ∃ q : Nat, q ≤ 3 ∧ i = .int .i64 (q : Int) ∧ OwnE wr2 (w.heap.size + 1) v (es6 ++ evenTo ⟨s0, s1, s2⟩ q) ∧ Below w.heap.size w wr2) (fun _ i _ => 3 - (intOf i).toNat)
        case atStart => exact ⟨0, Nat.zero_le _, rfl, by simpa [evenTo] using HOWN2.out, HBEL2.out⟩
        case round =>
          obtain ⟨q, hq, rfl, hown, hbel⟩ := hrel
          have HOWN3 := Lib.hid hown
          have HBEL3 := Lib.hid hbel
          have hsz := hbel.size
          clear hown hbel HOWN2 HBEL2
          have h4 : q = 0 ∨ q = 1 ∨ q = 2 ∨ q = 3 := by omega
          rcases h4 with rfl | rfl | rfl | rfl
          · have hst : evenTo ⟨s0, s1, s2⟩ (0 + 1) = evenTo ⟨s0, s1, s2⟩ 0 ++ evenE 0 s0 := rfl
            have HST := Lib.hid hst
            clear hst
            by_cases hz : s0 = 0
            · have hz2 : (s0 != 0) = false := by simp [hz]
              have hev : evenE 0 s0 = [] := by unfold evenE; rw [if_pos hz]
              have HEV := Lib.hid hev
              have HZ := Lib.hid hz
              clear hev hz
              go_wp2
              go_roundw
              case rel => exact ⟨0 + 1, by omega, by go_num, by rw [HST.out, HEV.out, List.append_nil]; exact HOWN3.out, HBEL3.out⟩
              case measure => simp [intOf]
            · have hz2 : (s0 != 0) = true := by simp [hz]
              have hev : evenE 0 s0 = [⟨0, -s0⟩] := by unfold evenE; rw [if_neg hz]; rfl
              have HEV := Lib.hid hev
              clear hev
              go_wp2_with (first
                | (at_builtin
                   refine wpList_append_ent _ rfl (.tmp 56) (.tmp 62) rfl (w.heap.size + 1) _ _ rfl (HOWN3.out.alloc _) ⟨wr.heap.size, 0, none⟩ 1 ⟨0, -s0⟩ rfl (enAt_new _ _ rfl _ _ _) (by have := evenTo_len ⟨s0, s1, s2⟩ 0; simp only [List.length_append]; have := HES6.out; omega) (by simp; omega) ?_
                   intro v2 w2 ho2 hg2))
              go_roundw
              case rel => exact ⟨0 + 1, by omega, by go_num, by rw [HST.out, HEV.out, ← List.append_assoc]; exact ho2, Below.grown (HBEL3.out.alloc hsz _) hg2 (by simp; omega) (fun j hj => by have := HOWN3.out.rowLt j hj; omega)⟩
              case measure => simp [intOf]
          · have hst : evenTo ⟨s0, s1, s2⟩ (1 + 1) = evenTo ⟨s0, s1, s2⟩ 1 ++ evenE 1 s1 := rfl
            have HST := Lib.hid hst
            clear hst
            by_cases hz : s1 = 0
            · have hz2 : (s1 != 0) = false := by simp [hz]
              have hev : evenE 1 s1 = [] := by unfold evenE; rw [if_pos hz]
              have HEV := Lib.hid hev
              have HZ := Lib.hid hz
              clear hev hz
              go_wp2
              go_roundw
              case rel => exact ⟨1 + 1, by omega, by go_num, by rw [HST.out, HEV.out, List.append_nil]; exact HOWN3.out, HBEL3.out⟩
              case measure => simp [intOf]
            · have hz2 : (s1 != 0) = true := by simp [hz]
              have hev : evenE 1 s1 = [⟨3, -s1⟩] := by unfold evenE; rw [if_neg hz]; rfl
              have HEV := Lib.hid hev
              clear hev
              go_wp2_with (first
                | (at_builtin
                   refine wpList_append_ent _ rfl (.tmp 56) (.tmp 62) rfl (w.heap.size + 1) _ _ rfl (HOWN3.out.alloc _) ⟨wr.heap.size, 0, none⟩ 1 ⟨3, -s1⟩ rfl (enAt_new _ _ rfl _ _ _) (by have := evenTo_len ⟨s0, s1, s2⟩ 1; simp only [List.length_append]; have := HES6.out; omega) (by simp; omega) ?_
                   intro v2 w2 ho2 hg2))
              go_roundw
              case rel => exact ⟨1 + 1, by omega, by go_num, by rw [HST.out, HEV.out, ← List.append_assoc]; exact ho2, Below.grown (HBEL3.out.alloc hsz _) hg2 (by simp; omega) (fun j hj => by have := HOWN3.out.rowLt j hj; omega)⟩
              case measure => simp [intOf]
          · have hst : evenTo ⟨s0, s1, s2⟩ (2 + 1) = evenTo ⟨s0, s1, s2⟩ 2 ++ evenE 2 s2 := rfl
            have HST := Lib.hid hst
            clear hst
            by_cases hz : s2 = 0
            · have hz2 : (s2 != 0) = false := by simp [hz]
              have hev : evenE 2 s2 = [] := by unfold evenE; rw [if_pos hz]
              have HEV := Lib.hid hev
              have HZ := Lib.hid hz
              clear hev hz
              go_wp2
              go_roundw
              case rel => exact ⟨2 + 1, by omega, by go_num, by rw [HST.out, HEV.out, List.append_nil]; exact HOWN3.out, HBEL3.out⟩
              case measure => simp [intOf]
            · have hz2 : (s2 != 0) = true := by simp [hz]
              have hev : evenE 2 s2 = [⟨6, -s2⟩] := by unfold evenE; rw [if_neg hz]; rfl
              have HEV := Lib.hid hev
              clear hev
              go_wp2_with (first
                | (at_builtin
                   refine wpList_append_ent _ rfl (.tmp 56) (.tmp 62) rfl (w.heap.size + 1) _ _ rfl (HOWN3.out.alloc _) ⟨wr.heap.size, 0, none⟩ 1 ⟨6, -s2⟩ rfl (enAt_new _ _ rfl _ _ _) (by have := evenTo_len ⟨s0, s1, s2⟩ 2; simp only [List.length_append]; have := HES6.out; omega) (by simp; omega) ?_
                   intro v2 w2 ho2 hg2))
              go_roundw
              case rel => exact ⟨2 + 1, by omega, by go_num, by rw [HST.out, HEV.out, ← List.append_assoc]; exact ho2, Below.grown (HBEL3.out.alloc hsz _) hg2 (by simp; omega) (fun j hj => by have := HOWN3.out.rowLt j hj; omega)⟩
              case measure => simp [intOf]
          · clear hix0 hix1 hix2
            go_wp2
            go_ret
            refine ⟨_, rfl, ?_, HBEL3.out⟩
            rw [HFIN.out]
            exact HOWN3.out.less (by omega)
end Go.Proofs.YtbneohglblkmeaaDoor
