/-
  The statement KeysScript by its walk.
-/
import Derived.Test.YtmokdmojhfhopaaDoorKeyScript
import Derived.Test.YtmokdmojhfhopaaDoorShapeMore
import Derived.Deep.CutRange
import Derived.Deep.RegionHeld
namespace Go.Proofs.YtmokdmojhfhopaaDoor
open Go Go.RowKit
set_option linter.unusedVariables false

set_option maxRecDepth 100000 in
set_option maxHeartbeats 8000000 in
theorem keysScript_walk (w : World) (A : Option Addr) (n cap : Nat) (hi : IsRecs kact KAct.fits w A n cap) (hh : HasErr w) :
    Calls Tryd.prog 3 #[.slice A n cap] w fun e w' => e = .returned (.bool true) ∧ Below w.heap.size w w' := by
  obtain ⟨acts, hl, hr, hfit, hnc, hcm, _⟩ := recs_list hi
  have hn : n ≤ 9223372036854775807 := by unfold maxLen at hcm; omega
  have HR := Lib.hid hr
  have HL := Lib.hid hl
  have HFIT := Lib.hid hfit
  have HH := Lib.hid hh
  clear hr hl hi hcm hnc hfit hh
  go_enter Tryd.func3, Tryd.ntmps3
  go_wp2_with fail
  refine (kawake_ok _).mono ?_
  rintro _ w1 ⟨rfl, hb1⟩
  have HR1 := Lib.hid (HR.out.below hb1)
  have HH1 := Lib.hid (HH.out.below hb1)
  have HB1 := Lib.hid hb1
  clear hb1 HR HH
  go_wp2
  go_loopw [3, 4, 21] (fun v3 v4 i wr => ∃ (k : Nat) (zs : List Kn), k ≤ n ∧ i = .int .i64 (k : Int) ∧ zs.length = cnt zs ∧ OwnS known wr w1.heap.size v3 zs ∧ OwnS known wr w1.heap.size v4 zs ∧ (∀ g, v3.ownBlock = some g → v4.ownBlock ≠ some g) ∧ Below w1.heap.size w1 wr) (fun _ _ i _ => n - (intOf i).toNat)
  case atStart => exact ⟨0, [], Nat.zero_le _, rfl, by decide, OwnS.nil, OwnS.nil, (fun g h => by cases h), Below.refl _ _⟩
  case round =>
    obtain ⟨k, zs, hk, rfl, hcnt, ho3, ho4, hne, hbel⟩ := hrel
    obtain ⟨w2, hw2⟩ : ∃ w2, w2 = wr := ⟨_, rfl⟩
    subst hw2
    obtain ⟨A3, c3, rfl, _, _, _, hnil3⟩ := ho3.form
    obtain ⟨A4, c4, rfl, _, _, _, hnil4⟩ := ho4.form
    have hc8 : zs.length ≤ 8 := by rw [hcnt]; exact cnt_le zs
    obtain ⟨m, hm⟩ : ∃ m, zs.length = m := ⟨_, rfl⟩
    rw [hm] at ho3 ho4 hne hnil3 hnil4 hc8 ⊢
    have HM := Lib.hid hm
    have HCNT := Lib.hid hcnt
    have HN3 := Lib.hid hnil3
    have HO3 := Lib.hid ho3
    have HO4 := Lib.hid ho4
    have HNE := Lib.hid hne
    have HBEL := Lib.hid hbel
    have hsz := hbel.size
    clear ho3 ho4 hne hbel hm hcnt hnil3 hnil4
    by_cases hlt : k < n
    · obtain ⟨act, hact⟩ : ∃ act, acts[k]? = some act := ⟨_, List.getElem?_eq_getElem (by rw [HL.out]; exact hlt)⟩
      obtain ⟨ad, rfl, hat⟩ := (HR1.out.below HBEL.out).at_ hact
      obtain ⟨c0, c1, c2, c3', c4', c5, c6, c7, c8⟩ := ka_cells hat
      obtain ⟨hzf, hid1, hid2⟩ := HFIT.out _ _ hact
      clear hat hact
      obtain ⟨tell, z, id⟩ := act
      dsimp only at c0 c1 c2 c3' c4' c5 c6 c7 c8 hzf hid1 hid2
      have HA := Lib.hid (fun W => ask_any z hzf W)
      obtain ⟨q, hq⟩ : ∃ q, q = z.req := ⟨_, rfl⟩
      have hqk : q.key = (z.key : Int) := by rw [hq]; rfl
      rw [← hq] at HA
      clear hq hzf
      obtain ⟨zk, zo, za, zb, zm, zl, zt⟩ := z
      obtain ⟨qk, qo, qa, qb, qm, ql, qt⟩ := q
      dsimp only at hqk c1 c2 c3' c4' c5 c6 c7
      subst hqk
      unfold AskRes Rq.val Ak.val at HA
      dsimp only at HA
      obtain ⟨kn, hkn⟩ : ∃ kn : Nat, zk % 8 = kn := ⟨_, rfl⟩
      have hk1 : (zk : Int) % 8 = (kn : Int) := by omega
      have hk2 : (zk : Int).tmod 8 = (kn : Int) := by rw [Int.tmod_eq_emod_of_nonneg (by omega)]; exact hk1
      have hk3 : kn < 8 := by omega
      have hcv : IntKind.i64.wrap id = id := by rw [IntKind.wrap_i64]; omega
      clear hkn
      have hA2 : KA2 (w2.alloc (.cells #[.bool tell, .int .u8 (zk : Int), .int .u8 (zo : Int), .int .u8 (za : Int), .int .u8 (zb : Int), .int .u16 (zm : Int), .int .u8 (zl : Int), .int .u8 (zt : Int), .int .i8 id] 30)) w2.heap.size tell id :=
        ⟨cell_of_row _ _ 0 _ _ _ (heap_alloc_new w2 _), cell_of_row _ _ 8 _ _ _ (heap_alloc_new w2 _), by simp⟩
      have HA2 := Lib.hid hA2
      clear hA2
      go_wp2_with fail
      refine (HA.out _).mono ?_
      rintro _ w3 ⟨rfl, hb3⟩
      have hs3 : w2.heap.size < w3.heap.size := by have := hb3.size; simp at this; omega
      have HK0 : Hid (KS w1 (w3.alloc (.cells #[.int .i64 (kn : Int), .int .i64 qo, .int .i64 qa, .int .i64 qb, .int .i64 qm, .int .i64 ql, .int .i64 qt] 33)) (.slice A3 m c3) (.slice A4 m c4) zs w2.heap.size tell id w3.heap.size ⟨(kn : Int), qo, qa, qb, qm, ql, qt⟩) := Lib.hid ⟨((HO3.out.alloc _).below hb3).alloc _, ((HO4.out.alloc _).below hb3).alloc _, HNE.out, (HA2.out.below hb3).below ((Below.refl _ _).alloc (Nat.le_refl _) _), Rq7.new w3 _ _ _ _ _ _ _ _, by simp, ((HBEL.out.alloc hsz _).trans (hb3.mono (by simp; omega))).alloc (by omega) _⟩
      clear hb3 HA HA2 HO3 HO4 HNE HBEL c0 c1 c2 c3' c4' c5 c6 c7 c8
      go_wp2
      go_loopw [8, 34] (fun a i wx => ∃ j : Nat, j ≤ m ∧ i = .int .i64 (j : Int) ∧ a = .int .i64 (fi (findN (zs.take j) (kn : Int))) ∧ KS w1 wx (.slice A3 m c3) (.slice A4 m c4) zs w2.heap.size tell id w3.heap.size ⟨(kn : Int), qo, qa, qb, qm, ql, qt⟩) (fun _ i _ => m - (intOf i).toNat)
      case atStart => exact ⟨0, Nat.zero_le _, rfl, rfl, HK0.out⟩
      case round =>
        clear HK0
        obtain ⟨j, hj, rfl, rfl, hks⟩ := hrel
        obtain ⟨w4, hw4⟩ : ∃ w4, w4 = wr := ⟨_, rfl⟩
        subst hw4
        have HKS := Lib.hid hks
        obtain ⟨z0, z1, z2, z3, z4, z5, z6⟩ := hks.r7.cells
        have hlr := hks.lr
        have hla := hks.a2.2.2
        clear hks
        by_cases hjm : j < m
        · obtain ⟨a, ha⟩ : ∃ a, zs[j]? = some a := ⟨_, List.getElem?_eq_getElem (by rw [HM.out]; exact hjm)⟩
          obtain ⟨ad4, rfl, hat⟩ := HKS.out.o4.rd.at_ ha
          obtain ⟨c0, _, _, _, _, _, _, _, _, _⟩ := kn_cells hat
          have hnx : findN (zs.take (j + 1)) (kn : Int) = match findN (zs.take j) (kn : Int) with | some i => some i | none => if a.rq.key = (kn : Int) then some j else none := by
            rw [take_next ha, find_snoc, List.length_take, HM.out, Nat.min_eq_left hj]
            cases findN (zs.take j) (kn : Int) <;> rfl
          have HNX := Lib.hid hnx
          clear hat ha hnx
          obtain ⟨⟨key', op', ra', rb', amt', legs', til'⟩, er', id', told'⟩ := a
          dsimp only at c0 HNX
          obtain ⟨p, hp⟩ : ∃ p, findN (zs.take j) (kn : Int) = p := ⟨_, rfl⟩
          rw [hp] at HNX ⊢
          clear hp z1 z2 z3 z4 z5 z6
          cases p with
          | some i =>
            rw [show fi (some i) = (i : Int) from rfl]
            have g0 : decide ((i : Int) < 0) = false := decide_eq_false (by omega)
            go_wp2
            go_quiet (fail)
            go_wp2
            go_roundw
            case rel => exact ⟨j + 1, by omega, by go_num, by rw [HNX.out]; rfl, HKS.out.drewN _⟩
            case measure => simp [intOf]; omega
          | none =>
            rw [show fi none = -1 from rfl]
            by_cases h0 : key' = (kn : Int)
            · have b0 := eqT h0
              have hnx : findN (zs.take (j + 1)) (kn : Int) = some j := HNX.out.trans (if_pos h0)
              have HNX2 := Lib.hid hnx
              clear h0 hnx
              go_wp2
              go_quiet (fail)
              go_wp2
              go_roundw
              case rel => exact ⟨j + 1, by omega, by go_num, by rw [HNX2.out]; rfl, HKS.out.drewN _⟩
              case measure => simp [intOf]; omega
            · have b0 := eqF h0
              have hnx : findN (zs.take (j + 1)) (kn : Int) = none := HNX.out.trans (if_neg h0)
              have HNX2 := Lib.hid hnx
              clear h0 hnx
              go_wp2
              go_quiet (fail)
              go_wp2
              go_roundw
              case rel => exact ⟨j + 1, by omega, by go_num, by rw [HNX2.out]; rfl, HKS.out.drewN _⟩
              case measure => simp [intOf]; omega
        · obtain rfl : j = m := by omega
          rw [List.take_of_length_le (by rw [HM.out]; exact Nat.le_refl _)]
          have HW0 := Lib.hid (Rq2.new w4 37 0 0)
          have HAS := Lib.hid (fun W B c (h : RdS known W B zs) => kask_any B j c zs ⟨(kn : Int), qo, qa, qb, qm, ql, qt⟩ W HM.out h (by omega))
          have HFI := Lib.hid (fun W B c (h : RdS known W B zs) => find_any B j c zs (kn : Int) W HM.out h (by omega))
          have HTL := Lib.hid (fun W B c (h : RdS known W B zs) (hnil : B = none → j = 0 ∧ c = 0) => ktell_any B j c zs (kn : Int) 0 id W HM.out h (by omega) hnil)
          have HPU := Lib.hid (fun W B c (h : RdS known W B zs) (hnil : B = none → j = 0 ∧ c = 0) => kput_any B j c zs ⟨(kn : Int), qo, qa, qb, qm, ql, qt⟩ W HM.out h (by omega) hnil)
          unfold Rq.val at HAS HPU
          dsimp only at HAS HPU
          obtain ⟨p, hp⟩ : ∃ p, findN zs (kn : Int) = p := ⟨_, rfl⟩
          rw [hp] at HFI ⊢
          have HP := Lib.hid hp
          clear z0 z1 z2 z3 z4 z5 z6 hjm hj
          cases p with
          | none =>
            rw [show fi none = -1 from rfl] at HFI ⊢
            have HAS2 : Hid (∀ W B c, RdS known W B zs → Calls Tryd.prog 9 #[.slice B j c, .agg #[.int .i64 (kn : Int), .int .i64 qo, .int .i64 qa, .int .i64 qb, .int .i64 qm, .int .i64 ql, .int .i64 qt]] W (AskTold W (0, 0, false))) := Lib.hid (fun W B c h => by
              have h1 := HAS.out W B c h
              rw [askR_none HP.out] at h1
              exact h1)
            clear HAS
            have hla := HKS.out.a2.2.2
            have hlr := HKS.out.lr
            go_wp2
            go_quiet (fail)
            obtain ⟨wd, hwd⟩ : ∃ wd, wd = (w4.alloc (.cells #[.int .i64 0, .int .i64 0] 37)).drewN nq := ⟨_, rfl⟩
            have HK1 : Hid (KS w1 wd (.slice A3 j c3) (.slice A4 j c4) zs w2.heap.size tell id w3.heap.size ⟨(kn : Int), qo, qa, qb, qm, ql, qt⟩) := Lib.hid (by rw [hwd]; exact (HKS.out.alloc _).drewN _)
            have HW1 : Hid (Rq2 wd w4.heap.size 37 0 0) := Lib.hid (by rw [hwd]; exact HW0.out.drewN _)
            have hw1 : w4.heap.size < wd.heap.size := by rw [hwd]; simp [World.drewN]
            rw [← hwd]
            clear hwd HKS HW0
            clear hlr hla
            obtain ⟨z0, z1, z2, z3, z4, z5, z6⟩ := HK1.out.r7.cells
            have hlr := HK1.out.lr
            go_wp2_with fail
            refine (HAS2.out _ _ _ HK1.out.o3.rd).mono ?_
            rintro _ w5 ⟨rfl, hb5⟩
            dsimp only
            have HK5 := Lib.hid (HK1.out.below hb5)
            have HW5 := Lib.hid (HW1.out.below hb5 hw1)
            have hw5 : w4.heap.size < w5.heap.size := Nat.lt_of_lt_of_le hw1 hb5.size
            clear hb5 z0 z1 z2 z3 z4 z5 z6 hlr
            obtain ⟨z0, z1, z2, z3, z4, z5, z6⟩ := HK5.out.r7.cells
            have hlr := HK5.out.lr
            obtain ⟨y0, y1⟩ := HW5.out.cells
            go_wp2_with fail
            refine (HFI.out _ _ _ (HK5.out.alloc _).o3.rd).mono ?_
            rintro _ w6 ⟨rfl, hb6⟩
            have HK6 := Lib.hid ((HK5.out.alloc _).below hb6)
            clear hb6 z0 z1 z2 z3 z4 z5 z6 hlr y0 y1 HK5 HW5 HAS2 HFI
            obtain ⟨z0, z1, z2, z3, z4, z5, z6⟩ := HK6.out.r7.cells
            have hlr := HK6.out.lr
            obtain ⟨f0, f8, hla⟩ := HK6.out.a2
            cases tell
            case false =>
              obtain ⟨e1, e2⟩ := putE_ok (ks := zs) (r := ⟨(kn : Int), qo, qa, qb, qm, ql, qt⟩) HP.out (by rw [HM.out]; omega)
              have hres := HPU.out w6 A3 c3 HK6.out.o3.rd HN3.out
              rw [e1, e2] at hres
              have HRES := Lib.hid hres
              clear hres e1 e2
              have hbl : ∀ g, (Value.slice A4 j c4).ownBlock = some g → g < w6.heap.size := fun g h => (World.ownsRow.lt HK6.out.o4 g h).2
              have HBL := Lib.hid hbl
              clear hbl
              go_wp2_with fail
              refine HRES.out.mono ?_
              rintro _ w7 ⟨v7, rfl, ho7, hb7⟩
              rw [show errV 0 = .nilIface from rfl]
              obtain ⟨g7, cap7, rfl, hg7, hg7', _, _⟩ := ho7.open_ (by simp)
              have HJ1 : Hid ((zs ++ [(⟨⟨(kn : Int), qo, qa, qb, qm, ql, qt⟩, 0, 0, false⟩ : Kn)]).length = j + 1) := Lib.hid (by rw [List.length_append, HM.out]; rfl)
              rw [HJ1.out] at ho7 ⊢
              have HK7 := Lib.hid (HK6.out.below hb7)
              have HO7 := Lib.hid (ho7.less HK6.out.b.size)
              clear ho7 hb7 HRES z0 z1 z2 z3 z4 z5 z6 f0 f8 hla hlr
              obtain ⟨z0, z1, z2, z3, z4, z5, z6⟩ := HK7.out.r7.cells
              have hlr := HK7.out.lr
              go_wp2_with (at_builtin; refine wpList_append_recs known 24 Tryd.underlying24 info_known rfl _ rfl (.tmp 146) (.tmp 149) rfl w1.heap.size (.slice A4 j c4) zs [⟨⟨(kn : Int), qo, qa, qb, qm, ql, qt⟩, 0, 0, false⟩] rfl (HK7.out.o4.alloc _) ⟨w7.heap.size, 0, none⟩ 1 1 rfl rfl (by omega) (RdS.new1 rfl) (by rw [HM.out]; omega) (by rw [HM.out]; omega) (by have := HK7.out.b.size; simp; omega) (w7.heap.size + 1) (by simp) ?_; intro g8 cap8 w8 ho8 hg8 hat8 hlt8; rw [show zs.length + 1 = j + 1 by rw [HM.out]] at ho8 ⊢; have HO8 := Lib.hid ho8; have HG8 := Lib.hid hg8; have HAT8 := Lib.hid hat8; clear ho8 hg8 hat8)
              have hat8 := HAT8.out
              have hg8 := HG8.out
              have hne8 : g7 ≠ g8 := by
                rcases hat8 with h | h
                · have := HBL.out _ h
                  omega
                · omega
              have HO78 := Lib.hid ((HO7.out.alloc (.cells #[.int .i64 (kn : Int), .int .i64 qo, .int .i64 qa, .int .i64 qb, .int .i64 qm, .int .i64 ql, .int .i64 qt, .int .i64 0, .int .i64 0, .bool false] 39)).same (w' := w8) (fun g h => by
                have h : g7 = g := by simpa [Value.ownBlock] using h
                subst h
                exact hg8.block _ (by simp; omega) (fun h => by have := HBL.out _ h.symm; omega)))
              have HB8 := Lib.hid (((HK7.out.b.alloc HK7.out.b.size (.cells #[.int .i64 (kn : Int), .int .i64 qo, .int .i64 qa, .int .i64 qb, .int .i64 qm, .int .i64 ql, .int .i64 qt, .int .i64 0, .int .i64 0, .bool false] 39))).grown hg8 (by have := HK7.out.b.size; simp; omega) HK7.out.o4.rowLt)
              clear hg8 hat8 HG8 HAT8 z0 z1 z2 z3 z4 z5 z6 hlr
              refine (number_nil _).mono ?_
              rintro _ w9 ⟨rfl, hb9⟩
              have HO79 := Lib.hid (HO78.out.below hb9)
              have HO9 := Lib.hid (HO8.out.below hb9)
              have HB9 := Lib.hid (HB8.out.trans (hb9.mono HB8.out.size))
              clear hb9
              go_wp2_with fail
              refine (ksame_yes _ _ (j + 1) cap7 cap8 (zs ++ [⟨⟨(kn : Int), qo, qa, qb, qm, ql, qt⟩, 0, 0, false⟩]) _ HJ1.out HO79.out.rd HO9.out.rd (by omega)).mono ?_
              rintro _ w10 ⟨rfl, hb10⟩
              have HO7E := Lib.hid (HO79.out.below hb10)
              have HO8E := Lib.hid (HO9.out.below hb10)
              have HBE := Lib.hid (HB9.out.trans (hb10.mono HB9.out.size))
              clear hb10
              go_wp2
              go_roundw
              case rel => exact ⟨k + 1, zs ++ [⟨⟨(kn : Int), qo, qa, qb, qm, ql, qt⟩, 0, 0, false⟩], by omega, by go_num, by rw [cnt_snoc hk3 rfl HP.out, ← HCNT.out]; simp, HO7E.out, HO8E.out, fun g h h' => hne8 (by simp [Value.ownBlock] at h h'; omega), HBE.out⟩
              case measure => simp [intOf]; omega
            case true =>
              have hres := HTL.out w6 A3 c3 HK6.out.o3.rd HN3.out
              rw [(tell_none 0 id HP.out).1, (tell_none 0 id HP.out).2] at hres
              have HRES := Lib.hid hres
              clear hres
              go_wp2_with fail
              refine HRES.out.mono ?_
              rintro _ w7 ⟨v7, rfl, ho7, hb7⟩
              rw [show errV 2 = eno 2 from rfl]
              obtain ⟨A7, c7, rfl, _, _, _, _⟩ := ho7.form
              rw [show ([] : List Kn).length = 0 from rfl]
              have HK7 := Lib.hid (HK6.out.below hb7)
              clear ho7 hb7 HRES
              go_wp2_with fail
              refine (number_err 2 _ (HH1.out.below HK7.out.b)).mono ?_
              rintro _ w8 ⟨rfl, hb8⟩
              have HK8 := Lib.hid (HK7.out.below hb8)
              clear hb8
              go_wp2_with fail
              refine (ksame_yes A3 A4 j c3 c4 zs _ HM.out HK8.out.o3.rd HK8.out.o4.rd (by omega)).mono ?_
              rintro _ w9 ⟨rfl, hb9⟩
              have HK9 := Lib.hid (HK8.out.below hb9)
              clear hb9
              go_wp2
              go_roundw
              case rel => exact ⟨k + 1, zs, by omega, by go_num, HCNT.out, HK9.out.o3, HK9.out.o4, HK9.out.ne, HK9.out.b⟩
              case measure => simp [intOf]; omega
          | some i =>
            rw [show fi (some i) = (i : Int) from rfl] at HFI ⊢
            obtain ⟨a, ha, hak⟩ := find_get HP.out
            have hij : i < j := by rw [← HM.out]; exact find_lt HP.out
            have HRS := Lib.hid (askR_some (r := ⟨(kn : Int), qo, qa, qb, qm, ql, qt⟩) HP.out ha)
            have HTB := Lib.hid (fun (h : a.told = true) => tell_told 0 id HP.out ha h)
            have HTO := Lib.hid (fun (h : a.told = false) => tell_ok 0 id HP.out ha h)
            have HAT := Lib.hid ha
            obtain ⟨ad4, rfl, hat⟩ := HKS.out.o4.rd.at_ ha
            obtain ⟨c0, c1, c2, c3', c4', c5, c6, c7, c8, c9⟩ := kn_cells hat
            have hne := World.new_ne w4 _ c0
            have hbl1 : (ad4.add (i * 10)).block < w4.heap.size := World.block_lt_of_cell? w4 _ c0
            have hbl2 : ad4.block < w4.heap.size := by rw [← add_block ad4 (i * 10)]; exact hbl1
            clear hat ha
            obtain ⟨⟨key', op', ra', rb', amt', legs', til'⟩, er, ix, told⟩ := a
            dsimp only at c0 c1 c2 c3' c4' c5 c6 c7 c8 c9 hak HRS HTB HTO
            subst hak
            have hla := HKS.out.a2.2.2
            have hlr := HKS.out.lr
            have g1 : decide ((0 : Int) ≤ (i : Int)) = true := decide_eq_true (by omega)
            go_upto_region 17 with fail
            go_cut [21, 64] from 21 to 171 (fun i21 cx wx => i21 = .int .i64 (k : Int) ∧ cx = .bool (decide (¬ Rq.mk (kn : Int) op' ra' rb' amt' legs' til' = ⟨(kn : Int), qo, qa, qb, qm, ql, qt⟩)) ∧ Below w4.heap.size w4 wx ∧ Rq2 wx w4.heap.size 37 0 0 ∧ w4.heap.size < wx.heap.size)
            case first =>
              obtain ⟨z0, z1, z2, z3, z4, z5, z6⟩ := HKS.out.r7.cells
              have hlr := HKS.out.lr
              have b0 := eqT (rfl : (kn : Int) = (kn : Int))
              rcases rq_parts (kn : Int) op' ra' rb' amt' legs' til' (kn : Int) qo qa qb qm ql qt with ⟨h0, h1, h2, h3, h4, h5, h6⟩ | h0 | ⟨h0, h1⟩ | ⟨h0, h1, h2⟩ | ⟨h0, h1, h2, h3⟩ | ⟨h0, h1, h2, h3, h4⟩ | ⟨h0, h1, h2, h3, h4, h5⟩ | ⟨h0, h1, h2, h3, h4, h5, h6⟩
              case' inl =>
                have b1 := eqT h1
                have b2 := eqT h2
                have b3 := eqT h3
                have b4 := eqT h4
                have b5 := eqT h5
                have b6 := eqT h6
                have HD := Lib.hid (show decide (¬ Rq.mk (kn : Int) op' ra' rb' amt' legs' til' = ⟨(kn : Int), qo, qa, qb, qm, ql, qt⟩) = false from decide_eq_false (fun h => h (by rw [h1, h2, h3, h4, h5, h6])))
                clear h1 h2 h3 h4 h5 h6 h0
              case inr.inl => exact absurd rfl h0
              case' inr.inr.inl =>
                have b1 := eqF h1
                have HD := Lib.hid (show decide (¬ Rq.mk (kn : Int) op' ra' rb' amt' legs' til' = ⟨(kn : Int), qo, qa, qb, qm, ql, qt⟩) = true from decide_eq_true (fun h => h1 (congrArg Rq.op h)))
                clear h0 h1
              case' inr.inr.inr.inl =>
                have b1 := eqT h1
                have b2 := eqF h2
                have HD := Lib.hid (show decide (¬ Rq.mk (kn : Int) op' ra' rb' amt' legs' til' = ⟨(kn : Int), qo, qa, qb, qm, ql, qt⟩) = true from decide_eq_true (fun h => h2 (congrArg Rq.a h)))
                clear h0 h1 h2
              case' inr.inr.inr.inr.inl =>
                have b1 := eqT h1
                have b2 := eqT h2
                have b3 := eqF h3
                have HD := Lib.hid (show decide (¬ Rq.mk (kn : Int) op' ra' rb' amt' legs' til' = ⟨(kn : Int), qo, qa, qb, qm, ql, qt⟩) = true from decide_eq_true (fun h => h3 (congrArg Rq.b h)))
                clear h0 h1 h2 h3
              case' inr.inr.inr.inr.inr.inl =>
                have b1 := eqT h1
                have b2 := eqT h2
                have b3 := eqT h3
                have b4 := eqF h4
                have HD := Lib.hid (show decide (¬ Rq.mk (kn : Int) op' ra' rb' amt' legs' til' = ⟨(kn : Int), qo, qa, qb, qm, ql, qt⟩) = true from decide_eq_true (fun h => h4 (congrArg Rq.amt h)))
                clear h0 h1 h2 h3 h4
              case' inr.inr.inr.inr.inr.inr.inl =>
                have b1 := eqT h1
                have b2 := eqT h2
                have b3 := eqT h3
                have b4 := eqT h4
                have b5 := eqF h5
                have HD := Lib.hid (show decide (¬ Rq.mk (kn : Int) op' ra' rb' amt' legs' til' = ⟨(kn : Int), qo, qa, qb, qm, ql, qt⟩) = true from decide_eq_true (fun h => h5 (congrArg Rq.legs h)))
                clear h0 h1 h2 h3 h4 h5
              case' inr.inr.inr.inr.inr.inr.inr =>
                have b1 := eqT h1
                have b2 := eqT h2
                have b3 := eqT h3
                have b4 := eqT h4
                have b5 := eqT h5
                have b6 := eqF h6
                have HD := Lib.hid (show decide (¬ Rq.mk (kn : Int) op' ra' rb' amt' legs' til' = ⟨(kn : Int), qo, qa, qb, qm, ql, qt⟩) = true from decide_eq_true (fun h => h6 (congrArg Rq.til h)))
                clear h0 h1 h2 h3 h4 h5 h6
              all_goals
                go_quiet (fail)
                go_wp2
                go_meet
                exact ⟨rfl, congrArg Value.bool HD.out.symm, below_drewN ((Below.refl _ _).alloc (Nat.le_refl _) _) _, HW0.out.drewN _, by simp [World.drewN]⟩
            case rest =>
              obtain ⟨rfl, rfl, hbw, hrw, hltw⟩ := hcut
              have HBW := Lib.hid hbw
              have HRW := Lib.hid hrw
              clear hbw hrw HW0 hne hla hlr hbl1 hbl2 c0 c1 c2 c3' c4' c5 c6
              obtain ⟨R1, R2, hR⟩ : ∃ R1 R2, askR zs ⟨(kn : Int), qo, qa, qb, qm, ql, qt⟩ = (R1, R2, true) := by
                rw [HRS.out]
                split
                · split
                  · exact ⟨_, _, rfl⟩
                  · exact ⟨_, _, rfl⟩
                · exact ⟨_, _, rfl⟩
              have HRR := Lib.hid (HRS.out.symm.trans hR)
              have HAS2 : Hid (∀ W B c, RdS known W B zs → Calls Tryd.prog 9 #[.slice B j c, .agg #[.int .i64 (kn : Int), .int .i64 qo, .int .i64 qa, .int .i64 qb, .int .i64 qm, .int .i64 ql, .int .i64 qt]] W (AskTold W (R1, R2, true))) := Lib.hid (fun W B c h => by
                have h1 := HAS.out W B c h
                rw [hR] at h1
                exact h1)
              clear HAS
              clear hR HRS
              go_upto_if 64 with fail
              go_cut [21] from 21 to 171 (fun i21 wx => i21 = .int .i64 (k : Int) ∧ Below w4.heap.size w4 wx ∧ Rq2 wx w4.heap.size 37 R1 R2 ∧ w4.heap.size < wx.heap.size)
              case first =>
                obtain ⟨y0, y1⟩ := HRW.out.cells
                obtain ⟨f0, f1⟩ := HRW.out.loose
                have d7 := (HBW.out.cell (World.block_lt_of_cell? w4 _ c7)).trans c7
                have d8 := (HBW.out.cell (World.block_lt_of_cell? w4 _ c8)).trans c8
                have d9 := (HBW.out.cell (World.block_lt_of_cell? w4 _ c9)).trans c9
                clear c7 c8 c9
                by_cases hrq : Rq.mk (kn : Int) op' ra' rb' amt' legs' til' = ⟨(kn : Int), qo, qa, qb, qm, ql, qt⟩
                · have HRT := Lib.hid ((if_pos hrq).symm.trans HRR.out)
                  rw [show decide (¬ Rq.mk (kn : Int) op' ra' rb' amt' legs' til' = ⟨(kn : Int), qo, qa, qb, qm, ql, qt⟩) = false from decide_eq_false (fun h => h hrq)]
                  clear hrq HRR
                  cases told with
                  | true =>
                    have hr2 := (if_pos rfl).symm.trans HRT.out
                    injection hr2 with e1 e2
                    injection e2 with e2 _
                    subst e1 e2
                    go_wp2
                    go_meet
                    exact ⟨rfl, Rq2.put_below HBW.out (Nat.le_refl _) _ _, HRW.out.put _ _, by simpa using hltw⟩
                  | false =>
                    have hr2 := (if_neg (by simp)).symm.trans HRT.out
                    injection hr2 with e1 e2
                    injection e2 with e2 _
                    subst e1 e2
                    go_wp2
                    go_meet
                    exact ⟨rfl, HBW.out.setCell (p := ⟨w4.heap.size, 0, none⟩) (Nat.le_refl _) _, HRW.out.put1 _, by simpa using hltw⟩
                · have hr2 := (if_neg hrq).symm.trans HRR.out
                  injection hr2 with e1 e2
                  injection e2 with e2 _
                  subst e1 e2
                  rw [show decide (¬ Rq.mk (kn : Int) op' ra' rb' amt' legs' til' = ⟨(kn : Int), qo, qa, qb, qm, ql, qt⟩) = true from decide_eq_true hrq]
                  clear hrq HRR
                  go_wp2
                  go_meet
                  exact ⟨rfl, HBW.out.setCell (p := ⟨w4.heap.size, 0, none⟩) (Nat.le_refl _) _, HRW.out.put1 _, by simpa using hltw⟩
              case rest =>
                clear HBW HRW HRR c7 c8 c9 hltw
                obtain ⟨rfl, hbw, hrw, hltw⟩ := hcut
                obtain ⟨wd, hwd⟩ : ∃ wd, wd = wc := ⟨_, rfl⟩
                subst hwd
                have HK1 := Lib.hid (HKS.out.below hbw)
                have HW1 := Lib.hid hrw
                have hw1 := hltw
                have hla := HK1.out.a2.2.2
                have hlr := HK1.out.lr
                clear hbw hrw HKS hltw
                clear hlr hla
                obtain ⟨z0, z1, z2, z3, z4, z5, z6⟩ := HK1.out.r7.cells
                have hlr := HK1.out.lr
                go_wp2_with fail
                refine (HAS2.out _ _ _ HK1.out.o3.rd).mono ?_
                rintro _ w5 ⟨rfl, hb5⟩
                dsimp only
                have HK5 := Lib.hid (HK1.out.below hb5)
                have HW5 := Lib.hid (HW1.out.below hb5 hw1)
                have hw5 : w4.heap.size < w5.heap.size := Nat.lt_of_lt_of_le hw1 hb5.size
                clear hb5 z0 z1 z2 z3 z4 z5 z6 hlr
                obtain ⟨z0, z1, z2, z3, z4, z5, z6⟩ := HK5.out.r7.cells
                have hlr := HK5.out.lr
                obtain ⟨y0, y1⟩ := HW5.out.cells
                go_wp2_with fail
                refine (HFI.out _ _ _ (HK5.out.alloc _).o3.rd).mono ?_
                rintro _ w6 ⟨rfl, hb6⟩
                have HK6 := Lib.hid ((HK5.out.alloc _).below hb6)
                clear hb6 z0 z1 z2 z3 z4 z5 z6 hlr y0 y1 HK5 HW5 HAS2 HFI
                obtain ⟨z0, z1, z2, z3, z4, z5, z6⟩ := HK6.out.r7.cells
                have hlr := HK6.out.lr
                obtain ⟨f0, f8, hla⟩ := HK6.out.a2
                cases tell
                case false =>
                  have hres := HPU.out w6 A3 c3 HK6.out.o3.rd HN3.out
                  rw [(putE_key (r := ⟨(kn : Int), qo, qa, qb, qm, ql, qt⟩) HP.out).1, (putE_key (r := ⟨(kn : Int), qo, qa, qb, qm, ql, qt⟩) HP.out).2] at hres
                  have HRES := Lib.hid hres
                  clear hres
                  go_wp2_with fail
                  refine HRES.out.mono ?_
                  rintro _ w7 ⟨v7, rfl, ho7, hb7⟩
                  rw [show errV 5 = eno 5 from rfl]
                  obtain ⟨A7, c7, rfl, _, _, _, _⟩ := ho7.form
                  rw [show ([] : List Kn).length = 0 from rfl]
                  have HK7 := Lib.hid (HK6.out.below hb7)
                  clear ho7 hb7 HRES
                  go_wp2_with fail
                  refine (number_err 5 _ (HH1.out.below HK7.out.b)).mono ?_
                  rintro _ w8 ⟨rfl, hb8⟩
                  have HK8 := Lib.hid (HK7.out.below hb8)
                  clear hb8
                  go_wp2_with fail
                  refine (ksame_yes A3 (some ad4) j c3 c4 zs _ HM.out HK8.out.o3.rd HK8.out.o4.rd (by omega)).mono ?_
                  rintro _ w9 ⟨rfl, hb9⟩
                  have HK9 := Lib.hid (HK8.out.below hb9)
                  clear hb9
                  go_wp2
                  go_roundw
                  case rel => exact ⟨k + 1, zs, by omega, by go_num, HCNT.out, HK9.out.o3, HK9.out.o4, HK9.out.ne, HK9.out.b⟩
                  case measure => simp [intOf]; omega
                case true =>
                  cases told
                  case false =>
                    obtain ⟨e1, e2⟩ := HTO.out rfl
                    have hres := HTL.out w6 A3 c3 HK6.out.o3.rd HN3.out
                    rw [e1, e2] at hres
                    have HRES := Lib.hid hres
                    clear hres e1 e2
                    go_wp2_with fail
                    refine HRES.out.mono ?_
                    rintro _ w7 ⟨v7, rfl, ho7, hb7⟩
                    rw [show errV 0 = .nilIface from rfl]
                    obtain ⟨g7, cap7, rfl, hg7, hg7', _, _⟩ := ho7.open_ (by rw [List.length_set, HM.out]; omega)
                    rw [List.length_set, HM.out] at ho7 ⊢
                    have HK7 := Lib.hid (HK6.out.below hb7)
                    have HO7 := Lib.hid (ho7.less HK6.out.b.size)
                    clear ho7 hb7 HRES z0 z1 z2 z3 z4 z5 z6 f0 f8 hla hlr
                    obtain ⟨ad5, had5, hat5⟩ := HK7.out.o4.rd.at_ HAT.out
                    obtain ⟨_, _, _, _, _, _, _, _, _, c9⟩ := kn_cells hat5
                    injection had5 with had5
                    subst had5
                    clear hat5
                    obtain ⟨f0, f8, hla⟩ := HK7.out.a2
                    go_wp2_with (at_builtin
                                 refine wpList_append_recs known 24 Tryd.underlying24 info_known rfl _ rfl (.const (.slice none 0 0)) (.tmp 124) rfl w1.heap.size (.slice none 0 0) [] zs rfl OwnS.nil ad4 j c4 rfl HM.out (by omega) HK7.out.o4.rd (by simp; omega) (by simp; omega) HK7.out.b.size w7.heap.size rfl ?_
                                 intro g8 cap8 w8 ho8 hg8 hat8 hlt8
                                 rw [show ([] : List Kn).length + j = j from Nat.zero_add j] at ho8 ⊢
                                 rw [List.nil_append] at ho8
                                 have hg8e : g8 = w7.heap.size := hat8.resolve_left (fun h => by cases h)
                                 have hb8 : Below w7.heap.size w7 w8 := (Below.refl _ _).grown hg8 (Nat.le_refl _) (fun k h => by cases h)
                                 have HG8E := Lib.hid hg8e
                                 have HO78 := Lib.hid (HO7.out.below hb8)
                                 have HK8 := Lib.hid (HK7.out.below hb8)
                                 have d7 := ho8.at_ HAT.out 7 _ rfl
                                 have d8 := ho8.at_ HAT.out 8 _ rfl
                                 have d9 := ho8.at_ HAT.out 9 _ rfl
                                 rw [show known.size = 10 from rfl] at d7 d8 d9
                                 have e7 := ho8.unfrozen HM.out.symm (i * 10 + 7)
                                 have e8 := ho8.unfrozen HM.out.symm (i * 10 + 8)
                                 have e9 := ho8.unfrozen HM.out.symm (i * 10 + 9)
                                 have HPT := Lib.hid (kn_put ho8 HM.out.symm HAT.out 0 id)
                                 clear ho8 hg8 hat8 hb8 hg8e f0 f8 hla c9
                                 have hla8 := HK8.out.a2.2.2
                                 have f0 := HK8.out.a2.1
                                 have f8 := HK8.out.a2.2.1)
                    have hg8e := HG8E.out
                    have hne8 : g7 ≠ g8 := by omega
                    have hg8b : w1.heap.size ≤ g8 := by have := HK7.out.b.size; omega
                    have h7ne : ∀ g, (Value.slice (some ⟨g7, 0, none⟩) j cap7).ownBlock = some g → g ≠ g8 := fun g h => by simp [Value.ownBlock] at h; omega
                    have HO7S := Lib.hid (((HO78.out.setOther (p := ⟨g8, i * 10 + 7, none⟩) (u := .int .i64 0) h7ne).setOther (p := ⟨g8, i * 10 + 8, none⟩) (u := .int .i64 id) h7ne).setOther (p := ⟨g8, i * 10 + 9, none⟩) (u := .bool true) h7ne)
                    have HBS := Lib.hid (((HK8.out.b.setCell (p := ⟨g8, i * 10 + 7, none⟩) hg8b (.int .i64 0)).setCell (p := ⟨g8, i * 10 + 8, none⟩) hg8b (.int .i64 id)).setCell (p := ⟨g8, i * 10 + 9, none⟩) hg8b (.bool true))
                    clear h7ne hg8e
                    refine (number_nil _).mono ?_
                    rintro _ w9 ⟨rfl, hb9⟩
                    have HO79 := Lib.hid (HO7S.out.below hb9)
                    have HO9 := Lib.hid (HPT.out.below hb9)
                    have HB9 := Lib.hid (HBS.out.trans (hb9.mono HBS.out.size))
                    clear hb9 d7 d8 d9 e7 e8 e9
                    have hjl : (zs.set i ⟨Rq.mk (kn : Int) op' ra' rb' amt' legs' til', 0, id, true⟩).length = j := by rw [List.length_set, HM.out]
                    go_wp2_with fail
                    refine (ksame_yes _ _ j cap7 cap8 _ _ hjl HO79.out.rd HO9.out.rd (by omega)).mono ?_
                    rintro _ w10 ⟨rfl, hb10⟩
                    have HO7E := Lib.hid (HO79.out.below hb10)
                    have HO8E := Lib.hid (HO9.out.below hb10)
                    have HBE := Lib.hid (HB9.out.trans (hb10.mono HB9.out.size))
                    clear hb10
                    go_wp2
                    go_roundw
                    case rel => exact ⟨k + 1, _, by omega, by go_num, by rw [hjl, cnt_set (b := ⟨Rq.mk (kn : Int) op' ra' rb' amt' legs' til', 0, id, true⟩) HAT.out rfl, ← HCNT.out, HM.out], HO7E.out, HO8E.out, fun g h h' => hne8 (by simp [Value.ownBlock] at h h'; omega), HBE.out⟩
                    case measure => simp [intOf]; omega
                  case true =>
                    have hres := HTL.out w6 A3 c3 HK6.out.o3.rd HN3.out
                    rw [(HTB.out rfl).1, (HTB.out rfl).2] at hres
                    have HRES := Lib.hid hres
                    clear hres
                    go_wp2_with fail
                    refine HRES.out.mono ?_
                    rintro _ w7 ⟨v7, rfl, ho7, hb7⟩
                    rw [show errV 6 = eno 6 from rfl]
                    obtain ⟨A7, c7, rfl, _, _, _, _⟩ := ho7.form
                    rw [show ([] : List Kn).length = 0 from rfl]
                    have HK7 := Lib.hid (HK6.out.below hb7)
                    clear ho7 hb7 HRES
                    obtain ⟨ad5, had5, hat5⟩ := HK7.out.o4.rd.at_ HAT.out
                    obtain ⟨_, _, _, _, _, _, _, _, _, c9⟩ := kn_cells hat5
                    injection had5 with had5
                    subst had5
                    clear hat5
                    go_wp2_with fail
                    refine (number_err 6 _ (HH1.out.below HK7.out.b)).mono ?_
                    rintro _ w8 ⟨rfl, hb8⟩
                    have HK8 := Lib.hid (HK7.out.below hb8)
                    clear hb8
                    go_wp2_with fail
                    refine (ksame_yes A3 (some ad4) j c3 c4 zs _ HM.out HK8.out.o3.rd HK8.out.o4.rd (by omega)).mono ?_
                    rintro _ w9 ⟨rfl, hb9⟩
                    have HK9 := Lib.hid (HK8.out.below hb9)
                    clear hb9
                    go_wp2
                    go_roundw
                    case rel => exact ⟨k + 1, zs, by omega, by go_num, HCNT.out, HK9.out.o3, HK9.out.o4, HK9.out.ne, HK9.out.b⟩
                    case measure => simp [intOf]; omega
    · obtain rfl : k = n := by omega
      go_wp2
      go_ret
      exact ⟨rfl, HB1.out.trans (HBEL.out.mono HB1.out.size)⟩
end Go.Proofs.YtmokdmojhfhopaaDoor
