/-
  The law's balanced by its contract: the same as Balanced tells.
-/
import Derived.Test.YtpgjifbeckmieaaEntBal
import Derived.Test.YtpgjifbeckmieaaIntMap
namespace Go.Proofs.Ytpgjifbeckmieaa
open Go Go.RowKit
set_option linter.unusedVariables false

theorem wf_of {x : Int} (h1 : -9223372036854775808 ≤ x) (h2 : x ≤ 9223372036854775807) : (Lit.int .i64 x).wf = true := by
  simp only [Lit.wf, Bool.and_eq_true, decide_eq_true_eq]
  have e1 : IntKind.i64.min = -9223372036854775808 := rfl
  have e2 : IntKind.i64.max = 9223372036854775807 := rfl
  omega

set_option maxRecDepth 100000 in
set_option maxHeartbeats 8000000 in
theorem lawbal_any (A B : Option Addr) (n m cap capb : Nat) (zs : List Ac) (es : List En) (w : World) (hl : zs.length = n) (hr : RdA w A zs) (hle : es.length = m) (hre : RdE w B es) (hn : n ≤ 9223372036854775807) (hm : m ≤ 4611686018427387904) :
    Calls Try.prog 11 #[.slice A n cap, .slice B m capb] w fun e w' => e = .returned (.bool (balB zs es)) ∧ Below w.heap.size w w' := by
  have HR := Lib.hid hr
  have HL := Lib.hid hl
  have HRE := Lib.hid hre
  have HLE := Lib.hid hle
  obtain ⟨r, hres⟩ : ∃ r, balB zs es = r := ⟨_, rfl⟩
  rw [hres]
  have HRES : Hid (balGo zs ⟨0, 0, 0⟩ (es.drop 0) = r) := Lib.hid (by rw [List.drop_zero]; exact hres)
  clear hr hl hre hle hres
  have hmm := @run_makeMap Try.prog
  have HIM := Lib.hid (IM.made w)
  have HB := Lib.hid ((Below.refl w.heap.size w).alloc (Nat.le_refl _) (.map #[] 0))
  go_enter Try.func11, Try.ntmps11
  go_wp2
  clear hmm
  go_loopw [13] (fun i wr => ∃ (k : Nat) (s : S3), k ≤ m ∧ i = .int .i64 (k : Int) ∧ IM wr w.heap.size k s.get ∧
    isMay s.a ∧ isMay s.b ∧ isMay s.c ∧ balGo zs s (es.drop k) = r ∧ Below w.heap.size w wr) (fun i _ => m - (intOf i).toNat)
  case atStart => exact ⟨0, ⟨0, 0, 0⟩, Nat.zero_le _, rfl, HIM.out.congr (fun k => by simp [S3.get]), by dsimp only [isMay]; omega, by dsimp only [isMay]; omega, by dsimp only [isMay]; omega, HRES.out, HB.out⟩
  case round =>
    obtain ⟨k, s, hk, rfl, him, ma, mb, mc, hrest, hbel⟩ := hrel
    have HM1 := Lib.hid him
    have HREST := Lib.hid hrest
    have HBEL := Lib.hid hbel
    have HMA := Lib.hid ma
    have HMB := Lib.hid mb
    have HMC := Lib.hid mc
    have hsz := hbel.size
    have hlt1 : w.heap.size < wr.heap.size := him.lt
    clear him hrest hbel ma mb mc
    by_cases hlt : k < m
    · obtain ⟨⟨P, x⟩, he⟩ : ∃ e, es[k]? = some e := ⟨_, List.getElem?_eq_getElem (by rw [HLE.out]; exact hlt)⟩
      obtain ⟨ae, rfl, hae⟩ := (HRE.out.below HBEL.out).at_ he
      obtain ⟨e0, e1⟩ := hae
      rw [add_next ae (k * 2) 1 (by omega)] at e1
      dsimp only at e0 e1
      have HYES := Lib.hid (fun (hg : goes zs s ⟨P, x⟩) => balGo_yes he hg)
      have HNO1 := Lib.hid (fun (hg : ¬ goes zs s ⟨P, x⟩) => balGo_no he hg)
      clear he
      by_cases hP0 : 0 ≤ P
      rotate_left
      · obtain rfl : r = false := by
          rw [← HREST.out]
          refine HNO1.out fun h => ?_
          have := h.1
          dsimp only at this
          rw [curOf_out (by omega)] at this
          omega
        go_wp2
        go_ret
        exact ⟨rfl, HBEL.out.alloc hsz _⟩
      by_cases hP1 : P < (n : Int)
      rotate_left
      · obtain rfl : r = false := by
          rw [← HREST.out]
          refine HNO1.out fun h => ?_
          have := h.1
          dsimp only at this
          rw [curOf_out (by rw [HL.out]; omega)] at this
          omega
        go_wp2
        go_ret
        exact ⟨rfl, HBEL.out.alloc hsz _⟩
      obtain ⟨p, rfl⟩ : ∃ p : Nat, P = (p : Int) := ⟨P.toNat, by omega⟩
      obtain ⟨⟨c, ab, al⟩, ha⟩ : ∃ a, zs[p]? = some a := ⟨_, List.getElem?_eq_getElem (by rw [HL.out]; omega)⟩
      obtain ⟨ad, rfl, hat⟩ := (HR.out.below HBEL.out).at_ ha
      have c0 := hat.c0
      have HCO := Lib.hid (curOf_at ha)
      dsimp only at c0 HCO
      have hab1 := World.block_lt_of_cell? _ _ c0
      have hab2 : ad.block < wr.heap.size := by rw [add_block] at hab1; exact hab1
      clear hat ha
      by_cases hc0 : 0 ≤ c
      rotate_left
      · obtain rfl : r = false := by
          rw [← HREST.out]
          refine HNO1.out fun h => ?_
          have := h.1
          dsimp only at this
          rw [HCO.out] at this
          omega
        go_wp2
        go_ret
        exact ⟨rfl, HBEL.out.alloc hsz _⟩
      by_cases hc3 : c ≤ 2
      rotate_left
      · obtain rfl : r = false := by
          rw [← HREST.out]
          refine HNO1.out fun h => ?_
          have := h.1
          dsimp only at this
          rw [HCO.out] at this
          omega
        go_wp2
        go_ret
        exact ⟨rfl, HBEL.out.alloc hsz _⟩
      have hmg : isMay (s.get c) := by
        unfold S3.get
        split
        · exact HMA.out
        · split
          · exact HMB.out
          · split
            · exact HMC.out
            · dsimp only [isMay]; omega
      obtain ⟨v, hv⟩ : ∃ v, s.get c = v := ⟨_, rfl⟩
      rw [hv] at hmg
      obtain ⟨v1, v2⟩ := hmg
      have hlook : ∀ N, (Instr.lookup 44 (.map (some w.heap.size)) (.int .i64 c) false).run Try.prog (World.drewN (wr.alloc (.cells #[.int .i64 (p : Int), .int .i64 x] 35)) N) = .ok (.int .i64 v) (World.drewN (wr.alloc (.cells #[.int .i64 (p : Int), .int .i64 x] 35)) N) := fun N => by
        have := ((HM1.out.alloc (.cells #[.int .i64 (p : Int), .int .i64 x] 35)).drewN N).look (k := c) (wf_of (by omega) (by omega))
        rw [hv] at this
        exact this
      by_cases hmay : -1125899906842624 ≤ x ∧ x ≤ 1125899906842624 ∧ isMay (v + x)
      · obtain ⟨a1, a2, a3, a4⟩ := hmay
        have HGY := Lib.hid (HYES.out ⟨⟨by simp only [HCO.out]; omega, by simp only [HCO.out]; omega⟩, ⟨a1, a2⟩, by simp only [HCO.out, hv]; exact ⟨a3, a4⟩⟩)
        have hgo : gone zs s ⟨(p : Int), x⟩ = s.put c (v + x) := by simp only [gone, HCO.out, hv]
        rw [hgo] at HGY
        have HADD := Lib.hid (fun W => add_okS v x W (by omega) (by omega) a1 a2 a3 a4)
        have HV := Lib.hid hv
        clear hgo hv
        go_wp2
        go_quiet (first | (go_at_call 19; exact quiet_same (HADD.out _)))
        clear hlook
        go_wp2_with (first
          | (at_mapUpdate; refine wpList_im_store _ rfl _ _ _ rfl w.heap.size k s.get rfl ((HM1.out.alloc _).drewN _) (by omega) c (v + x) rfl rfl (wf_of (by omega) (by omega)) (wf_of (by omega) (by omega)) ?_; intro w2 him2 hgr))
        go_roundw
        case rel =>
          refine ⟨k + 1, s.put c (v + x), by omega, by go_num, him2.congr (fun j => (S3.get_put_all s c (v + x) j ⟨by omega, by omega⟩).symm), ?_, ?_, ?_, HGY.out.symm.trans HREST.out, ?_⟩
          · have := HMA.out
            unfold S3.put; split
            · exact ⟨a3, a4⟩
            · split
              · exact this
              · exact this
          · have := HMB.out
            unfold S3.put; split
            · exact this
            · split
              · exact ⟨a3, a4⟩
              · exact this
          · have := HMC.out
            unfold S3.put; split
            · exact this
            · split
              · exact this
              · exact ⟨a3, a4⟩
          · exact Below.grown (below_drewN (HBEL.out.alloc hsz _) _) hgr (by simp; omega) (fun j hj => by cases hj; exact Nat.le_refl _)
        case measure => simp [intOf]; omega
      · have HNO := Lib.hid (HNO1.out (fun h => hmay (by have h2 := h.2; simp only [HCO.out, hv] at h2; exact ⟨h2.1.1, h2.1.2, h2.2⟩)))
        obtain rfl : r = false := by rw [← HREST.out]; exact HNO.out
        have HADD := Lib.hid (fun W => add_noS v x W (fun h => hmay ⟨h.2.2.1, h.2.2.2.1, h.2.2.2.2⟩))
        clear hmay hv
        go_wp2
        go_quiet (first | (go_at_call 19; exact quiet_same (HADD.out _)))
        go_wp2
        go_ret
        exact ⟨rfl, below_drewN (HBEL.out.alloc hsz _) _⟩
    · obtain rfl : k = m := by omega
      have hres := HREST.out
      rw [balGo_end (by rw [HLE.out]; omega)] at hres
      have hlook : ∀ c : Int, 0 ≤ c → c ≤ 2 → (Instr.lookup 44 (.map (some w.heap.size)) (.int .i64 c) false).run Try.prog wr = .ok (.int .i64 (s.get c)) wr := fun c h1 h2 => HM1.out.look (wf_of (by omega) (by omega))
      obtain ⟨sa, sb, sc⟩ := s
      have l0 := hlook 0 (by omega) (by omega)
      have l1 := hlook 1 (by omega) (by omega)
      have l2 := hlook 2 (by omega) (by omega)
      rw [show (S3.mk sa sb sc).get 0 = sa from rfl] at l0
      rw [show (S3.mk sa sb sc).get 1 = sb from rfl] at l1
      rw [show (S3.mk sa sb sc).get 2 = sc from rfl] at l2
      dsimp only at hres
      have HRS := Lib.hid hres
      clear hlook hres
      by_cases z0 : sa = 0
      · subst z0
        by_cases z1 : sb = 0
        · subst z1
          by_cases z2 : sc = 0
          · subst z2
            obtain rfl : r = true := by rw [← HRS.out]; simp
            go_wp2
            go_ret
            exact ⟨rfl, HBEL.out⟩
          · have f2 := eqF z2
            obtain rfl : r = false := by rw [← HRS.out]; exact decide_eq_false fun h => z2 h.2.2
            go_wp2
            go_ret
            exact ⟨rfl, HBEL.out⟩
        · have f2 := eqF z1
          obtain rfl : r = false := by rw [← HRS.out]; exact decide_eq_false fun h => z1 h.2.1
          go_wp2
          go_ret
          exact ⟨rfl, HBEL.out⟩
      · have f2 := eqF z0
        obtain rfl : r = false := by rw [← HRS.out]; exact decide_eq_false fun h => z0 h.1
        go_wp2
        go_ret
        exact ⟨rfl, HBEL.out⟩
end Go.Proofs.Ytpgjifbeckmieaa
