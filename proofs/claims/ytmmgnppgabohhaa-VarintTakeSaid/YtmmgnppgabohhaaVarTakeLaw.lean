/-
  The statement VarintTake by its walk.
-/
import Derived.Test.YtmmgnppgabohhaaVarTake
import Derived.Test.YtmmgnppgabohhaaVarTwoEnd
import Derived.Test.YtmmgnppgabohhaaRowArg
namespace Go.Proofs.Ytmmgnppgabohhaa
open Go.RowKit
set_option linter.unusedVariables false

theorem seg_start (ns : List Int) (M : Nat) : encs ((ns.take M).drop M) = [] := by
  rw [List.drop_eq_nil_of_le (List.length_take_le _ _)]; rfl
theorem seg_more (ns : List Int) (M k : Nat) (h : M ≤ k) (hk : k < ns.length) : encs ((ns.take (k + 1)).drop M) = encs ((ns.take k).drop M) ++ enc (pairN (ns.getD k 0)) := by
  rw [take_succ_getD ns k hk, List.drop_append_of_le_length (by rw [List.length_take]; omega), encs_append, encs_one]
theorem seg_end (ns : List Int) (M k : Nat) (h : ns.length ≤ k) : encs ((ns.take k).drop M) = encs (ns.drop M) := by
  rw [List.take_of_length_le h]

theorem take_getD (ns : List Int) (M j : Nat) (h : j < M) : (ns.take M).getD j 0 = ns.getD j 0 := by
  simp [List.getD, h]

theorem rd_last : rd [255] = none := rfl

theorem encs_room (ns : List Int) (hw : ∀ x ∈ ns, -9223372036854775808 ≤ x ∧ x ≤ 9223372036854775807) (h : ns.length ≤ 17592186043904) : (encs ns).length ≤ 175921860439040 := by
  have := encs_len ns (fun x hx => pairN_lt (hw x hx).1 (hw x hx).2)
  omega

set_option maxRecDepth 100000 in
set_option maxHeartbeats 4000000 in
theorem takelaw_no (a : Option Addr) (len cap : Nat) (ns : List Int) (n : Int) (a2 : Option Addr) (len2 cap2 : Nat) (w : World) (hr : Rd .i64 w a len ns) (hw : ∀ x ∈ ns, -9223372036854775808 ≤ x ∧ x ≤ 9223372036854775807)
    (hl : len ≤ 17592186043904) (n1 : -128 ≤ n) (n2 : n ≤ 127) (hm : (len : Int) < n) :
    Calls Try.prog 5 #[.slice a len cap, .int .i8 n, .slice a2 len2 cap2] w fun e w' => e = .returned (.bool true) ∧ Below w.heap.size w w' := by
  have hnl := hr.1
  have hroom := encs_room ns hw (by omega)
  have HR := Lib.hid hr
  have HW := Lib.hid hw
  have HN := Lib.hid hnl
  clear hr hw hnl
  go_enter Try.func5, Try.ntmps5
  go_wp2_with fail
  refine (awake_ok w).mono ?_
  rintro e w1 ⟨rfl, hb⟩
  have HB := Lib.hid hb
  have HR1 := Lib.hid (HR.out.below hb)
  clear hb
  go_wp2_with fail
  refine (all_any a len cap ns w1 HR1.out HW.out (by omega)).mono ?_
  rintro e w2 ⟨v, rfl, ho, hb⟩
  obtain ⟨A0, c0, rfl, _, _, _, _⟩ := ho.form
  have HB2 := Lib.hid (HB.out.trans (hb.mono HB.out.size))
  have hs2 := HB2.out.size
  obtain ⟨q0, hq0⟩ : ∃ q0, q0 = (encs ns).length := ⟨_, rfl⟩
  rw [← hq0] at ho hroom ⊢
  have HO := Lib.hid (ho.less HB.out.size)
  clear ho hb hq0
  go_wp2_with (at_builtin; refine wpList_append_ints _ rfl (.tmp 22) (.tmp 23) 22 rfl .u8 1 w.heap.size 5 Try.underlying22 info_byte _ q0 _ rfl (HO.out.alloc _) (some ⟨w2.heap.size, 0, none⟩) 1 1 _ rfl (Rd.one _) (by omega) (by omega) (by simp; omega) ?_; intro v3 w3 ho3 hg3)
  have hb3 : Below w.heap.size w w3 := (HB2.out.alloc hs2 _).grown hg3 (by simp; omega) HO.out.rowLt
  have ho4 : Own 5 .u8 w3 w.heap.size v3 (q0 + 1) (ints (encs ns ++ [255])) := by rw [ints_append]; exact ho3
  obtain ⟨A3, c3, rfl, h31, h32, hr3, _⟩ := ho4.form
  have HB3 := Lib.hid hb3
  clear ho3 hg3 ho4 hb3 HB2 HO HR1 HB hs2
  refine (take_no A3 (q0 + 1) c3 ns [255] n w3 hr3 h31 h32 (by omega) (by simp) HW.out (by omega) (by omega) (by rw [HN.out]; exact hm) (by simp) rd_last).mono ?_
  rintro e w4 ⟨rfl, hb4⟩
  have HB4 := Lib.hid (HB3.out.trans (hb4.mono HB3.out.size))
  clear hb4 hr3 h31 h32
  go_wp2
  go_ret
  exact ⟨rfl, HB4.out⟩

set_option maxRecDepth 100000 in
set_option maxHeartbeats 4000000 in
theorem takelaw_yes (a : Option Addr) (len cap : Nat) (ns : List Int) (n : Int) (a2 : Option Addr) (len2 cap2 : Nat) (rs : List Nat) (w : World) (hr : Rd .i64 w a len ns) (hw : ∀ x ∈ ns, -9223372036854775808 ≤ x ∧ x ≤ 9223372036854775807)
    (hl : len ≤ 17592186043904) (n1 : -128 ≤ n) (n2 : n ≤ 127) (hm : n ≤ (len : Int)) (hr2 : Rd .u8 w a2 len2 (ints rs)) (hw2 : ∀ x ∈ rs, x < 256) (hc2 : len2 ≤ cap2) (hx2 : cap2 ≤ maxLen) (hl2 : len2 ≤ 140737488351232) :
    Calls Try.prog 5 #[.slice a len cap, .int .i8 n, .slice a2 len2 cap2] w fun e w' => e = .returned (.bool true) ∧ Below w.heap.size w w' := by
  have HR2 := Lib.hid hr2
  have HW2 := Lib.hid hw2
  have HC2 := Lib.hid hx2
  clear hr2 hw2 hx2
  have hnl := hr.1
  have hroom := encs_room ns hw (by omega)
  have HR := Lib.hid hr
  have HW := Lib.hid hw
  have HN := Lib.hid hnl
  clear hr hw hnl
  go_enter Try.func5, Try.ntmps5
  go_wp2_with fail
  refine (awake_ok w).mono ?_
  rintro e w1 ⟨rfl, hb⟩
  have HB := Lib.hid hb
  have HR1 := Lib.hid (HR.out.below hb)
  clear hb
  go_wp2_with fail
  refine (all_any a len cap ns w1 HR1.out HW.out (by omega)).mono ?_
  rintro e w2 ⟨v, rfl, ho, hb⟩
  obtain ⟨A0, c0, rfl, _, _, _, _⟩ := ho.form
  have HB2 := Lib.hid (HB.out.trans (hb.mono HB.out.size))
  have hs2 := HB2.out.size
  obtain ⟨q0, hq0⟩ : ∃ q0, q0 = (encs ns).length := ⟨_, rfl⟩
  rw [← hq0] at ho hroom ⊢
  have HO := Lib.hid (ho.less HB.out.size)
  clear ho hb hq0
  go_wp2_with (at_builtin; refine wpList_append_ints _ rfl (.tmp 22) (.tmp 23) 22 rfl .u8 1 w.heap.size 5 Try.underlying22 info_byte _ q0 _ rfl (HO.out.alloc _) (some ⟨w2.heap.size, 0, none⟩) 1 1 _ rfl (Rd.one _) (by omega) (by omega) (by simp; omega) ?_; intro v3 w3 ho3 hg3)
  have hb3 : Below w.heap.size w w3 := (HB2.out.alloc hs2 _).grown hg3 (by simp; omega) HO.out.rowLt
  have ho4 : Own 5 .u8 w3 w.heap.size v3 (q0 + 1) (ints (encs ns ++ [255])) := by rw [ints_append]; exact ho3
  obtain ⟨A3, c3, rfl, h31, h32, hr3, _⟩ := ho4.form
  have HB3 := Lib.hid hb3
  clear ho3 hg3 ho4 hb3 HB2 HO HR1 HB hs2
  refine (take_yes A3 (q0 + 1) c3 ns [255] n w3 hr3 h31 h32 (by omega) (by simp) HW.out (by omega) (by omega) (by rw [HN.out]; exact hm)).mono ?_
  rintro e w4 ⟨vx, vl, rfl, hox, hol, hb4⟩
  have HB4 := Lib.hid (HB3.out.trans (hb4.mono HB3.out.size))
  obtain ⟨M, hM⟩ : ∃ M, M = n.toNat := ⟨_, rfl⟩
  rw [← hM] at hox hol
  have hMl : M ≤ len := by omega
  have hMt : (ns.take M).length = M := by rw [List.length_take, HN.out]; omega
  rw [hMt] at hox
  obtain ⟨ls, hls⟩ : ∃ ls, ls = encs (ns.drop M) ++ [255] := ⟨_, rfl⟩
  rw [← hls] at hol
  obtain ⟨Ax, cx, rfl, _, _, hrx, _⟩ := hox.form
  obtain ⟨Al, cl, rfl, _, _, hrl, _⟩ := hol.form
  have HM : Hid (max 0 n = (M : Int)) := Lib.hid (by rw [hM]; omega)
  have HRX := Lib.hid hrx
  have HRL := Lib.hid hrl
  have HRN := Lib.hid (HR.out.below HB4.out)
  have HLS := Lib.hid hls
  clear hb4 hr3 h31 h32 hox hol hrx hrl hMt hls hM HB3
  have HB5 := Lib.hid (HB4.out)
  by_cases hneg : n ≤ 0
  case' pos =>
    have e0 : (M : Int) = 0 := by have := HM.out; omega
    have q1 := eqT e0
    have q2 : ((M : Int) != 0) = false := by rw [e0]; rfl
    have HS : Hid (Value.int .i64 0 = Value.int .i64 (M : Int)) := Lib.hid (by rw [e0])
    clear e0
  case' neg =>
    have e0 : (M : Int) = n := by have := HM.out; omega
    have q1 := eqT e0
    have q2 : ((M : Int) != n) = false := by rw [e0]; exact bne_self_eq_false n
    have HS : Hid (Value.int .i64 n = Value.int .i64 (M : Int)) := Lib.hid (by rw [e0])
    clear e0
  all_goals
    go_wp2
    go_loopw [12, 13] (fun s i wr => ∃ k : Nat, M ≤ k ∧ k ≤ len ∧ i = .int .i64 k ∧ s = .string (strN (encs ((ns.take k).drop M))) ∧ Below w4.heap.size w4 wr) (fun _ i _ => len - (intOf i).toNat)
    case atStart => exact ⟨M, Nat.le_refl _, hMl, HS.out, by rw [seg_start]; rfl, Below.refl _ _⟩
    case round =>
      obtain ⟨k, hMk, hk, rfl, rfl, hb6⟩ := hrel
      have HB6 := Lib.hid hb6
      obtain ⟨g, hg⟩ : ∃ g, g = encs ((ns.take k).drop M) := ⟨_, rfl⟩
      have hgl : g.length ≤ 175921860439040 := by rw [hg]; exact encs_room _ (fun x hx => HW.out x (List.mem_of_mem_take (List.mem_of_mem_drop hx))) (by rw [List.length_drop, List.length_take, HN.out]; omega)
      rw [← hg]
      have HG := Lib.hid hg
      have sg : (strN g).size ≤ 175921860439040 := by rw [strN_size]; exact hgl
      clear hb6 hg
      by_cases hlt : k < len
      · obtain ⟨ad, rfl, hcell⟩ := (HRN.out.below HB6.out).at_ hlt
        have hkl : k < ns.length := by rw [HN.out]; exact hlt
        have hin := HW.out (ns.getD k 0) (by simp [List.getD, hkl])
        obtain ⟨x, hx⟩ : ∃ x, x = ns.getD k 0 := ⟨_, rfl⟩
        rw [← hx] at hcell hin
        obtain ⟨x1, x2⟩ := hin
        have HSEG : Hid (strN g ++ strN (enc (pairN x)) = strN (encs ((ns.take (k + 1)).drop M))) := Lib.hid (by
          rw [seg_more ns M k hMk hkl, ← hx, ← HG.out]; exact strN_append _ _)
        have hen := enc_len_ten (pairN_lt x1 x2)
        have se : (strN (enc (pairN x))).size ≤ 10 := by rw [strN_size]; exact hen
        have hss : ¬ 9223372036854775807 < (strN g).size + (strN (enc (pairN x))).size := by omega
        clear hkl hx hen se sg hgl
        go_wp2_with fail
        refine (bytes_any x _ x1 x2).mono ?_
        rintro e w5 ⟨rfl, hb7⟩
        have HB7 := Lib.hid (HB6.out.trans (hb7.mono HB6.out.size))
        clear hb7
        go_wp2
        go_roundw
        case rel => exact ⟨k + 1, by omega, by omega, by go_num, by rw [HSEG.out], HB7.out⟩
        case measure => simp [intOf]; omega
      · have hkl : ns.length ≤ k := by rw [HN.out]; omega
        have hls : strOfNums (ints ls) = strN g ++ ⟨#[255]⟩ := by rw [HLS.out, HG.out, seg_end ns M k hkl]; exact (strN_append _ [255]).symm
        have r1 : ((strOfNums (ints ls)).toList == (strN g ++ ⟨#[255]⟩).toList) = true := by rw [hls]; exact beq_self_eq_true _
        have r2 : ((strOfNums (ints ls)).toList != (strN g ++ ⟨#[255]⟩).toList) = false := by rw [hls]; exact bne_self_eq_false _
        have d1 := str_of wr Al ls.length cl ls (HRL.out.below HB6.out)
        have hss : ¬ 9223372036854775807 < (strN g).size + 1 := by omega
        clear hls hkl hgl sg
        go_wp2
        go_loop [83] (fun i => ∃ j : Nat, j ≤ M ∧ i = .int .i64 j) (fun i => M - (intOf i).toNat)
        case atStart => exact ⟨0, Nat.zero_le _, rfl⟩
        case round =>
          obtain ⟨j, hj, rfl⟩ := hrel
          by_cases hjl : j < M
          · obtain ⟨ax, rfl, hcx⟩ := (HRX.out.below HB6.out).at_ hjl
            obtain ⟨an, rfl, hcn⟩ := (HRN.out.below HB6.out).at_ (show j < len by omega)
            rw [take_getD ns M j hjl] at hcx
            obtain ⟨y, hy⟩ : ∃ y, y = ns.getD j 0 := ⟨_, rfl⟩
            rw [← hy] at hcx hcn
            have y1 : (y != y) = false := bne_self_eq_false y
            have y2 := eqT (show y = y from rfl)
            clear hy
            go_wp2
            go_round
            case rel => exact ⟨j + 1, by omega, by go_num⟩
            case measure => simp [intOf]; omega
          · have hR2 := ((HR2.out.below HB5.out).below HB6.out)
            have HTK := Lib.hid (take_yes a2 len2 cap2 [] rs (-1) wr hR2 hc2 HC2.out (by omega) HW2.out (by simp) (by omega) (by omega) (by simp))
            clear hR2
            go_wp2_with fail
            refine HTK.out.mono ?_
            rintro e w8 ⟨v8, u8, rfl, _, _, hb8⟩
            have HB8 := Lib.hid ((HB5.out.trans (HB6.out.mono HB5.out.size)).trans (hb8.mono (Nat.le_trans HB5.out.size HB6.out.size)))
            clear hb8
            go_wp2
            go_ret
            exact ⟨rfl, HB8.out⟩

theorem varintTake_walk (w : World) (a : Option Addr) (len cap : Nat) (zs : List Int) (h : IsRow .i64 w a len cap zs) (hr : cap * 8 ≤ 140737488351232) (n : Int) (hn : (Lit.int .i8 n).wf = true) (a2 : Option Addr) (len2 cap2 : Nat) (zs2 : List Int) (h2 : IsRow .u8 w a2 len2 cap2 zs2) (hr2 : cap2 * 1 ≤ 140737488351232) :
    Calls Try.prog 5 #[.slice a len cap, .int .i8 n, .slice a2 len2 cap2] w fun e w' => e = .returned (.bool true) ∧ Below w.heap.size w w' := by
  have hb : -128 ≤ n ∧ n ≤ 127 := by
    simp only [Lit.wf, Bool.and_eq_true, decide_eq_true_eq] at hn
    have e1 : IntKind.i8.min = -128 := rfl
    have e2 : IntKind.i8.max = 127 := rfl
    omega
  obtain ⟨ns, g1, _, g3, g4, _⟩ := row_ints h
  obtain ⟨rs, k1, _, k3, k4, k5⟩ := row_bytes h2
  by_cases hm : (len : Int) < n
  · exact takelaw_no a len cap ns n a2 len2 cap2 w g1 g3 (by omega) hb.1 hb.2 hm
  · exact takelaw_yes a len cap ns n a2 len2 cap2 rs w g1 g3 (by omega) hb.1 hb.2 (by omega) k1 k3 k4 k5 (by omega)
end Go.Proofs.Ytmmgnppgabohhaa
