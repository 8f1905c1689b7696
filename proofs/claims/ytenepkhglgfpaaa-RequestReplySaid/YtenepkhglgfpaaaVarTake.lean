/-
  varint.Take by its contract: of bytes that begin with the encodings of ns, so many numbers as are asked for, or none where there are fewer.
-/
import Derived.Test.YtenepkhglgfpaaaVarRead
namespace Go.Proofs.Ytenepkhglgfpaaa
open Go.RowKit
set_option linter.unusedVariables false

theorem info_int : (Try.prog.info? 3).map (fun i => (i.zero, i.size, i.bytes)) = some (some (.int .i64 0), 1, 8) := by kernel_rfl

/-- It hands back numbers and bytes of its own, and true. -/
def TakeRes (w : World) (ns : List Int) (xs : List Nat) (e : Ending) (w' : World) : Prop :=
  ∃ v u, e = .returned (.tuple #[v, u, .bool true]) ∧ Own 3 .i64 w' w.heap.size v ns.length ns ∧ Own 5 .u8 w' w.heap.size u xs.length (ints xs) ∧ Below w.heap.size w w'

theorem encs_drop (ns : List Int) (k : Nat) (h : k < ns.length) : encs (ns.drop k) = enc (pairN (ns.getD k 0)) ++ encs (ns.drop (k + 1)) := by
  rw [List.drop_eq_getElem_cons h, encs_cons]
  simp [List.getD, h]
theorem encs_split (ns : List Int) (k : Nat) (t : List Nat) : (encs ns ++ t).drop (encs (ns.take k)).length = encs (ns.drop k) ++ t := by
  have : encs ns = encs (ns.take k) ++ encs (ns.drop k) := by rw [← encs_append, List.take_append_drop]
  rw [this, List.append_assoc, List.drop_left]

theorem encs_front_le (ns : List Int) (k : Nat) (t : List Nat) : (encs (ns.take k)).length + (encs (ns.drop k) ++ t).length = (encs ns ++ t).length := by
  have : encs ns = encs (ns.take k) ++ encs (ns.drop k) := by rw [← encs_append, List.take_append_drop]
  simp only [this, List.length_append]
  omega

set_option maxRecDepth 100000 in
set_option maxHeartbeats 4000000 in
theorem take_yes (A : Option Addr) (n c : Nat) (ns : List Int) (t : List Nat) (m : Int) (w : World) (hr : Rd .u8 w A n (ints (encs ns ++ t))) (hnc : n ≤ c) (hl : c ≤ maxLen) (hn : n ≤ 200000000000000)
    (ht : ∀ x ∈ t, x < 256) (hw : ∀ x ∈ ns, -9223372036854775808 ≤ x ∧ x ≤ 9223372036854775807) (m1 : -9223372036854775808 ≤ m) (m2 : m ≤ 1000000) (hm : m ≤ (ns.length : Int)) :
    Calls Try.prog 23 #[.slice A n c, .int .i64 m] w (TakeRes w (ns.take m.toNat) (encs (ns.drop m.toNat) ++ t)) := by
  have hx : (encs ns ++ t).length = n := by have := hr.1; rwa [ints_length] at this
  have HR := Lib.hid hr
  have HX := Lib.hid hx
  have HT := Lib.hid ht
  have HW := Lib.hid hw
  have hl' := hl
  unfold maxLen at hl
  have HL := Lib.hid hl'
  clear hr hx ht hw hl'
  go_enter Try.func23, Try.ntmps23
  go_wp2
  go_loopw [7, 8] (fun v i wr => ∃ k q : Nat, k ≤ m.toNat ∧ i = .int .i64 (q : Int) ∧ q = (encs (ns.take k)).length ∧ Own 3 .i64 wr w.heap.size v k (ns.take k) ∧ Below w.heap.size w wr) (fun _ i _ => n - (intOf i).toNat)
  case atStart => exact ⟨0, 0, by omega, rfl, rfl, Own.nil, Below.refl _ _⟩
  case round =>
    obtain ⟨k, q, hk, rfl, hq, ho, hb⟩ := hrel
    obtain ⟨Av, cv, rfl, hv1, hv2, _, _⟩ := ho.form
    have hfl := encs_front_le ns k t
    rw [HX.out, ← hq] at hfl
    have hqn : q ≤ n := by omega
    have HQ := Lib.hid hq
    have hcut := (HR.out.below hb).cut (j := q) (cap := c) hqn hnc
    rw [ints_drop, hq, encs_split, ← hq] at hcut
    have HC := Lib.hid hcut
    have hsz := hb.size
    clear hcut hq
    by_cases hlt : (k : Int) < m 
    · have hkl : k < ns.length := by omega
      have HKL := Lib.hid hkl
      have hin := HW.out (ns.getD k 0) (by simp [List.getD, hkl])
      obtain ⟨x, hx⟩ : ∃ x, x = ns.getD k 0 := ⟨_, rfl⟩
      have hed := encs_drop ns k hkl
      rw [← hx] at hed hin
      obtain ⟨L, hL⟩ : ∃ L, L = (enc (pairN x)).length := ⟨_, rfl⟩
      have hL1 : 1 ≤ L := by rw [hL]; exact enc_len_pos _
      have hrd : rd (encs (ns.drop k) ++ t) = some (pairN x, L) := by rw [hed, List.append_assoc, hL]; exact rd_enc (pairN_lt hin.1 hin.2) _
      have hqL : q + L ≤ n := by
        rw [hed, List.append_assoc, List.length_append, ← hL] at hfl
        omega
      have hqe : q + L = (encs (ns.take (k + 1))).length := by rw [take_succ_getD ns k hkl, encs_append, encs_one, List.length_append, ← hx, ← hL, ← HQ.out]
      have hte : ns.take (k + 1) = ns.take k ++ [x] := by rw [take_succ_getD ns k hkl, hx]
      have hcut := HC.out
      rw [if_neg (by omega)] at hcut
      have HP := Lib.hid (vread_any _ (n - q) (c - q) _ wr hcut (fun y hy => (List.mem_append.1 hy).elim (encs_bytes _ y) (HT.out y)) (by omega) (by have := HL.out; omega))
      rw [hrd] at HP
      have HTE := Lib.hid hte
      have HQE := Lib.hid hqe
      have b0 := veqF (show (L : Int) ≠ 0 by omega)
      obtain ⟨x1, x2⟩ := hin
      clear hcut hrd hed hx hL hqe hte hkl hfl
      go_wp2_with fail
      refine HP.out.mono ?_
      rintro e w' ⟨rfl, rfl⟩
      have hres : rdRes (some (pairN x, L)) = .tuple #[.int .i64 x, .int .i64 (L : Int)] := by
        show Value.tuple #[.int .i64 (unp (pairN x)), .int .i64 (L : Int)] = _
        rw [unp_pair]
      rw [hres]
      clear hres
      go_wp2_with (at_builtin; refine wpList_append_ints _ rfl (.tmp 24) (.tmp 26) 52 rfl .i64 8 w.heap.size 3 Try.underlying52 info_int _ k _ rfl (ho.alloc _) (some ⟨wr.heap.size, 0, none⟩) 1 1 _ rfl (Rd.one _) (by omega) (by omega) (by simp; omega) ?_; intro v' w2 ho2 hg2)
      have hb2 : Below w.heap.size w w2 := (hb.alloc hsz _).grown hg2 (by simp; omega) ho.rowLt
      rw [← HTE.out] at ho2
      clear hg2
      go_roundw
      case rel => exact ⟨k + 1, q + L, by omega, by go_num, HQE.out, ho2, hb2⟩
      case measure => simp [intOf]; omega
    · have hke : k = m.toNat := by omega
      have HO := Lib.hid ho
      have HE := Lib.hid hke
      clear hfl ho hke
      go_wp2_with fail
      all_goals
        refine (vclone_any _ (n - q) _ (encs (ns.drop k) ++ t) _ (by
          have hcut := HC.out
          first
            | (rw [if_pos (by assumption)] at hcut; exact hcut)
            | (rw [if_neg (by assumption)] at hcut; exact hcut)) (by omega)).mono ?_
        rintro e w1 ⟨v, rfl, ho1, hb1⟩
        have HO1 := Lib.hid (ho1.less hsz)
        have HB1 := Lib.hid (hb.trans (hb1.mono hsz))
        have HO2 := Lib.hid (HO.out.below hb1)
        clear ho1 hb1 HO
        go_wp2
        go_ret3
        refine ⟨_, v, rfl, ?_, ?_, HB1.out⟩
        · rw [← HE.out, HO2.out.len]; exact HO2.out
        · rw [← HE.out]; exact HO1.out

set_option maxRecDepth 100000 in
set_option maxHeartbeats 4000000 in
theorem take_no (A : Option Addr) (n c : Nat) (ns : List Int) (t : List Nat) (m : Int) (w : World) (hr : Rd .u8 w A n (ints (encs ns ++ t))) (hnc : n ≤ c) (hl : c ≤ maxLen) (hn : n ≤ 200000000000000)
    (ht : ∀ x ∈ t, x < 256) (hw : ∀ x ∈ ns, -9223372036854775808 ≤ x ∧ x ≤ 9223372036854775807) (m1 : -9223372036854775808 ≤ m) (m2 : m ≤ 1000000) (hm : (ns.length : Int) < m) (htn : rd t = none) :
    Calls Try.prog 23 #[.slice A n c, .int .i64 m] w fun e w' => e = .returned (.tuple #[.slice none 0 0, .slice none 0 0, .bool false]) ∧ Below w.heap.size w w' := by
  have hx : (encs ns ++ t).length = n := by have := hr.1; rwa [ints_length] at this
  have HR := Lib.hid hr
  have HX := Lib.hid hx
  have HT := Lib.hid ht
  have HW := Lib.hid hw
  have hl' := hl
  unfold maxLen at hl
  have HL := Lib.hid hl'
  have HTN := Lib.hid htn
  clear hr hx ht hw hl' htn
  go_enter Try.func23, Try.ntmps23
  go_wp2
  go_loopw [7, 8] (fun v i wr => ∃ k q : Nat, k ≤ ns.length ∧ i = .int .i64 (q : Int) ∧ q = (encs (ns.take k)).length ∧ Own 3 .i64 wr w.heap.size v k (ns.take k) ∧ Below w.heap.size w wr) (fun _ i _ => n - (intOf i).toNat)
  case atStart => exact ⟨0, 0, by omega, rfl, rfl, Own.nil, Below.refl _ _⟩
  case round =>
    obtain ⟨k, q, hk, rfl, hq, ho, hb⟩ := hrel
    obtain ⟨Av, cv, rfl, hv1, hv2, _, _⟩ := ho.form
    have hfl := encs_front_le ns k t
    rw [HX.out, ← hq] at hfl
    have hqn : q ≤ n := by omega
    have HQ := Lib.hid hq
    have hcut := (HR.out.below hb).cut (j := q) (cap := c) hqn hnc
    rw [ints_drop, hq, encs_split, ← hq] at hcut
    have HC := Lib.hid hcut
    have hsz := hb.size
    clear hcut hq
    by_cases hkl : k < ns.length
    · have hlt : (k : Int) < m := by omega
      have HKL := Lib.hid hkl
      have hin := HW.out (ns.getD k 0) (by simp [List.getD, hkl])
      obtain ⟨x, hx⟩ : ∃ x, x = ns.getD k 0 := ⟨_, rfl⟩
      have hed := encs_drop ns k hkl
      rw [← hx] at hed hin
      obtain ⟨L, hL⟩ : ∃ L, L = (enc (pairN x)).length := ⟨_, rfl⟩
      have hL1 : 1 ≤ L := by rw [hL]; exact enc_len_pos _
      have hrd : rd (encs (ns.drop k) ++ t) = some (pairN x, L) := by rw [hed, List.append_assoc, hL]; exact rd_enc (pairN_lt hin.1 hin.2) _
      have hqL : q + L ≤ n := by
        rw [hed, List.append_assoc, List.length_append, ← hL] at hfl
        omega
      have hqe : q + L = (encs (ns.take (k + 1))).length := by rw [take_succ_getD ns k hkl, encs_append, encs_one, List.length_append, ← hx, ← hL, ← HQ.out]
      have hte : ns.take (k + 1) = ns.take k ++ [x] := by rw [take_succ_getD ns k hkl, hx]
      have hcut := HC.out
      rw [if_neg (by omega)] at hcut
      have HP := Lib.hid (vread_any _ (n - q) (c - q) _ wr hcut (fun y hy => (List.mem_append.1 hy).elim (encs_bytes _ y) (HT.out y)) (by omega) (by have := HL.out; omega))
      rw [hrd] at HP
      have HTE := Lib.hid hte
      have HQE := Lib.hid hqe
      have b0 := veqF (show (L : Int) ≠ 0 by omega)
      obtain ⟨x1, x2⟩ := hin
      clear hcut hrd hed hx hL hqe hte hkl hfl
      go_wp2_with fail
      refine HP.out.mono ?_
      rintro e w' ⟨rfl, rfl⟩
      have hres : rdRes (some (pairN x, L)) = .tuple #[.int .i64 x, .int .i64 (L : Int)] := by
        show Value.tuple #[.int .i64 (unp (pairN x)), .int .i64 (L : Int)] = _
        rw [unp_pair]
      rw [hres]
      clear hres
      go_wp2_with (at_builtin; refine wpList_append_ints _ rfl (.tmp 24) (.tmp 26) 52 rfl .i64 8 w.heap.size 3 Try.underlying52 info_int _ k _ rfl (ho.alloc _) (some ⟨wr.heap.size, 0, none⟩) 1 1 _ rfl (Rd.one _) (by omega) (by omega) (by simp; omega) ?_; intro v' w2 ho2 hg2)
      have hb2 : Below w.heap.size w w2 := (hb.alloc hsz _).grown hg2 (by simp; omega) ho.rowLt
      rw [← HTE.out] at ho2
      clear hg2
      go_roundw
      case rel => exact ⟨k + 1, q + L, by have := HKL.out; omega, by go_num, HQE.out, ho2, hb2⟩
      case measure => simp [intOf]; omega
    · have hke : ns.drop k = [] := List.drop_eq_nil_of_le (by omega)
      have hlt : (k : Int) < m := by omega
      have hcut := HC.out
      rw [hke, encs_nil, List.nil_append] at hcut
      have HC2 := Lib.hid hcut
      have HV := Lib.hid (fun (A' : Option Addr) (c' : Nat) (h1 : Rd .u8 wr A' (n - q) (ints t)) (h2 : n - q ≤ c') (h3 : c' ≤ maxLen) => show Calls Try.prog 26 #[.slice A' (n - q) c'] wr (ReadPost wr none) from HTN.out ▸ vread_any A' (n - q) c' t wr h1 HT.out h2 h3)
      have HBx := Lib.hid hb
      clear hcut hke hfl hb
      go_wp2_with fail
      all_goals
        refine (HV.out _ _ (by
          have hcut := HC2.out
          first
            | (rw [if_pos (by assumption)] at hcut; exact hcut)
            | (rw [if_neg (by assumption)] at hcut; exact hcut)) (by omega) (by have := HL.out; omega)).mono ?_
        rintro e w' ⟨rfl, rfl⟩
        have hres : rdRes none = .tuple #[.int .i64 0, .int .i64 0] := rfl
        rw [hres]
        clear hres
        go_wp2
        go_ret3
        exact ⟨rfl, HBx.out⟩
end Go.Proofs.Ytenepkhglgfpaaa
