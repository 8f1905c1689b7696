/-
  crc.shift by its contract: eight steps of the register.
  Running.Write, Running.Sum and crc.Sum by their contracts.
  What sums tell apart, and how they go together: over lists of natural numbers. Of any program.
  Frames over lists of natural numbers: a record's bytes, the record that bytes begin with, records one behind the other. Of any program.
  bytes.Equal and bytes.HasPrefix by their contracts.
  frame.head and frame.Make by their contracts.
  frame.One by its contract.
  frame.Scan by its contract.
  Few by its contract; a string's front.
-/
import Derived.Test.YtlakkhhibdcjaaaGreatDoorChecked
import Derived.Test.YtlakkhhibdcjaaaGreatDoorLow
import Derived.WalkKit
import Derived.Lib.Hide
import Derived.OwnWalk
import Derived.Laws.CopyOwn
import Derived.BigQuiet
import Derived.Deep.QuietTactic
import Derived.IntWalk
import Derived.LoopTactic
namespace Go.Proofs.YtlakkhhibdcjaaaGreatDoor
open Go.RowKit

theorem ret_int {k : IntKind} {a b : Int} (h : a = b) : Ending.returned (.int k a) = .returned (.int k b) := by rw [h]

/-- The step as the code writes it, without a branch. -/
theorem bits_cstep (q : Nat) (h : q < 4294967296) :
    bits .xor .u32 ((q : Int) / 2) (bits .and .u32 3988292384 (-bits .and .u32 (q : Int) 1 % 4294967296)) = ((cstep q : Nat) : Int) := by
  have e1 : bits .and .u32 (q : Int) 1 = ((q % 2 : Nat) : Int) := by
    have := u32_and_nat q 1 h (by omega)
    rw [Nat.and_one_is_mod] at this
    exact this
  have e0 : (q : Int) / 2 = ((q / 2 : Nat) : Int) := by omega
  rw [e1, e0]
  unfold cstep
  rcases Nat.mod_two_eq_zero_or_one q with hq | hq
  · rw [hq]
    have e2 : (-(((0 : Nat)) : Int)) % 4294967296 = ((0 : Nat) : Int) := by omega
    have e3 := u32_and_nat 3988292384 0 (by omega) (by omega)
    rw [Nat.and_zero] at e3
    rw [e2]
    show bits .xor .u32 _ (bits .and .u32 ((3988292384 : Nat) : Int) _) = _
    rw [e3, u32_xor_nat _ _ (by omega) (by omega), Nat.xor_zero, if_neg (by omega)]
  · rw [hq]
    have e2 : (-(((1 : Nat)) : Int)) % 4294967296 = ((4294967295 : Nat) : Int) := by omega
    have e3 := u32_and_nat 3988292384 4294967295 (by omega) (by omega)
    rw [show (3988292384 &&& 4294967295 : Nat) = 3988292384 from by decide] at e3
    rw [e2]
    show bits .xor .u32 _ (bits .and .u32 ((3988292384 : Nat) : Int) _) = _
    rw [e3, u32_xor_nat _ _ (by omega) (by omega), if_pos rfl]
    rfl

set_option maxRecDepth 100000 in
set_option maxHeartbeats 1000000 in
theorem shift_any (r : Nat) (w : World) (h : r < 4294967296) :
    Calls Tryz.prog 82 #[.int .u32 (r : Int)] w fun e w' => e = .returned (.int .u32 (citer 8 r : Nat)) ∧ w = w' := by
  go_enter Tryz.func82, Tryz.ntmps82
  go_wp2
  go_loop [0, 4] (fun x i => ∃ k : Nat, k ≤ 8 ∧ i = .int .i64 k ∧ x = .int .u32 (citer k r : Nat)) (fun _ i => 8 - (intOf i).toNat)
  case atStart => exact ⟨0, by omega, rfl, rfl⟩
  case round =>
    obtain ⟨k, hk, rfl, rfl⟩ := hrel
    have hq := citer_lt k h
    have HC := Lib.hid (show citer (k + 1) r = cstep (citer k r) from rfl)
    obtain ⟨q, hqe⟩ : ∃ q, q = citer k r := ⟨_, rfl⟩
    rw [← hqe] at hq HC ⊢
    have HQ := Lib.hid hqe
    clear hqe
    by_cases hlt : k < 8
    · go_wp2
      go_round
      case rel => exact ⟨k + 1, by omega, by go_num, by rw [bits_cstep q hq, ← HC.out]⟩
      case measure => simp [intOf]; omega
    · go_wp2
      go_ret
      obtain rfl : k = 8 := by omega
      exact ⟨by rw [← HQ.out]; rfl, rfl⟩
end Go.Proofs.YtlakkhhibdcjaaaGreatDoor

namespace Go.Proofs.YtlakkhhibdcjaaaGreatDoor
open Go.RowKit

theorem flip_xor (s : Nat) (h : s < 4294967296) : 4294967295 ^^^ s = 4294967295 - s := by
  have e := congrArg BitVec.toNat (BitVec.allOnes_xor (x := BitVec.ofNat 32 s))
  rw [BitVec.toNat_xor, BitVec.toNat_not, BitVec.toNat_allOnes, BitVec.toNat_ofNat] at e
  rw [Nat.mod_eq_of_lt (by omega)] at e
  exact e
theorem bits_flip (s : Nat) (h : s < 4294967296) : bits .xor .u32 IntKind.u32.max (s : Int) = ((4294967295 - s : Nat) : Int) := by
  rw [← flip_xor s h]
  exact u32_xor_nat 4294967295 s (by omega) h

theorem shift_at (z : Int) (r : Nat) (w : World) (h : r < 4294967296) (hz : z = (r : Int)) :
    Calls Tryz.prog 82 #[.int .u32 z] w fun e w' => e = .returned (.int .u32 (citer 8 r : Nat)) ∧ w = w' := by
  subst hz; exact shift_any r w h

theorem take_succ_nat (ns : List Nat) (k : Nat) (h : k < ns.length) : ns.take (k + 1) = ns.take k ++ [ns.getD k 0] := by
  rw [List.take_succ_eq_append_getElem h]
  simp [List.getD, h]

/-- What Write leaves in the register's cell. -/
def WriteRes (w : World) (ad : Addr) (q : Nat) (e : Ending) (w' : World) : Prop := e = .returned (.tuple #[]) ∧ w' = w.setCell ad (.int .u32 (q : Int))

set_option maxRecDepth 100000 in
set_option maxHeartbeats 2000000 in
theorem write_any (b o : Nat) (s : Nat) (A : Option Addr) (n c : Nat) (xs : List Nat) (w : World) (hs : s < 4294967296)
    (hc : w.cell? ⟨b, o, none⟩ = some (.int .u32 (s : Int))) (hf : w.frozen? ⟨b, o, none⟩ = false)
    (hr : Rd .u8 w A n (ints xs)) (hx : ∀ x ∈ xs, x < 256) (hn : n ≤ 9223372036854775807) :
    Calls Tryz.prog 77 #[.pointer (some ⟨b, o, none⟩), .slice A n c] w (WriteRes w ⟨b, o, none⟩ (4294967295 - creg (4294967295 - s) xs)) := by
  have hl : xs.length = n := by have := hr.1; rwa [ints_length] at this
  have HL := Lib.hid hl
  have HR := Lib.hid hr
  have HX := Lib.hid hx
  have HF := Lib.hid (bits_flip s hs)
  clear hl hr hx
  go_enter Tryz.func77, Tryz.ntmps77
  go_wp2
  go_loop [4, 14] (fun x i => ∃ k : Nat, k ≤ n ∧ i = .int .i64 k ∧ x = .int .u32 (creg (4294967295 - s) (xs.take k) : Nat)) (fun _ i => n - (intOf i).toNat)
  case atStart => exact ⟨0, by omega, rfl, by rw [HF.out]; rfl⟩
  case round =>
    obtain ⟨k, hk, rfl, rfl⟩ := hrel
    have hq : creg (4294967295 - s) (xs.take k) < 4294967296 := creg_lt _ (by omega) fun x hm => HX.out x (List.mem_of_mem_take hm)
    obtain ⟨q, hqe⟩ : ∃ q, q = creg (4294967295 - s) (xs.take k) := ⟨_, rfl⟩
    rw [← hqe] at hq ⊢
    have HQ := Lib.hid hqe
    clear hqe
    by_cases hlt : k < n
    · obtain ⟨ad, rfl, hcell⟩ := HR.out.at_ hlt
      rw [ints_getD] at hcell
      have hkl : k < xs.length := by rw [HL.out]; exact hlt
      have HT := Lib.hid (take_succ_nat xs k hkl)
      obtain ⟨x, hxe⟩ : ∃ x, x = xs.getD k 0 := ⟨_, rfl⟩
      rw [← hxe] at hcell HT
      have hx1 : x < 256 := HX.out x (by rw [hxe]; simp [List.getD, hkl])
      clear hxe hkl
      go_wp2_with fail
      refine (shift_at _ (q ^^^ x) _ (xor_lt32 hq (by omega)) (u32_xor_nat q x hq (by omega))).mono ?_
      rintro e w' ⟨rfl, rfl⟩
      go_wp2
      go_round
      case rel => exact ⟨k + 1, by omega, by go_num, by rw [HT.out, creg_snoc, ← HQ.out]⟩
      case measure => simp [intOf]; omega
    · have he : xs.take k = xs := List.take_of_length_le (by rw [HL.out]; omega)
      rw [he] at HQ
      clear he
      go_wp2
      go_end0
      exact ⟨rfl, by rw [bits_flip q hq, HQ.out]⟩

theorem total_any (b o : Nat) (s : Int) (w : World) (hc : w.cell? ⟨b, o, none⟩ = some (.int .u32 s)) :
    Calls Tryz.prog 78 #[.pointer (some ⟨b, o, none⟩)] w fun e w' => e = .returned (.int .u32 s) ∧ w = w' := by
  go_enter Tryz.func78, Tryz.ntmps78
  go_wp2
  go_ret
  exact ⟨rfl, rfl⟩

def SumRes (w : World) (q : Nat) (e : Ending) (w' : World) : Prop := e = .returned (.int .u32 (q : Int)) ∧ Below w.heap.size w w'

set_option maxRecDepth 100000 in
set_option maxHeartbeats 2000000 in
theorem sum_any (A : Option Addr) (n c : Nat) (xs : List Nat) (w : World) (hr : Rd .u8 w A n (ints xs)) (hx : ∀ x ∈ xs, x < 256) (hn : n ≤ 9223372036854775807) :
    Calls Tryz.prog 65 #[.slice A n c] w (SumRes w (csum xs)) := by
  have HR := Lib.hid hr
  have HX := Lib.hid hx
  clear hr hx
  go_enter Tryz.func65, Tryz.ntmps65
  go_wp2_with fail
  refine (write_any _ _ 0 A n c xs _ (by omega) (by simp) (by simp) (HR.out.alloc _) HX.out hn).mono ?_
  rintro e w' ⟨rfl, rfl⟩
  go_wp2_with fail
  refine (total_any _ _ (csum xs : Nat) _ (by simp [csum])).mono ?_
  rintro e w' ⟨rfl, rfl⟩
  go_wp2
  go_ret
  exact ⟨rfl, (Below.refl _ _).alloc (Nat.le_refl _) _⟩
end Go.Proofs.YtlakkhhibdcjaaaGreatDoor

namespace Go.Proofs.YtlakkhhibdcjaaaGreatDoor

theorem csum_inj {xs ys : List Nat} (hx : ∀ x ∈ xs, x < 256) (hy : ∀ y ∈ ys, y < 256) (h : csum xs = csum ys) : creg 4294967295 xs = creg 4294967295 ys := by
  have h1 := creg_lt xs (r := 4294967295) (by omega) hx
  have h2 := creg_lt ys (r := 4294967295) (by omega) hy
  unfold csum at h
  omega

theorem bytes_mid {p : List Nat} {a : Nat} {s : List Nat} (hp : ∀ x ∈ p, x < 256) (ha : a < 256) (hs : ∀ x ∈ s, x < 256) : ∀ x ∈ p ++ a :: s, x < 256 := by
  intro x hx
  rcases List.mem_append.1 hx with hx | hx
  · exact hp x hx
  · rcases List.mem_cons.1 hx with hx | hx
    · rw [hx]; exact ha
    · exact hs x hx

/-- Two rows of bytes that part at one place have the same sum just if they do not part there. -/
theorem csum_mid (p : List Nat) (a b : Nat) (s : List Nat) (hp : ∀ x ∈ p, x < 256) (ha : a < 256) (hb : b < 256) (hs : ∀ x ∈ s, x < 256)
    (h : csum (p ++ a :: s) = csum (p ++ b :: s)) : a = b := by
  have h1 := csum_inj (bytes_mid hp ha hs) (bytes_mid hp hb hs) h
  rw [creg_append, creg_append, creg_cons, creg_cons] at h1
  have hr := creg_lt p (r := 4294967295) (by omega) hp
  obtain ⟨r, hre⟩ : ∃ r, r = creg 4294967295 p := ⟨_, rfl⟩
  rw [← hre] at h1 hr
  have l1 := xor_lt32 hr (show a < 4294967296 by omega)
  have l2 := xor_lt32 hr (show b < 4294967296 by omega)
  have h2 := citer_inj 8 l1 l2 (creg_inj s hs (citer_lt 8 l1) (citer_lt 8 l2) h1)
  rw [Nat.xor_comm r a, Nat.xor_comm r b] at h2
  exact xor_cancel h2

theorem set_parts (xs : List Nat) (k y : Nat) (h : k < xs.length) : xs.set k y = xs.take k ++ y :: xs.drop (k + 1) := List.set_eq_take_append_cons_drop .. |>.trans (by rw [if_pos h])
theorem own_parts (xs : List Nat) (k : Nat) (h : k < xs.length) : xs = xs.take k ++ xs.getD k 0 :: xs.drop (k + 1) := by
  have h1 : xs.getD k 0 = xs[k] := by simp [List.getD, h]
  rw [h1, List.getElem_cons_drop, List.take_append_drop]

theorem xor_zero_of {a b : Nat} (h : a = a ^^^ b) : b = 0 := by
  have h2 : (0 : Nat) ^^^ a = b ^^^ a := by rw [Nat.zero_xor, Nat.xor_comm b a]; exact h
  exact (xor_cancel h2).symm

/-- A byte that is turned is seen by the sum. -/
theorem csum_set (xs : List Nat) (hx : ∀ x ∈ xs, x < 256) (k b : Nat) (hk : k < xs.length) (hb : b < 256) (h : csum xs = csum (xs.set k (xs.getD k 0 ^^^ b))) : b = 0 := by
  have hxk : xs.getD k 0 < 256 := by
    have h1 : xs.getD k 0 = xs[k] := by simp [List.getD, hk]
    rw [h1]; exact hx _ (List.getElem_mem hk)
  rw [set_parts xs k _ hk] at h
  have h2 : csum (xs.take k ++ xs.getD k 0 :: xs.drop (k + 1)) = csum (xs.take k ++ (xs.getD k 0 ^^^ b) :: xs.drop (k + 1)) := by
    rw [← h, ← own_parts xs k hk]
  exact xor_zero_of (csum_mid _ _ _ _ (fun x hm => hx x (List.mem_of_mem_take hm)) hxk (Nat.xor_lt_two_pow (n := 8) hxk hb) (fun x hm => hx x (List.mem_of_mem_drop hm)) h2)

/-- Two bytes behind the same ones. -/
theorem csum_last (p : List Nat) (a b : Nat) (hp : ∀ x ∈ p, x < 256) (ha : a < 256) (hb : b < 256) (h : csum (p ++ [a]) = csum (p ++ [b])) : a = b :=
  csum_mid p a b [] hp ha hb (by simp) h

/-- Rows turned into one another. -/
def mix : List Nat → List Nat → List Nat → List Nat
  | a :: xas, b :: bs, c :: cs => (a ^^^ b ^^^ c) :: mix xas bs cs
  | _, _, _ => []

theorem xor_six (a b c d e f : Nat) : (a ^^^ b ^^^ c) ^^^ (d ^^^ e ^^^ f) = (a ^^^ d) ^^^ (b ^^^ e) ^^^ (c ^^^ f) := by
  rw [xor_four (a ^^^ b) c (d ^^^ e) f, xor_four a b d e]

theorem creg_mix : ∀ (xas bs cs : List Nat), xas.length = bs.length → xas.length = cs.length → ∀ r s t, creg (r ^^^ s ^^^ t) (mix xas bs cs) = creg r xas ^^^ creg s bs ^^^ creg t cs
  | [], bs, cs, hb, hc, r, s, t => by
    have e1 : bs = [] := List.eq_nil_of_length_eq_zero hb.symm
    have e2 : cs = [] := List.eq_nil_of_length_eq_zero hc.symm
    subst e1 e2
    rfl
  | a :: xas, [], cs, hb, hc, r, s, t => by simp at hb
  | a :: xas, b :: bs, [], hb, hc, r, s, t => by simp at hc
  | a :: xas, b :: bs, c :: cs, hb, hc, r, s, t => by
    rw [mix, creg_cons, creg_cons, creg_cons, creg_cons, xor_six, citer_xor, citer_xor]
    exact creg_mix xas bs cs (by simpa using hb) (by simpa using hc) _ _ _
end Go.Proofs.YtlakkhhibdcjaaaGreatDoor

namespace Go.Proofs.YtlakkhhibdcjaaaGreatDoor

theorem csum_lt32 (p : List Nat) : csum p < 4294967296 := by unfold csum; omega

/-- Six bytes of a length and a sum. -/
def hdOf (n s : Nat) : List Nat := [n / 256 % 256, n % 256, s / 16777216 % 256, s / 65536 % 256, s / 256 % 256, s % 256]
/-- What stands ahead of a record. -/
def fhd (xs : List Nat) : List Nat := hdOf xs.length (csum xs)
/-- A record's bytes. -/
def fmk (xs : List Nat) : List Nat := fhd xs ++ xs
/-- The record that bytes begin with. -/
def fone (bs : List Nat) : Option (List Nat) :=
  if bs.length < 6 then none
  else if 16384 < bs.getD 0 0 * 256 + bs.getD 1 0 ∨ bs.length - 6 < bs.getD 0 0 * 256 + bs.getD 1 0 then none
  else if bs.take 6 = fhd ((bs.drop 6).take (bs.getD 0 0 * 256 + bs.getD 1 0)) then some ((bs.drop 6).take (bs.getD 0 0 * 256 + bs.getD 1 0)) else none

theorem hdOf_lt (n s : Nat) : ∀ x ∈ hdOf n s, x < 256 := by
  intro x hx
  simp only [hdOf, List.mem_cons, List.not_mem_nil, or_false] at hx
  omega
theorem fhd_length (xs : List Nat) : (fhd xs).length = 6 := rfl
theorem fmk_length (xs : List Nat) : (fmk xs).length = 6 + xs.length := by rw [fmk, List.length_append, fhd_length]
theorem fmk_lt {xs : List Nat} (h : ∀ x ∈ xs, x < 256) : ∀ x ∈ fmk xs, x < 256 := by
  intro x hx
  rcases List.mem_append.1 hx with hx | hx
  · exact hdOf_lt _ _ x hx
  · exact h x hx
theorem hdOf_inj {n n' s s' : Nat} (hn : n < 65536) (hn' : n' < 65536) (hs : s < 4294967296) (hs' : s' < 4294967296) (h : hdOf n s = hdOf n' s') : n = n' ∧ s = s' := by
  simp only [hdOf, List.cons.injEq, and_true] at h
  omega

theorem fmk_size (xs rest : List Nat) (h : xs.length ≤ 16384) : (fmk xs ++ rest).getD 0 0 * 256 + (fmk xs ++ rest).getD 1 0 = xs.length := by
  simp only [fmk, fhd, hdOf, List.cons_append, List.nil_append, List.getD_cons_zero, List.getD_cons_succ]
  omega
theorem fmk_take (xs rest : List Nat) : (fmk xs ++ rest).take 6 = fhd xs := by
  rw [fmk, List.append_assoc, List.take_left' (fhd_length xs)]
theorem fmk_drop (xs rest : List Nat) : (fmk xs ++ rest).drop 6 = xs ++ rest := by
  rw [fmk, List.append_assoc, List.drop_left' (fhd_length xs)]

theorem fone_mk (xs rest : List Nat) (h : xs.length ≤ 16384) : fone (fmk xs ++ rest) = some xs := by
  have hl : (fmk xs ++ rest).length = 6 + xs.length + rest.length := by rw [List.length_append, fmk_length]
  unfold fone
  rw [fmk_size xs rest h, fmk_take, fmk_drop, List.take_left' rfl, if_neg (by omega), if_neg (by omega), if_pos rfl]

theorem fone_some {bs r : List Nat} (h : fone bs = some r) : r.length ≤ 16384 ∧ 6 + r.length ≤ bs.length ∧ bs.take (6 + r.length) = fmk r ∧ r = (bs.drop 6).take r.length ∧ bs.getD 0 0 * 256 + bs.getD 1 0 = r.length := by
  unfold fone at h
  split at h
  · cases h
  · split at h
    · cases h
    · split at h
      · rename_i h1 h2 h3
        injection h with h
        have hl : r.length = bs.getD 0 0 * 256 + bs.getD 1 0 := by rw [← h, List.length_take, List.length_drop]; omega
        rw [h] at h3
        have h4 : r = (bs.drop 6).take r.length := by rw [hl, h]
        exact ⟨by omega, by omega, by rw [List.take_add, h3, ← h4, fmk], h4, hl.symm⟩
      · cases h
theorem fone_split {bs r : List Nat} (h : fone bs = some r) : bs = fmk r ++ bs.drop (6 + r.length) := by
  conv => lhs; rw [← List.take_append_drop (6 + r.length) bs, (fone_some h).2.2.1]
theorem fone_short {bs : List Nat} (h : bs.length < 6) : fone bs = none := by unfold fone; rw [if_pos h]

/-- A record of which the end is missing is none. -/
theorem fone_cut (xs : List Nat) (k : Nat) (h : xs.length ≤ 16384) (hk : k < (fmk xs).length) : fone ((fmk xs).take k) = none := by
  rw [fmk_length] at hk
  have hl : ((fmk xs).take k).length = k := by rw [List.length_take, fmk_length]; omega
  by_cases h6 : k < 6
  · exact fone_short (by omega)
  · have h0 : ∀ j, j < 2 → ((fmk xs).take k).getD j 0 = (fmk xs).getD j 0 := by
      intro j hj
      simp only [List.getD, List.getElem?_take]
      rw [if_pos (by omega)]
    have h1 := fmk_size xs [] h
    rw [List.append_nil] at h1
    unfold fone
    rw [h0 0 (by omega), h0 1 (by omega), h1, if_neg (by omega), if_pos (by omega)]

/-- A record of which a byte of its sum, or of its own, is turned is none. -/
theorem fone_turned (xs : List Nat) (hx : ∀ x ∈ xs, x < 256) (k b : Nat) (h : xs.length ≤ 16384) (hk2 : 2 ≤ k) (hk : k < (fmk xs).length) (hb : b < 256) (hb0 : b ≠ 0) :
    fone ((fmk xs).set k ((fmk xs).getD k 0 ^^^ b)) = none := by
  rw [fmk_length] at hk
  have h0 : ∀ y j, j < 2 → ((fmk xs).set k y).getD j 0 = (fmk xs).getD j 0 := by
    intro y j hj
    simp only [List.getD]
    rw [List.getElem?_set_ne (by omega)]
  have h1 := fmk_size xs [] h
  have ht := fmk_take xs []
  have hd := fmk_drop xs []
  rw [List.append_nil] at h1 ht hd
  rw [List.append_nil] at hd
  unfold fone
  rw [h0 _ 0 (by omega), h0 _ 1 (by omega), h1, List.length_set, fmk_length, if_neg (by omega), if_neg (by omega), List.take_set, List.drop_set, ht, hd]
  by_cases h6 : k < 6
  · rw [if_pos h6, List.take_of_length_le (Nat.le_refl _)]
    refine if_neg fun he => hb0 ?_
    have h2 : (fmk xs).getD k 0 = (fhd xs).getD k 0 := by
      simp only [List.getD, fmk]
      rw [List.getElem?_append_left (by rw [fhd_length]; exact h6)]
    rw [h2] at he
    obtain ⟨y, hy⟩ : ∃ y, y = (fhd xs).getD k 0 := ⟨_, rfl⟩
    rw [← hy] at he
    have h3 := congrArg (fun l => l.getD k 0) he
    simp only [List.getD] at h3
    rw [List.getElem?_set_self (by rw [fhd_length]; exact h6)] at h3
    simp only [Option.getD_some] at h3
    have h4 : y ^^^ b = y := by rw [h3, hy, List.getD]
    exact xor_zero_of h4.symm
  · rw [if_neg h6, List.set_eq_of_length_le (by rw [fhd_length]; omega), List.take_of_length_le (by rw [List.length_set]; exact Nat.le_refl _)]
    refine if_neg fun he => hb0 ?_
    have h2 : (fmk xs).getD k 0 = xs.getD (k - 6) 0 := by
      simp only [List.getD, fmk]
      rw [List.getElem?_append_right (by rw [fhd_length]; omega), fhd_length]
    rw [h2] at he
    have h3 := (hdOf_inj (by omega) (by rw [List.length_set]; omega) (csum_lt32 _) (csum_lt32 _) he).2
    exact csum_set xs hx (k - 6) b (by omega) hb h3

/-- Records' bytes, one behind the other. -/
def flat (rs : List (List Nat)) : List Nat := rs.flatMap fmk
theorem flat_nil : flat [] = [] := rfl
theorem flat_cons (r : List Nat) (rs : List (List Nat)) : flat (r :: rs) = fmk r ++ flat rs := rfl
theorem flat_append (a b : List (List Nat)) : flat (a ++ b) = flat a ++ flat b := by simp [flat]
theorem flat_one (r : List Nat) : flat [r] = fmk r := by rw [flat_cons, flat_nil, List.append_nil]
theorem flat_snoc (rs : List (List Nat)) (r : List Nat) : flat (rs ++ [r]) = flat rs ++ fmk r := by rw [flat_append, flat_one]
theorem flat_len (rs : List (List Nat)) : 6 * rs.length ≤ (flat rs).length := by
  induction rs with
  | nil => simp
  | cons r rs ih => rw [flat_cons, List.length_append, fmk_length, List.length_cons]; omega

/-- The records of bytes, as many as there are. -/
def Scanned (bs : List Nat) (rs : List (List Nat)) : Prop := (∀ r ∈ rs, r.length ≤ 16384) ∧ ∃ t, bs = flat rs ++ t ∧ fone t = none

theorem Scanned.none_ {bs : List Nat} {rs : List (List Nat)} (h : Scanned bs rs) (h0 : fone bs = none) : rs = [] := by
  obtain ⟨hl, t, rfl, _⟩ := h
  cases rs with
  | nil => rfl
  | cons r rs =>
    rw [flat_cons, List.append_assoc, fone_mk r _ (hl r (by simp))] at h0
    cases h0
theorem Scanned.some_ {r bs : List Nat} {rs : List (List Nat)} (hr : r.length ≤ 16384) (h : Scanned (fmk r ++ bs) rs) : ∃ rs', rs = r :: rs' ∧ Scanned bs rs' := by
  obtain ⟨hl, t, he, hn⟩ := h
  cases rs with
  | nil =>
    rw [flat_nil, List.nil_append] at he
    rw [← he, fone_mk r _ hr] at hn
    cases hn
  | cons r' rs =>
    have h1 := fone_mk r bs hr
    rw [he, flat_cons, List.append_assoc, fone_mk r' _ (hl r' (by simp))] at h1
    injection h1 with h1
    subst h1
    rw [flat_cons, List.append_assoc] at he
    exact ⟨rs, rfl, fun x hx => hl x (by simp [hx]), t, List.append_cancel_left he, hn⟩

/-- Records that are whole come first. -/
theorem Scanned.all (rs : List (List Nat)) (hr : ∀ r ∈ rs, r.length ≤ 16384) : ∀ {tail : List Nat} {ys : List (List Nat)}, Scanned (flat rs ++ tail) ys → ∃ zs, ys = rs ++ zs := by
  induction rs with
  | nil => exact fun {_ ys} _ => ⟨ys, rfl⟩
  | cons r rs ih =>
    intro tail ys h
    rw [flat_cons, List.append_assoc] at h
    obtain ⟨ys', rfl, h'⟩ := Scanned.some_ (hr r (by simp)) h
    obtain ⟨zs, rfl⟩ := ih (fun x hx => hr x (by simp [hx])) h'
    exact ⟨zs, rfl⟩

/-- Of records that are cut somewhere, those are read that end ahead of the cut. -/
theorem Scanned.cut (rs : List (List Nat)) (hr : ∀ r ∈ rs, r.length ≤ 16384) : ∀ {k : Nat} {ys : List (List Nat)}, k ≤ (flat rs).length → Scanned ((flat rs).take k) ys →
    ys = rs.take ys.length ∧ (flat ys).length ≤ k ∧ (ys.length < rs.length → k < (flat (rs.take (ys.length + 1))).length) := by
  induction rs with
  | nil =>
    intro k ys hk h
    have h0 := h.none_ (by rw [flat_nil, List.take_nil]; exact fone_short (by simp))
    subst h0
    exact ⟨rfl, by simp [flat_nil], by simp⟩
  | cons r rs ih =>
    intro k ys hk h
    rw [flat_cons] at h hk
    by_cases hc : k < (fmk r).length
    · have h0 := h.none_ (by rw [List.take_append_of_le_length (by omega)]; exact fone_cut r k (hr r (by simp)) hc)
      subst h0
      exact ⟨rfl, by simp [flat_nil], fun _ => by simp only [List.length_nil, Nat.zero_add, List.take_succ_cons, List.take_zero, flat_one]; exact hc⟩
    · rw [List.take_append, List.take_of_length_le (by omega)] at h
      obtain ⟨ys', rfl, h'⟩ := Scanned.some_ (hr r (by simp)) h
      rw [List.length_append] at hk
      obtain ⟨h1, h2, h3⟩ := ih (fun x hx => hr x (by simp [hx])) (by omega) h'
      refine ⟨by rw [List.length_cons, List.take_succ_cons, ← h1], by rw [flat_cons, List.length_append]; omega, fun hlt => ?_⟩
      rw [List.length_cons] at hlt ⊢
      rw [List.length_cons] at hlt
      rw [List.take_succ_cons, flat_cons, List.length_append]
      have := h3 (by omega)
      omega
end Go.Proofs.YtlakkhhibdcjaaaGreatDoor

namespace Go.Proofs.YtlakkhhibdcjaaaGreatDoor
open Go.RowKit

theorem equal_any (A : Option Addr) (n c : Nat) (xs : List Nat) (B : Option Addr) (m d : Nat) (ys : List Nat) (w : World) (hr : Rd .u8 w A n (ints xs)) (hs : Rd .u8 w B m (ints ys)) (hx : ∀ x ∈ xs, x < 256) (hy : ∀ x ∈ ys, x < 256) :
    Calls Tryz.prog 67 #[.slice A n c, .slice B m d] w fun e w' => e = .returned (.bool (decide (xs = ys))) ∧ w = w' := by
  have h1 := str_of w A n c xs hr
  have h2 := str_of w B m d ys hs
  have h3 := strN_beq hx hy
  clear hr hs
  go_enter Tryz.func67, Tryz.ntmps67
  go_wp2
  go_ret
  exact ⟨rfl, rfl⟩

/-- Whether bytes begin with some that are no more. -/
theorem prefix_any (A : Option Addr) (n c : Nat) (xs : List Nat) (B : Option Addr) (m d : Nat) (ys : List Nat) (w : World) (hr : Rd .u8 w A n (ints xs)) (hs : Rd .u8 w B m (ints ys)) (hx : ∀ x ∈ xs, x < 256) (hy : ∀ x ∈ ys, x < 256) (hnc : n ≤ c) (hm : m ≤ n) :
    Calls Tryz.prog 49 #[.slice A n c, .slice B m d] w fun e w' => e = .returned (.bool (decide (xs.take m = ys))) ∧ w = w' := by
  have h1 := fun W => run_front W A n c m (by omega)
  have HR := Lib.hid hr
  have HS := Lib.hid hs
  clear hr hs
  go_enter Tryz.func49, Tryz.ntmps49
  go_wp2_with fail
  refine (equal_any A m c (xs.take m) B m d ys w (by rw [← ints_take]; exact HR.out.front hm) HS.out (fun x h => hx x (List.mem_of_mem_take h)) hy).mono ?_
  rintro e w1 ⟨rfl, rfl⟩
  go_wp2
  go_ret
  exact ⟨rfl, rfl⟩
end Go.Proofs.YtlakkhhibdcjaaaGreatDoor

namespace Go.Proofs.YtlakkhhibdcjaaaGreatDoor
open Go.RowKit
set_option linter.unusedVariables false

theorem Rd.six {k : IntKind} {w : World} {t : TypeId} (a b c d e f : Int) : Rd k (w.alloc (.cells #[.int k a, .int k b, .int k c, .int k d, .int k e, .int k f] t)) (some ⟨w.heap.size, 0, none⟩) 6 [a, b, c, d, e, f] :=
  ⟨rfl, fun _ => ⟨_, rfl, fun j hj => by
    rcases (show j = 0 ∨ j = 1 ∨ j = 2 ∨ j = 3 ∨ j = 4 ∨ j = 5 by omega) with rfl | rfl | rfl | rfl | rfl | rfl <;> simp [Addr.add]⟩⟩

theorem ints_hd (n s : Nat) (hn : n < 65536) (hs : s < 4294967296) :
    ints (hdOf n s) = [(n : Int) / 256, (n : Int) % 256, (s : Int) / 16777216, (s : Int) / 65536 % 256, (s : Int) / 256 % 256, (s : Int) % 256] := by
  simp only [ints, hdOf, List.map_cons, List.map_nil, List.cons.injEq, and_true]
  omega

/-- It hands back bytes that are there, in memory of its own. -/
def NewRes (w : World) (xs : List Nat) (e : Ending) (w' : World) : Prop :=
  ∃ A c, e = .returned (.slice A xs.length c) ∧ xs.length ≤ c ∧ c ≤ maxLen ∧ Rd .u8 w' A xs.length (ints xs) ∧ Below w.heap.size w w'

set_option maxRecDepth 100000 in
set_option maxHeartbeats 2000000 in
theorem head_any (A : Option Addr) (n c : Nat) (xs : List Nat) (w : World) (hr : Rd .u8 w A n (ints xs)) (hx : ∀ x ∈ xs, x < 256) (hn : n ≤ 16384) :
    Calls Tryz.prog 45 #[.slice A n c] w (NewRes w (fhd xs)) := by
  have hl : xs.length = n := by have := hr.1; rwa [ints_length] at this
  have HL := Lib.hid hl
  have HR := Lib.hid hr
  have HX := Lib.hid hx
  have hs := csum_lt32 xs
  obtain ⟨s, hse⟩ : ∃ s, s = csum xs := ⟨_, rfl⟩
  rw [← hse] at hs
  have HS := Lib.hid hse
  clear hl hr hx hse
  go_enter Tryz.func45, Tryz.ntmps45
  go_wp2_with fail
  refine (sum_any A n c xs w HR.out HX.out (by omega)).mono ?_
  rintro e w1 ⟨rfl, hb⟩
  rw [← HS.out]
  have HB := Lib.hid hb
  clear hb
  go_wp2
  go_ret
  refine ⟨some ⟨w1.heap.size, 0, none⟩, 6, rfl, Nat.le_refl _, by simp [maxLen], ?_, HB.out.alloc HB.out.size _⟩
  have h := Rd.six (k := .u8) (w := w1) (t := 5) ((n : Int) / 256) ((n : Int) % 256) ((s : Int) / 16777216) ((s : Int) / 65536 % 256) ((s : Int) / 256 % 256) ((s : Int) % 256)
  rw [← ints_hd n s (by omega) hs] at h
  unfold fhd
  rw [HL.out, ← HS.out]
  exact h

/-- Make's answer to a record that is not too long. -/
def MadeRes (w : World) (xs : List Nat) (e : Ending) (w' : World) : Prop :=
  ∃ A c, e = .returned (.tuple #[.slice A xs.length c, .bool true]) ∧ xs.length ≤ c ∧ c ≤ maxLen ∧ Rd .u8 w' A xs.length (ints xs) ∧ Below w.heap.size w w'

theorem make_long (A : Option Addr) (n c : Nat) (w : World) (hn : 16384 < n) (hn' : n ≤ 9223372036854775807) :
    Calls Tryz.prog 22 #[.slice A n c] w fun e w' => e = .returned (.tuple #[.slice none 0 0, .bool false]) ∧ w = w' := by
  go_enter Tryz.func22, Tryz.ntmps22
  go_wp2
  go_ret2
  exact ⟨rfl, rfl⟩

theorem own_room (w : World) (n : Nat) (hn : n ≤ maxLen) : Own 5 .u8 (w.alloc (.cells (madeCells #[.int .u8 0] n) 5)) w.heap.size (.slice (some ⟨w.heap.size, 0, none⟩) 0 n) 0 (ints []) :=
  ⟨rfl, .inr ⟨w.heap.size, n, _, rfl, Nat.le_refl _, heap_alloc_new w _, Nat.zero_le _, hn, by simp [madeCells], by simp [ints]⟩⟩

set_option maxRecDepth 100000 in
set_option maxHeartbeats 2000000 in
theorem make_any (A : Option Addr) (n c : Nat) (xs : List Nat) (w : World) (hr : Rd .u8 w A n (ints xs)) (hx : ∀ x ∈ xs, x < 256) (hn : n ≤ 16384) :
    Calls Tryz.prog 22 #[.slice A n c] w (MadeRes w (fmk xs)) := by
  have hl : xs.length = n := by have := hr.1; rwa [ints_length] at this
  have HL := Lib.hid hl
  have HR := Lib.hid hr
  have HX := Lib.hid hx
  have hmk : ∀ W : World, (Instr.makeSlice 34 (.int .i64 0) (.int .i64 (6 + (n : Int)))).run Tryz.prog W = .ok (.slice (some ⟨W.heap.size, 0, none⟩) 0 (6 + n)) (W.alloc (.cells (madeCells #[.int .u8 0] (6 + n)) 5)) := by
    intro W
    obtain ⟨i0, hi, hz0, hz1, hz2⟩ := info_parts info_byte
    have h := run_make (P := Tryz.prog) W 34 5 i0 (.int .u8 0) Tryz.underlying34 hi hz0 .i64 .i64 0 (6 + (n : Int)) (by omega) (by omega) (by rw [hz2]; omega) (by omega)
    rw [hz1] at h
    have e2 : (6 + (n : Int)).toNat = 6 + n := by omega
    rw [e2, Nat.mul_one] at h
    exact h
  clear hl hr hx
  go_enter Tryz.func22, Tryz.ntmps22
  go_wp2_with fail
  refine (head_any A n c xs _ (HR.out.alloc _) HX.out hn).mono ?_
  rintro e w1 ⟨B, d, rfl, _, _, hrb, hb⟩
  have hsz : w.heap.size ≤ w1.heap.size := by have := hb.size; simp at this; omega
  have hb0 : Below w.heap.size w w1 := ((Below.refl _ _).alloc (Nat.le_refl _) _).trans (hb.mono (by simp))
  have ho := (own_room w (6 + n) (by simp only [maxLen]; omega)).below hb
  have HB := Lib.hid hb0
  have HO := Lib.hid ho
  have HRB := Lib.hid hrb
  rw [fhd_length] at *
  clear hb hb0 ho hrb hmk
  go_wp2_with (first
    | (at_builtin
       refine wpList_append_ints _ rfl (.tmp 12) (.tmp 14) 34 rfl .u8 1 w.heap.size 5 Tryz.underlying34 info_byte _ 0 _ rfl HO.out B 6 d _ rfl HRB.out (by omega) (by omega) hsz ?_
       intro v2 w2 ho2 hg2
       have hb2 : Below w.heap.size w w2 := HB.out.grown hg2 hsz (fun g he => by have he' : some w.heap.size = some g := he; injection he' with he'; omega)
       have HB2 := Lib.hid hb2
       have hsz2 := hb2.size
       rw [Nat.zero_add] at ho2
       have hrow := ho2.rowLt
       have HO2 := Lib.hid ho2
       have HROW := Lib.hid hrow
       clear ho2 hg2 hb2 HO HRB HB hsz hrow)
    | (at_builtin
       refine wpList_append_ints _ rfl (.tmp 16) (.tmp 17) 34 rfl .u8 1 w.heap.size 5 Tryz.underlying34 info_byte _ 6 _ rfl HO2.out A n c _ rfl (HR.out.below HB2.out) (by omega) (by omega) hsz2 ?_
       intro v3 w3 ho3 hg3))
  have hb3 : Below w.heap.size w w3 := HB2.out.grown hg3 hsz2 HROW.out
  have he : ints [] ++ ints (fhd xs) ++ ints xs = ints (fmk xs) := by rw [fmk, ints_append]; rfl
  rw [he] at ho3
  have hlen : 6 + n = (fmk xs).length := by rw [fmk_length, HL.out]
  rw [hlen] at ho3
  obtain ⟨A3, c3, rfl, h1, h2, hr3, _⟩ := ho3.form
  have HR3 := Lib.hid hr3
  have HB3 := Lib.hid hb3
  clear ho3 hg3 hb3 hr3 he hlen HO2 HROW
  go_wp2
  go_ret2
  exact ⟨A3, c3, rfl, h1, h2, HR3.out, HB3.out⟩
end Go.Proofs.YtlakkhhibdcjaaaGreatDoor

namespace Go.Proofs.YtlakkhhibdcjaaaGreatDoor
open Go.RowKit
set_option linter.unusedVariables false

/-- One's answer. -/
def OneRes (w : World) (o : Option (List Nat)) (e : Ending) (w' : World) : Prop :=
  Below w.heap.size w w' ∧ match o with
  | none => e = .returned (.tuple #[.slice none 0 0, .int .i64 0, .bool false])
  | some r => ∃ A c, e = .returned (.tuple #[.slice A r.length c, .int .i64 (6 + (r.length : Int)), .bool true]) ∧ r.length ≤ c ∧ c ≤ maxLen ∧ Rd .u8 w' A r.length (ints r) ∧ ∀ ad, A = some ad → w.heap.size ≤ ad.block

theorem run_mid (W : World) (A : Option Addr) (n c j k : Nat) (hj : j ≤ k) (hk : k ≤ c) : (Instr.sliceAt 34 (.slice A n c) (some (.int .i64 (j : Int))) (some (.int .i64 (k : Int))) none).run Tryz.prog W = .ok (.slice (if c = j then A else A.map (·.add j)) (k - j) (c - j)) W := by
  rw [run_sliceAt_slice _ _ _ _ _ _ byte_slice, run_slice_lh W _ _ _ _ byte_slice _ _ _ _ (by omega) (by omega) (by omega), byte_size]
  simp [Result.andThen, sliced]

theorem size_or (x y : Nat) (hx : x < 256) (hy : y < 256) : bits .or .i64 ((x : Int) * 256) (y : Int) = ((x * 256 + y : Nat) : Int) := by
  have e1 : (BitVec.ofInt 64 ((x : Int) * 256)).toNat = x * 256 := by rw [BitVec.toNat_ofInt]; omega
  have e2 : (BitVec.ofInt 64 (y : Int)).toNat = y := by rw [BitVec.toNat_ofInt]; omega
  show IntKind.i64.wrap ((BitVec.ofInt 64 ((x : Int) * 256) ||| BitVec.ofInt 64 (y : Int)).toNat : Int) = _
  rw [BitVec.toNat_or, e1, e2, nat_join8 _ y (by omega) hy, IntWalk.i64_in _ ⟨by omega, by omega⟩]

set_option maxRecDepth 100000 in
set_option maxHeartbeats 2000000 in
theorem one_any (A : Option Addr) (n c : Nat) (xs : List Nat) (w : World) (hr : Rd .u8 w A n (ints xs)) (hx : ∀ x ∈ xs, x < 256) (hnc : n ≤ c) (hcm : c ≤ 9223372036854775807) (o : Option (List Nat)) (ho : fone xs = o) :
    Calls Tryz.prog 25 #[.slice A n c] w (OneRes w o) := by
  have hl : xs.length = n := by have := hr.1; rwa [ints_length] at this
  have HL := Lib.hid hl
  have HR := Lib.hid hr
  have HX := Lib.hid hx
  have HO := Lib.hid ho
  clear hl hr hx ho
  by_cases h6 : n < 6
  · obtain rfl : o = none := by rw [← HO.out]; exact fone_short (by rw [HL.out]; exact h6)
    go_enter Tryz.func25, Tryz.ntmps25
    go_wp2
    go_ret3
    exact ⟨Below.refl _ _, rfl⟩
  · obtain ⟨ad, rfl, hcells⟩ := HR.out.2 (by omega)
    have c0 := hcells 0 (by omega)
    have c1 := hcells 1 (by omega)
    rw [ints_getD] at c0 c1
    rw [show ad.add 0 = ad from rfl] at c0
    rw [show ad.add 1 = ⟨ad.block, ad.off + 1, none⟩ from rfl] at c1
    have hb : ∀ j, j < n → xs.getD j 0 < 256 := by
      intro j hj
      have hj' : j < xs.length := by rw [HL.out]; exact hj
      have h1 : xs.getD j 0 = xs[j] := by simp [List.getD, hj']
      rw [h1]; exact HX.out _ (List.getElem_mem hj')
    have b0 := hb 0 (by omega)
    have b1 := hb 1 (by omega)
    obtain ⟨x, hxe⟩ : ∃ x, x = xs.getD 0 0 := ⟨_, rfl⟩
    obtain ⟨y, hye⟩ : ∃ y, y = xs.getD 1 0 := ⟨_, rfl⟩
    rw [← hxe] at c0 b0
    rw [← hye] at c1 b1
    have HXE := Lib.hid hxe
    have HYE := Lib.hid hye
    clear hcells hb hxe hye
    go_enter Tryz.func25, Tryz.ntmps25
    go_wp2_with fail
    have i0 : (0 : Int) < (n : Int) := by omega
    have i1 : (1 : Int) < (n : Int) := by omega
    go_region
    rw [size_or x y b0 b1]
    obtain ⟨z, hz⟩ : ∃ z, z = x * 256 + y := ⟨_, rfl⟩
    rw [← hz]
    have hzx : xs.getD 0 0 * 256 + xs.getD 1 0 = z := by rw [← HXE.out, ← HYE.out, hz]
    have HZ := Lib.hid hzx
    clear hz hzx c0 c1 b0 b1 i0 i1 HXE HYE
    by_cases hbig : 16384 < z
    · obtain rfl : o = none := by
        rw [← HO.out]
        unfold fone
        rw [HZ.out, HL.out, if_neg h6, if_pos (.inl hbig)]
      go_wp2
      go_ret3
      exact ⟨(Below.refl _ _).drew, rfl⟩
    · by_cases hlong : n - 6 < z
      · obtain rfl : o = none := by
          rw [← HO.out]
          unfold fone
          rw [HZ.out, HL.out, if_neg h6, if_pos (.inr hlong)]
        go_wp2
        go_ret3
        exact ⟨(Below.refl _ _).drew, rfl⟩
      · have hs : ∀ W : World, (Instr.sliceAt 34 (.slice (some ad) n c) (some (.int .i64 6)) (some (.int .i64 (6 + (z : Int)))) none).run Tryz.prog W = .ok (.slice (if c = 6 then some ad else (some ad).map (·.add 6)) z (c - 6)) W := by
          intro W
          have h := run_mid W (some ad) n c 6 (6 + z) (by omega) (by omega)
          rw [show (((6 + z : Nat)) : Int) = 6 + (z : Int) by omega, show 6 + z - 6 = z by omega] at h
          exact h
        have hrd : Rd .u8 w.drew (if c = 6 then some ad else (some ad).map (·.add 6)) z (ints ((xs.drop 6).take z)) := by
          have h := (HR.out.drew.cut (j := 6) (by omega) hnc).front (j := z) (by omega)
          rw [ints_drop, ints_take] at h
          exact h
        obtain ⟨A', hA'⟩ : ∃ A', A' = (if c = 6 then some ad else (some ad).map (·.add 6)) := ⟨_, rfl⟩
        rw [← hA'] at hs hrd
        obtain ⟨r, hre⟩ : ∃ r, r = (xs.drop 6).take z := ⟨_, rfl⟩
        rw [← hre] at hrd
        have hrl : r.length = z := by rw [hre, List.length_take, List.length_drop, HL.out]; omega
        have hfo : fone xs = if xs.take 6 = fhd r then some r else none := by
          unfold fone
          rw [HZ.out, HL.out, if_neg h6, if_neg (by omega), ← hre]
        have HFO := Lib.hid hfo
        have HRD := Lib.hid hrd
        have HRL := Lib.hid hrl
        have HRX := Lib.hid (show ∀ x ∈ r, x < 256 from fun x hm => HX.out x (by rw [hre] at hm; exact List.mem_of_mem_drop (List.mem_of_mem_take hm)))
        obtain ⟨c', hc'⟩ : ∃ c', c' = c - 6 := ⟨_, rfl⟩
        rw [← hc'] at hs
        clear hA' hre hrd hrl hc' hfo
        go_wp2_with fail
        refine (head_any A' z c' r _ HRD.out HRX.out (by omega)).mono ?_
        rintro e w1 ⟨B, d, rfl, _, _, hrb, hb⟩
        have HRB := Lib.hid hrb
        have HB := Lib.hid ((Below.refl w.heap.size w).drew.trans hb)
        have HRD1 := Lib.hid (HRD.out.below hb)
        rw [fhd_length] at *
        clear hrb hb hs
        go_wp2_with fail
        refine (prefix_any (some ad) n c xs B 6 d (fhd r) w1 (HR.out.below HB.out) HRB.out HX.out (hdOf_lt _ _) hnc (by omega)).mono ?_
        rintro e w2 ⟨rfl, rfl⟩
        by_cases hp : xs.take 6 = fhd r
        · obtain rfl : o = some r := by rw [← HO.out, HFO.out, if_pos hp]
          have hpd : decide (xs.take 6 = fhd r) = true := by simp [hp]
          rw [hpd]
          clear hp hpd
          go_wp2_with fail
          refine (clone_any A' z c' r w1 HRD1.out (by omega)).mono ?_
          rintro e w2 ⟨v, rfl, ho, hb⟩
          obtain ⟨A2, c2, rfl, h1, h2, hr2, _⟩ := ho.form
          have HR2 := Lib.hid hr2
          have HB2 := Lib.hid (HB.out.trans (hb.mono HB.out.size))
          have HNEW := Lib.hid (show ∀ ad, A2 = some ad → w.heap.size ≤ ad.block from fun ad he => by
            subst he
            have h3 := ho.rowLt ad.block rfl
            have h4 := HB.out.size
            omega)
          clear ho hb hr2
          go_wp2
          go_ret3
          exact ⟨HB2.out, A2, c2, by rw [HRL.out]; rfl, h1, h2, HR2.out, HNEW.out⟩
        · obtain rfl : o = none := by rw [← HO.out, HFO.out, if_neg hp]
          have hpd : decide (xs.take 6 = fhd r) = false := by simp [hp]
          rw [hpd]
          clear hp hpd
          go_wp2
          go_ret3
          exact ⟨HB.out, rfl⟩
end Go.Proofs.YtlakkhhibdcjaaaGreatDoor

namespace Go.Proofs.YtlakkhhibdcjaaaGreatDoor
open Go.RowKit
set_option linter.unusedVariables false

/-- Scan's answer. -/
def ScanRes (w : World) (xs : List Nat) (e : Ending) (w' : World) : Prop :=
  ∃ rs v, Scanned xs rs ∧ e = .returned (.tuple #[v, .int .i64 ((flat rs).length : Nat)]) ∧ RowsT w' w.heap.size (fun i => w.heap.size ≤ i) v rs ∧ Below w.heap.size w w'

set_option maxRecDepth 100000 in
set_option maxHeartbeats 1000000 in
theorem scan_any (A : Option Addr) (n c : Nat) (xs : List Nat) (w : World) (hr : Rd .u8 w A n (ints xs)) (hx : ∀ x ∈ xs, x < 256) (hnc : n ≤ c) (hcm : c ≤ 9223372036854775807) (hn : n ≤ 17592186044416) :
    Calls Tryz.prog 53 #[.slice A n c] w (ScanRes w xs) := by
  have hl : xs.length = n := by have := hr.1; rwa [ints_length] at this
  have HL := Lib.hid hl
  have HR := Lib.hid hr
  have HX := Lib.hid hx
  clear hl hr hx
  go_enter Tryz.func53, Tryz.ntmps53
  go_wp2
  go_loopw [4, 5] (fun r i wr => ∃ rs, i = .int .i64 ((flat rs).length : Nat) ∧ RowsT wr w.heap.size (fun i => w.heap.size ≤ i) r rs ∧ (∀ r ∈ rs, r.length ≤ 16384) ∧ xs = flat rs ++ xs.drop (flat rs).length ∧ (flat rs).length ≤ n ∧ Below w.heap.size w wr) (fun _ i _ => n - (intOf i).toNat)
  case atStart => exact ⟨[], rfl, RowsT.nil, by simp, rfl, Nat.zero_le _, Below.refl _ _⟩
  case round =>
    obtain ⟨rs, rfl, hown, hrs, hxs, hkn, hb⟩ := hrel
    have hrl := flat_len rs
    obtain ⟨k, hk⟩ : ∃ k, k = (flat rs).length := ⟨_, rfl⟩
    rw [← hk] at hkn hrl hxs ⊢
    have HOWN := Lib.hid hown
    have HRS := Lib.hid hrs
    have HXS := Lib.hid hxs
    have HK := Lib.hid hk
    have HB := Lib.hid hb
    have hcut := (HR.out.below hb).cut (j := k) hkn hnc
    rw [ints_drop] at hcut
    obtain ⟨A', hA'⟩ : ∃ A', A' = (if c = k then A else A.map (·.add k)) := ⟨_, rfl⟩
    have hs := fun W => run_back W A n c k hkn
    rw [← hA'] at hs hcut
    obtain ⟨ys, hys⟩ : ∃ ys, ys = xs.drop k := ⟨_, rfl⟩
    rw [← hys] at hcut
    have HC := Lib.hid hcut
    have HYX := Lib.hid (show ∀ x ∈ ys, x < 256 from fun x hm => HX.out x (by rw [hys] at hm; exact List.mem_of_mem_drop hm))
    have HYS := Lib.hid hys
    obtain ⟨m, hm⟩ : ∃ m, m = n - k := ⟨_, rfl⟩
    obtain ⟨d, hd⟩ : ∃ d, d = c - k := ⟨_, rfl⟩
    rw [← hm, ← hd] at hs
    rw [← hm] at HC
    have hmd : m ≤ d := by omega
    have hdm : d ≤ 9223372036854775807 := by omega
    have HM := Lib.hid hm
    have HD := Lib.hid hd
    clear hown hrs hxs hb hcut hA' hys hm hd hk
    obtain ⟨o, ho⟩ : ∃ o, fone ys = o := ⟨_, rfl⟩
    have HO := Lib.hid ho
    clear ho
    go_wp2_with fail
    refine (one_any A' m d ys wr HC.out HYX.out hmd hdm o HO.out).mono ?_
    rintro e w1 ⟨hb1, hres⟩
    have HB1 := Lib.hid hb1
    cases o with
    | none =>
      obtain rfl := hres
      have HOWN1 := Lib.hid (HOWN.out.below hb1)
      clear hb1 hs
      go_wp2
      go_ret2
      exact ⟨rs, _, ⟨HRS.out, ys, by rw [HYS.out]; exact HXS.out, HO.out⟩, by rw [HK.out]; rfl, HOWN1.out, HB.out.trans (HB1.out.mono HB.out.size)⟩
    | some r =>
      obtain ⟨B, q, rfl, hq1, hq2, hrd, hnew⟩ := hres
      have hown1 := HOWN.out.below hb1
      have hrow := HOWN.out.own.rowLt
      have hsz := hb1.size
      have hsw := HB.out.size
      obtain ⟨vs, hov, hvb, hin⟩ := hown1
      have HOV := Lib.hid hov
      have HIN := Lib.hid hin
      have HVB := Lib.hid hvb
      have HROW := Lib.hid hrow
      have HRD := Lib.hid hrd
      have HNEW := Lib.hid hnew
      have hr6 : k + (6 + r.length) ≤ n := by
        have h1 := (fone_some HO.out).2.1
        rw [HYS.out, List.length_drop, HL.out] at h1
        omega
      have hvl : vs.length = rs.length := by have := HOV.out.1; omega
      have HVL := Lib.hid hvl
      obtain ⟨z, hz⟩ : ∃ z, z = r.length := ⟨_, rfl⟩
      rw [← hz] at hr6 hq1 HRD ⊢
      have HZ := Lib.hid hz
      clear hrow hov hin hvb hrd hnew hvl hb1 hs hz
      go_wp2_with (first
        | (at_builtin
           refine wpList_append_one _ rfl (.tmp 21) (.tmp 23) 33 rfl 24 w.heap.size 34 (.slice none 0 0) Tryz.underlying33 info_row rfl u4 rs.length vs rfl (World.ownsRow.alloc HOV.out _) ⟨w1.heap.size, 0, none⟩ 1 (.slice B z q) rfl (by simp) rfl (by omega) (by omega) (by simp; omega) (by simp only [maxLen]; omega) ?_
           intro v2 w2 ho2 hg2))
      have hb2 : Below w.heap.size w w2 := hg2.below ((HB.out.trans (HB1.out.mono HB.out.size)).alloc (by omega) _) (by simp; omega) (fun g hg => (HROW.out g hg).1)
      have hfl : (flat (rs ++ [r])).length = k + (6 + z) := by rw [flat_snoc, List.length_append, fmk_length, ← HK.out, ← HZ.out]
      have hxs2 : xs = flat (rs ++ [r]) ++ xs.drop (k + (6 + z)) := by
        have h1 := fone_split HO.out
        rw [← HZ.out, HYS.out, List.drop_drop] at h1
        rw [flat_snoc, List.append_assoc, ← h1]
        exact HXS.out
      have hrows : ∀ (j : Nat) u r, vs[j]? = some u → rs[j]? = some r → RowIn (w1.alloc (.cells #[.slice B z q] 34)) u4 u r ∧ RowTo (fun i => w.heap.size ≤ i) u :=
        fun j u r h1 h2 => ⟨(HIN.out j u r h1 h2).1.below ((Below.refl _ _).alloc (Nat.le_refl _) _), (HIN.out j u r h1 h2).2⟩
      have hthis : RowIn (w1.alloc (.cells #[.slice B z q] 34)) u4 (.slice B z q) r := by
        refine ⟨B, q, by rw [HZ.out], by rw [← HZ.out]; exact hq1, hq2, by rw [← HZ.out]; exact HRD.out.alloc _, fun _ ad he hc => ?_⟩
        have h1 := HNEW.out ad he
        have h2 := (HROW.out _ hc).2
        omega
      have hto : RowTo (fun i => w.heap.size ≤ i) (.slice B z q) := fun A' n' c' ad he _ ha => by
        injection he with e1 e2 e3
        subst e1
        have h1 := HNEW.out ad ha
        show w.heap.size ≤ ad.block
        omega
      have hrs2 : ∀ x ∈ rs ++ [r], x.length ≤ 16384 := by
        intro x hx
        rcases List.mem_append.1 hx with hx | hx
        · exact HRS.out x hx
        · rw [List.mem_singleton] at hx; subst hx; exact (fone_some HO.out).1
      refine ⟨⟨rs ++ [r], by rw [hfl]; go_num, RowsT.push ho2 hg2 HVL.out HVB.out hrows hthis hto (fun g hge _ => by simp at hge; omega), hrs2, by rw [hfl]; exact hxs2, by rw [hfl]; exact hr6, hb2⟩, ?_⟩
      simp [intOf]
      omega
end Go.Proofs.YtlakkhhibdcjaaaGreatDoor

namespace Go.Proofs.YtlakkhhibdcjaaaGreatDoor
open Go.RowKit
set_option linter.unusedVariables false

/-- Up to twelve rows, each of up to 500 bytes. -/
def few (rs : List (List Nat)) : List (List Nat) := (rs.take 12).map (·.take 500)
theorem few_len (rs : List (List Nat)) : (few rs).length ≤ 12 := by simp [few]; omega
theorem few_row (rs : List (List Nat)) : ∀ r ∈ few rs, r.length ≤ 500 := by
  intro r hr
  obtain ⟨x, _, rfl⟩ := List.mem_map.1 hr
  rw [List.length_take]; omega
theorem few_lt {rs : List (List Nat)} (h : ∀ r ∈ rs, ∀ x ∈ r, x < 256) : ∀ r ∈ few rs, ∀ x ∈ r, x < 256 := by
  intro r hr x hx
  obtain ⟨y, hy, rfl⟩ := List.mem_map.1 hr
  exact h y (List.mem_of_mem_take hy) x (List.mem_of_mem_take hx)
theorem few_next (rs : List (List Nat)) (k : Nat) (hk : k < rs.length) (h12 : k < 12) : few (rs.take (k + 1)) = few (rs.take k) ++ [rs[k].take 500] ∧ (few (rs.take k)).length = k := by
  have e1 : ∀ j, j ≤ 12 → (rs.take j).take 12 = rs.take j := fun j hj => by rw [List.take_take]; congr 1; omega
  constructor
  · unfold few
    rw [e1 _ (by omega), e1 _ (by omega), List.take_succ_eq_append_getElem hk, List.map_append]
    rfl
  · unfold few
    rw [e1 _ (by omega), List.length_map, List.length_take]; omega
theorem few_same (rs : List (List Nat)) (k : Nat) (h12 : 12 ≤ k) : few (rs.take (k + 1)) = few (rs.take k) := by
  unfold few
  rw [List.take_take, List.take_take]; congr 2; omega

theorem run_strFront (W : World) (xs : List Nat) (k : Nat) (hk : k ≤ xs.length) : (Instr.sliceAt 9 (.string (strN xs)) none (some (.int .i64 (k : Int))) none).run Tryz.prog W = .ok (.string (strN (xs.take k))) W := by
  rw [run_sliceAt_string _ _ _ _ _ _ Tryz.underlying9, run_slice_string_h W _ _ Tryz.underlying9 _ _ (by omega) (by rw [strN_size]; omega)]
  congr 2
  apply ByteArray.ext
  have e : ((k : Int)).toNat = k := by omega
  rw [e, ByteArray.data_extract]
  apply Array.ext'
  simp [strN, strOfNums, ints, List.map_take]

def FewRes (w : World) (rs : List (List Nat)) (e : Ending) (w' : World) : Prop := ∃ v, e = .returned v ∧ OwnRows w' w.heap.size v (few rs) ∧ Below w.heap.size w w'

set_option maxRecDepth 100000 in
set_option maxHeartbeats 2000000 in
theorem few_any (A : Option Addr) (len cap : Nat) (rs : List (List Nat)) (w : World) (hrl : rs.length = len) (hr : RdRows w A rs) (hlen : len ≤ 9223372036854775807) :
    Calls Tryz.prog 20 #[.slice A len cap] w (FewRes w rs) := by
  have HR := Lib.hid hr
  have HRL := Lib.hid hrl
  clear hr hrl
  go_enter Tryz.func20, Tryz.ntmps20
  go_wp2
  go_loopw [3, 8] (fun v i wr => ∃ k : Nat, k ≤ len ∧ i = .int .i64 k ∧ OwnRows wr w.heap.size v (few (rs.take k)) ∧ Below w.heap.size w wr) (fun _ i _ => len - (intOf i).toNat)
  case atStart => exact ⟨0, Nat.zero_le _, rfl, OwnRows.nil, Below.refl _ _⟩
  case round =>
    obtain ⟨k, hk, rfl, hown, hbel⟩ := hrel
    by_cases hlt : k < len
    · have hlt' : k < rs.length := by rw [HRL.out]; exact hlt
      obtain ⟨ad, B, c, rfl, hcell0, h1, h2, hrd⟩ := HR.out.at_ hlt'
      have hcell : wr.cell? (ad.add k) = some (.slice B rs[k].length c) := by rw [hbel.cell (World.block_lt_of_cell? w _ hcell0)]; exact hcell0
      by_cases h12 : k < 12
      · obtain ⟨hnext, hlk⟩ := few_next rs k hlt' h12
        have hrow := hown.rowLt
        have hsz := hbel.size
        obtain ⟨vs, hov, hin⟩ := hown
        rw [hlk] at hov
        have hvl : vs.length = k := by have := hov.1; omega
        obtain ⟨r, hre⟩ : ∃ r, r = rs[k] := ⟨_, rfl⟩
        rw [← hre] at hcell h1 hrd hnext
        obtain ⟨z, hz⟩ : ∃ z, z = r.length := ⟨_, rfl⟩
        rw [← hz] at hcell h1 hrd
        obtain ⟨n, hn⟩ : ∃ n, n = min z 500 := ⟨_, rfl⟩
        have hmin := min2_ok (P := Tryz.prog) z 500 n (z : Int) 500 rfl rfl hn
        have hnz : n ≤ z := by omega
        have hfr := fun W => run_front W B z c n (by omega)
        have hfront := hrd.front hnz
        rw [ints_take] at hfront
        have htk : r.take n = r.take 500 := by
          rw [hn]
          by_cases h5 : z ≤ 500
          · rw [Nat.min_eq_left h5, List.take_of_length_le (by omega), List.take_of_length_le (by omega)]
          · rw [Nat.min_eq_right (by omega)]
        have htl : (r.take n).length = n := by rw [List.length_take]; omega
        rw [← htk] at hnext
        obtain ⟨y, hy⟩ : ∃ y, y = r.take n := ⟨_, rfl⟩
        rw [← hy] at hnext hfront htl
        have HNEXT := Lib.hid hnext
        have HLK := Lib.hid hlk
        have HOV := Lib.hid hov
        have HIN := Lib.hid hin
        have HROW := Lib.hid hrow
        have HVL := Lib.hid hvl
        have HFR := Lib.hid hfront
        have HTL := Lib.hid htl
        have HBEL := Lib.hid hbel
        clear hnext hlk hov hin hrow hvl hfront htl hbel hcell0 hrd hre hz hn htk hy hlt'
        unfold maxLen at h2
        go_wp2_with (first
          | (at_builtin
             refine wpList_append_one _ rfl (.tmp 15) (.tmp 21) 33 rfl 24 w.heap.size 34 (.slice none 0 0) Tryz.underlying33 info_row rfl u3 k vs rfl (World.ownsRow.alloc HOV.out _) ⟨wr.heap.size, 0, none⟩ 1 (.slice B n c) rfl (by simp) rfl (by omega) (by omega) (by simp; omega) (by simp only [maxLen]; omega) ?_
             intro v2 w2 ho2 hg2))
        have hb2 : Below w.heap.size w w2 := hg2.below (HBEL.out.alloc hsz _) (by simp; omega) (fun g hg => (HROW.out g hg).1)
        have hrows : ∀ (j : Nat) u r, vs[j]? = some u → (few (rs.take k))[j]? = some r → RowIn (wr.alloc (.cells #[.slice B n c] 34)) u3 u r :=
          fun j u r h1 h2 => (HIN.out j u r h1 h2).below ((Below.refl _ _).alloc (Nat.le_refl _) _)
        have hthis : RowIn (wr.alloc (.cells #[.slice B n c] 34)) u3 (.slice B n c) y := by
          refine ⟨B, c, by rw [HTL.out], by rw [HTL.out]; omega, by unfold maxLen; omega, by rw [HTL.out]; exact (HFR.out.below HBEL.out).alloc _, fun hp ad he hc => ?_⟩
          rw [HTL.out] at hp
          obtain ⟨ad', he', hc'⟩ := HFR.out.2 hp
          obtain rfl : ad = ad' := by rw [he] at he'; injection he'
          have h3 := World.block_lt_of_cell? w _ (hc' 0 hp)
          rw [add_block] at h3
          have h4 := (HROW.out _ hc).1
          omega
        have hpush := OwnRows.push (rs := few (rs.take k)) (by rw [HLK.out]; exact ho2) hg2 (by rw [HLK.out]; exact HVL.out) hrows hthis
        rw [← HNEXT.out] at hpush
        refine ⟨⟨k + 1, by omega, by go_num, hpush, hb2⟩, ?_⟩
        simp [intOf]
        omega
      · have hsame := few_same rs k (by omega)
        rw [← hsame] at hown
        have HOWN := Lib.hid hown
        have HBEL := Lib.hid hbel
        obtain ⟨z, hz⟩ : ∃ z, z = rs[k].length := ⟨_, rfl⟩
        rw [← hz] at hcell
        clear hown hbel hsame hcell0 hrd h1 hz hlt'
        go_wp2
        go_roundw
        case rel => exact ⟨k + 1, by omega, by go_num, HOWN.out, HBEL.out⟩
        case measure => simp [intOf]; omega
    · obtain rfl : k = len := by omega
      rw [List.take_of_length_le (by rw [HRL.out]; omega)] at hown
      have HOWN := Lib.hid hown
      have HBEL := Lib.hid hbel
      clear hown hbel
      go_wp2
      go_ret
      exact ⟨u3, rfl, HOWN.out, HBEL.out⟩
end Go.Proofs.YtlakkhhibdcjaaaGreatDoor
