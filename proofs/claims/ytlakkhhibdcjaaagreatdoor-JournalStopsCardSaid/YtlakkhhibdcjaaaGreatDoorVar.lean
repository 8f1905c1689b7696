/-
  Numbers as bytes: the plain words, over lists of natural numbers: what an encoding is, what is read of bytes, and that the two fit.
  varint.pair and varint.unpair by their contracts.
  varint.lay by its contract: behind bytes that are the call's own it lays a number's encoding.
  varint.All and bytes.Clone by their contracts.
  varint.read by its contract: it tells the number that bytes begin with, and how many bytes it has.
  varint.Get by its contract.
-/
import Derived.Test.YtlakkhhibdcjaaaGreatDoorChecked
import Derived.WalkKit
import Derived.Laws.BitsAllLaws
import Derived.Lib.Hide
import Derived.Test.YtlakkhhibdcjaaaGreatDoorLow
import Derived.Lib.SliceRun
import Derived.Laws.ShiftsVar
namespace Go.Proofs.YtlakkhhibdcjaaaGreatDoor

/-- The bytes of an unsigned number: seven bits each, the lowest ones first. -/
def enc (u : Nat) : List Nat := if u < 128 then [u] else (u % 128 + 128) :: enc (u / 128)
  termination_by u
  decreasing_by omega

theorem enc_small {u : Nat} (h : u < 128) : enc u = [u] := by rw [enc, if_pos h]
theorem enc_big {u : Nat} (h : 128 ≤ u) : enc u = (u % 128 + 128) :: enc (u / 128) := by rw [enc, if_neg (by omega)]

/-- The unsigned number of a number. -/
def pairN (n : Int) : Nat := if n < 0 then (2 * (-1 - n) + 1).toNat else (2 * n).toNat
/-- The number of an unsigned one. -/
def unp (u : Nat) : Int := if u % 2 = 1 then -1 - ((u / 2 : Nat) : Int) else ((u / 2 : Nat) : Int)

theorem pairN_neg {n : Int} (h : n < 0) : pairN n = (2 * (-1 - n) + 1).toNat := by unfold pairN; rw [if_pos h]
theorem pairN_pos {n : Int} (h : ¬ n < 0) : pairN n = (2 * n).toNat := by unfold pairN; rw [if_neg h]
theorem pairN_lt {n : Int} (h1 : -9223372036854775808 ≤ n) (h2 : n ≤ 9223372036854775807) : pairN n < 18446744073709551616 := by
  unfold pairN; split <;> omega
theorem unp_pair (n : Int) : unp (pairN n) = n := by unfold unp pairN; split <;> split <;> omega
theorem pair_unp (u : Nat) : pairN (unp u) = u := by unfold unp pairN; split <;> split <;> omega
theorem unp_bd {u : Nat} (h : u < 18446744073709551616) : -9223372036854775808 ≤ unp u ∧ unp u ≤ 9223372036854775807 := by
  unfold unp; split <;> omega
theorem pairN_inj {a b : Int} (h : pairN a = pairN b) : a = b := by rw [← unp_pair a, ← unp_pair b, h]

theorem enc_len_pos (u : Nat) : 1 ≤ (enc u).length := by
  rw [enc]; split <;> simp

theorem enc_len_le : ∀ (k u : Nat), u < 128 ^ (k + 1) → (enc u).length ≤ k + 1
  | 0, u, h => by rw [enc_small (by simpa using h)]; simp
  | k + 1, u, h => by
    by_cases hs : u < 128
    · rw [enc_small hs]; simp
    · have ih := enc_len_le k (u / 128) (by
        apply Nat.div_lt_of_lt_mul
        rw [Nat.pow_succ] at h
        omega)
      rw [enc_big (by omega), List.length_cons]
      omega

theorem enc_len_ten {u : Nat} (h : u < 18446744073709551616) : (enc u).length ≤ 10 := enc_len_le 9 u (by omega)

theorem enc_bytes (u : Nat) : ∀ c ∈ enc u, c < 256 := by
  induction u using Nat.strongRecOn with
  | ind u ih =>
    by_cases hs : u < 128
    · rw [enc_small hs]; intro c hc; simp at hc; omega
    · rw [enc_big (by omega)]
      intro c hc
      rcases List.mem_cons.1 hc with rfl | hc
      · omega
      · exact ih (u / 128) (by omega) c hc

/-- What is read of bytes from place i on, with what was read ahead of it: the number, and how many bytes it has. -/
def rdF : Nat → Nat → List Nat → Option (Nat × Nat)
  | _, _, [] => none
  | i, acc, c :: r => if 10 ≤ i then none else if 128 ≤ c then rdF (i + 1) (acc + c % 128 * 2 ^ (7 * i)) r else if (c = 0 ∧ 0 < i) ∨ (i = 9 ∧ 1 < c) then none else some (acc + c % 128 * 2 ^ (7 * i), i + 1)

def rd (xs : List Nat) : Option (Nat × Nat) := rdF 0 0 xs

theorem rdF_nil (i acc : Nat) : rdF i acc [] = none := rfl
theorem rdF_over {i : Nat} (h : 10 ≤ i) (acc : Nat) (xs : List Nat) : rdF i acc xs = none := by
  cases xs with
  | nil => rfl
  | cons c r => rw [rdF, if_pos h]
theorem rdF_more {i c : Nat} (h : i < 10) (hc : 128 ≤ c) (acc : Nat) (r : List Nat) : rdF i acc (c :: r) = rdF (i + 1) (acc + c % 128 * 2 ^ (7 * i)) r := by
  rw [rdF, if_neg (by omega), if_pos hc]
theorem rdF_bad {i c : Nat} (h : i < 10) (hc : c < 128) (hb : (c = 0 ∧ 0 < i) ∨ (i = 9 ∧ 1 < c)) (acc : Nat) (r : List Nat) : rdF i acc (c :: r) = none := by
  rw [rdF, if_neg (by omega), if_neg (by omega), if_pos hb]
theorem rdF_last {i c : Nat} (h : i < 10) (hc : c < 128) (hb : ¬ ((c = 0 ∧ 0 < i) ∨ (i = 9 ∧ 1 < c))) (acc : Nat) (r : List Nat) : rdF i acc (c :: r) = some (acc + c % 128 * 2 ^ (7 * i), i + 1) := by
  rw [rdF, if_neg (by omega), if_neg (by omega), if_neg hb]

theorem pow_step (i : Nat) (h : i ≤ 8) : (2 : Nat) ^ (64 - 7 * i) = 128 * 2 ^ (64 - 7 * (i + 1)) := by
  have e : 64 - 7 * i = 7 + (64 - 7 * (i + 1)) := by omega
  rw [e, Nat.pow_add]
theorem pow_up (i : Nat) : (2 : Nat) ^ (7 * (i + 1)) = 128 * 2 ^ (7 * i) := by
  rw [show 7 * (i + 1) = 7 + 7 * i by omega, Nat.pow_add]
theorem nine_pow : (2 : Nat) ^ (64 - 7 * 9) = 2 := rfl

/-- What is laid is read, whatever stands behind. -/
theorem rdF_enc : ∀ (v i acc : Nat) (r : List Nat), i ≤ 9 → v < 2 ^ (64 - 7 * i) → (0 < i → v ≠ 0) → rdF i acc (enc v ++ r) = some (acc + v * 2 ^ (7 * i), i + (enc v).length) := by
  intro v
  induction v using Nat.strongRecOn with
  | ind v ih =>
    intro i acc r hi hv h0
    by_cases hs : v < 128
    · have hn : ¬ ((v = 0 ∧ 0 < i) ∨ (i = 9 ∧ 1 < v)) := by
        rintro (⟨a, b⟩ | ⟨rfl, b⟩)
        · exact h0 b a
        · rw [nine_pow] at hv; omega
      rw [enc_small hs]
      show rdF i acc (v :: r) = _
      rw [rdF_last (by omega) hs hn, Nat.mod_eq_of_lt hs]
      rfl
    · have hi8 : i ≤ 8 := by
        rcases Nat.lt_or_ge i 9 with h | h
        · omega
        · have : i = 9 := by omega
          subst this; rw [nine_pow] at hv; omega
      rw [pow_step i hi8] at hv
      have hd : v / 128 < 2 ^ (64 - 7 * (i + 1)) := Nat.div_lt_of_lt_mul hv
      rw [enc_big (by omega)]
      show rdF i acc ((v % 128 + 128) :: (enc (v / 128) ++ r)) = _
      rw [rdF_more (by omega) (by omega), ih (v / 128) (by omega) (i + 1) _ r (by omega) hd (fun _ => by omega)]
      have e1 : (v % 128 + 128) % 128 = v % 128 := by omega
      rw [e1, pow_up]
      congr 2
      · have e2 : v = v % 128 + 128 * (v / 128) := by omega
        have e3 : v * 2 ^ (7 * i) = (v % 128 + 128 * (v / 128)) * 2 ^ (7 * i) := by rw [← e2]
        rw [e3, Nat.add_mul, Nat.add_assoc]
        congr 2
        rw [Nat.mul_comm 128 (v / 128), Nat.mul_assoc]
      · simp only [List.length_cons]; omega

theorem rd_enc {u : Nat} (h : u < 18446744073709551616) (r : List Nat) : rd (enc u ++ r) = some (u, (enc u).length) := by
  unfold rd
  rw [rdF_enc u 0 0 r (by omega) (by simpa using h) (by omega)]
  simp

/-- What is read is what is laid there. -/
theorem rdF_some : ∀ (xs : List Nat) (i acc u s : Nat), (∀ c ∈ xs, c < 256) → rdF i acc xs = some (u, s) →
    ∃ v, i ≤ 9 ∧ v < 2 ^ (64 - 7 * i) ∧ (0 < i → v ≠ 0) ∧ u = acc + v * 2 ^ (7 * i) ∧ s = i + (enc v).length ∧ ∃ r, xs = enc v ++ r
  | [], i, acc, u, s, _, h => by cases h
  | c :: xs, i, acc, u, s, hb, h => by
    have hc : c < 256 := hb c (by simp)
    by_cases hi : 10 ≤ i
    · rw [rdF_over hi] at h; cases h
    · by_cases hm : 128 ≤ c
      · rw [rdF_more (by omega) hm] at h
        obtain ⟨v, h9, hv, h0, hu, hs, r, hr⟩ := rdF_some xs (i + 1) _ u s (fun x hx => hb x (by simp [hx])) h
        have hv0 := h0 (by omega)
        have e : enc (c % 128 + 128 * v) = c :: enc v := by
          rw [enc_big (by omega)]
          congr 1
          · omega
          · congr 1; omega
        refine ⟨c % 128 + 128 * v, by omega, ?_, fun _ => by omega, ?_, ?_, r, ?_⟩
        · rw [pow_step i (by omega)]
          omega
        · rw [hu, pow_up, Nat.add_mul, Nat.add_assoc]
          congr 2
          rw [Nat.mul_comm 128 v, Nat.mul_assoc]
        · rw [e, List.length_cons]; omega
        · rw [e, hr]; rfl
      · by_cases hbad : (c = 0 ∧ 0 < i) ∨ (i = 9 ∧ 1 < c)
        · rw [rdF_bad (by omega) (by omega) hbad] at h; cases h
        · rw [rdF_last (by omega) (by omega) hbad] at h
          injection h with h
          injection h with h1 h2
          refine ⟨c, by omega, ?_, ?_, ?_, ?_, xs, ?_⟩
          · rcases Nat.lt_or_ge i 9 with h | h
            · have hp : (2 : Nat) ^ (64 - 7 * 8) ≤ 2 ^ (64 - 7 * i) := Nat.pow_le_pow_right (by omega) (by omega)
              have he : (2 : Nat) ^ (64 - 7 * 8) = 256 := rfl
              omega
            · have : i = 9 := by omega
              subst this; rw [nine_pow]
              have : ¬ 1 < c := fun h => hbad (.inr ⟨rfl, h⟩)
              omega
          · intro h h'; exact hbad (.inl ⟨h', h⟩)
          · rw [← h1, Nat.mod_eq_of_lt (show c < 128 by omega)]
          · rw [enc_small (by omega), ← h2]; rfl
          · rw [enc_small (by omega)]; rfl

theorem rd_some {xs : List Nat} {u s : Nat} (hb : ∀ c ∈ xs, c < 256) (h : rd xs = some (u, s)) :
    u < 18446744073709551616 ∧ s = (enc u).length ∧ xs = enc u ++ xs.drop s := by
  obtain ⟨v, _, hv, _, hu, hs, r, hr⟩ := rdF_some xs 0 0 u s hb h
  have e : u = v := by rw [hu]; simp
  subst e
  have hs' : s = (enc u).length := by omega
  refine ⟨by simpa using hv, hs', ?_⟩
  rw [hs', hr, List.drop_left]

theorem rd_size {xs : List Nat} {u s : Nat} (hb : ∀ c ∈ xs, c < 256) (h : rd xs = some (u, s)) : 1 ≤ s ∧ s ≤ 10 ∧ s ≤ xs.length := by
  obtain ⟨h1, h2, h3⟩ := rd_some hb h
  have a := enc_len_pos u
  have b := enc_len_ten h1
  have c : xs.length = (enc u).length + (xs.drop s).length := by
    have := congrArg List.length h3
    simpa using this
  omega

/-- Of two encodings none begins the other. -/
theorem enc_two {a b : Nat} (ha : a < 18446744073709551616) (hb : b < 18446744073709551616) (r q : List Nat) (h : enc a ++ r = enc b ++ q) : a = b := by
  have h1 := rd_enc ha r
  rw [h, rd_enc hb q] at h1
  injection h1 with h1
  injection h1 with h1 _
  exact h1.symm

theorem enc_inj {a b : Nat} (ha : a < 18446744073709551616) (hb : b < 18446744073709551616) (h : enc a = enc b) : a = b := enc_two ha hb [] [] (by rw [h])

/-- Several numbers, one behind the other. -/
def encs (ns : List Int) : List Nat := ns.flatMap fun n => enc (pairN n)
theorem encs_nil : encs [] = [] := rfl
theorem encs_cons (n : Int) (ns : List Int) : encs (n :: ns) = enc (pairN n) ++ encs ns := by simp [encs]
theorem encs_append (a b : List Int) : encs (a ++ b) = encs a ++ encs b := by simp [encs]
theorem encs_one (n : Int) : encs [n] = enc (pairN n) := by simp [encs]
theorem encs_bytes (ns : List Int) : ∀ c ∈ encs ns, c < 256 := by
  intro c hc
  obtain ⟨n, _, hn⟩ := List.mem_flatMap.1 hc
  exact enc_bytes _ c hn
theorem encs_len (ns : List Int) (h : ∀ n ∈ ns, pairN n < 18446744073709551616) : (encs ns).length ≤ 10 * ns.length := by
  induction ns with
  | nil => simp [encs]
  | cons n ns ih =>
    rw [encs_cons, List.length_append, List.length_cons]
    have h1 := enc_len_ten (h n (by simp))
    have h2 := ih (fun m hm => h m (by simp [hm]))
    omega
end Go.Proofs.YtlakkhhibdcjaaaGreatDoor

namespace Go.Proofs.YtlakkhhibdcjaaaGreatDoor
open Go.RowKit

theorem vret_int {k : IntKind} {a b : Int} (h : a = b) : Ending.returned (.int k a) = .returned (.int k b) := by rw [h]

/-- The complement of an int. -/
theorem not_i64 (n : Int) (h1 : -9223372036854775808 ≤ n) (h2 : n ≤ 9223372036854775807) : bits .xor .i64 (-1) n = -1 - n := by
  show IntKind.i64.wrap ((BitVec.ofInt 64 (-1) ^^^ BitVec.ofInt 64 n).toNat : Int) = _
  have e : BitVec.ofInt 64 (-1) ^^^ BitVec.ofInt 64 n = ~~~ BitVec.ofInt 64 n := by
    have : BitVec.ofInt 64 (-1) = BitVec.allOnes 64 := by decide
    rw [this, BitVec.allOnes_xor]
  rw [e, BitVec.toNat_not, BitVec.toNat_ofInt, IntKind.wrap_i64]
  omega

theorem and_one (u : Nat) (h : u < 18446744073709551616) : bits .and .u64 (u : Int) 1 = ((u % 2 : Nat) : Int) := by
  have := u64_and_nat u 1 h (by omega)
  rw [nat_mask1] at this
  exact this

set_option maxHeartbeats 1000000 in
theorem pair_any (n : Int) (w : World) (h1 : -9223372036854775808 ≤ n) (h2 : n ≤ 9223372036854775807) :
    Calls Tryz.prog 66 #[.int .i64 n] w fun e w' => e = .returned (.int .u64 (pairN n : Nat)) ∧ w = w' := by
  by_cases h : n < 0
  · have hx := not_i64 n h1 h2
    go_enter Tryz.func66, Tryz.ntmps66
    go_wp2
    go_ret
    clear hx
    exact ⟨vret_int (by rw [pairN_neg (by assumption)]; simp only [IntKind.wrap_u64]; omega), rfl⟩
  · go_enter Tryz.func66, Tryz.ntmps66
    go_wp2
    go_ret
    exact ⟨vret_int (by rw [pairN_pos (by omega)]; omega), rfl⟩

set_option maxHeartbeats 1000000 in
theorem unpair_any (u : Nat) (w : World) (h : u < 18446744073709551616) :
    Calls Tryz.prog 68 #[.int .u64 (u : Int)] w fun e w' => e = .returned (.int .i64 (unp u)) ∧ w = w' := by
  by_cases ho : u % 2 = 1
  · have hb : (bits .and .u64 (u : Int) 1 == 1) = true := by rw [and_one u h, ho]; rfl
    have hx := not_i64 ((u : Int) / 2) (by omega) (by omega)
    have HO := Lib.hid ho
    clear ho
    go_enter Tryz.func68, Tryz.ntmps68
    go_wp2
    go_ret
    exact ⟨vret_int (by unfold unp; rw [if_pos HO.out]; omega), rfl⟩
  · have hb : (bits .and .u64 (u : Int) 1 == 1) = false := by rw [and_one u h, show u % 2 = 0 by omega]; rfl
    have HO := Lib.hid ho
    clear ho
    go_enter Tryz.func68, Tryz.ntmps68
    go_wp2
    go_ret
    exact ⟨vret_int (by unfold unp; rw [if_neg HO.out]; omega), rfl⟩
end Go.Proofs.YtlakkhhibdcjaaaGreatDoor

namespace Go.Proofs.YtlakkhhibdcjaaaGreatDoor
open Go.RowKit

set_option maxRecDepth 100000 in
set_option maxHeartbeats 2000000 in
theorem vlay_any (base : Nat) (v : Value) (xs : List Nat) (n : Int) (w : World) (h1 : -9223372036854775808 ≤ n) (h2 : n ≤ 9223372036854775807)
    (hown : Own 5 .u8 w base v xs.length (ints xs)) (hb : base ≤ w.heap.size) (hl : xs.length ≤ 200000000000000) :
    Calls Tryz.prog 46 #[v, .int .i64 n] w (OwnRes w base (xs ++ enc (pairN n))) := by
  have hlt := pairN_lt h1 h2
  have ht := enc_len_ten hlt
  go_enter Tryz.func46, Tryz.ntmps46
  go_wp2_with fail
  refine (pair_any n _ h1 h2).mono ?_
  rintro e w' ⟨rfl, rfl⟩
  obtain ⟨u, hu⟩ : ∃ u, u = pairN n := ⟨_, rfl⟩
  rw [← hu] at hlt ht ⊢
  have HU := Lib.hid hu
  clear hu
  go_wp2
  go_loopw [0, 5] (fun b t wr => ∃ (q : Nat) (ys : List Nat), t = .int .u64 (q : Int) ∧ q < 18446744073709551616 ∧ xs ++ enc u = ys ++ enc q ∧ Own 5 .u8 wr base b ys.length (ints ys) ∧ Below base w wr) (fun _ t _ => (intOf t).toNat)
  case atStart => exact ⟨u, xs, rfl, hlt, rfl, hown, Below.refl _ _⟩
  case round =>
    obtain ⟨q, ys, rfl, hq, he, ho, hbl⟩ := hrel
    have hyl : ys.length ≤ 200000000000010 := by
      have := congrArg List.length he
      simp only [List.length_append] at this
      omega
    have HE := Lib.hid he
    clear he
    have hsz := hbl.size
    by_cases hs : 128 ≤ q
    · go_wp2_with (at_builtin; refine wpList_append_ints _ rfl (.tmp 10) (.tmp 15) 34 rfl .u8 1 base 5 Tryz.underlying34 info_byte _ ys.length (ints ys) rfl (ho.alloc _) (some ⟨wr.heap.size, 0, none⟩) 1 1 _ rfl (Rd.one _) (by omega) (by omega) (by simp; omega) ?_; intro v' w1 ho' hg)
      have hb1 : Below base w w1 := (hbl.alloc (by omega) _).grown hg (by simp; omega) ho.rowLt
      have ho1 := own_more ho' (show ((q : Int) % 128 + 128) = ((q % 128 + 128 : Nat) : Int) by omega)
      clear ho' hg
      go_roundw
      case rel => exact ⟨q / 128, ys ++ [q % 128 + 128], by go_num, by omega, by rw [HE.out, enc_big hs]; simp, ho1, hb1⟩
      case measure => simp [intOf]; omega
    · go_wp2_with (at_builtin; refine wpList_append_ints _ rfl (.tmp 19) (.tmp 22) 34 rfl .u8 1 base 5 Tryz.underlying34 info_byte _ ys.length (ints ys) rfl (ho.alloc _) (some ⟨wr.heap.size, 0, none⟩) 1 1 _ rfl (Rd.one _) (by omega) (by omega) (by simp; omega) ?_; intro v' w1 ho' hg)
      have hb1 : Below base w w1 := (hbl.alloc (by omega) _).grown hg (by simp; omega) ho.rowLt
      have ho1 := own_more ho' rfl
      clear ho' hg
      go_ret
      refine ⟨v', rfl, ?_, hb1⟩
      rw [← HU.out, HE.out, enc_small (by omega)]
      exact ho1
end Go.Proofs.YtlakkhhibdcjaaaGreatDoor

namespace Go.Proofs.YtlakkhhibdcjaaaGreatDoor
open Go.RowKit

theorem take_succ_getD (ns : List Int) (k : Nat) (h : k < ns.length) : ns.take (k + 1) = ns.take k ++ [ns.getD k 0] := by
  rw [List.take_succ_eq_append_getElem h]
  simp [List.getD, h]

theorem encs_take_len (ns : List Int) (hw : ∀ x ∈ ns, -9223372036854775808 ≤ x ∧ x ≤ 9223372036854775807) (k : Nat) : (encs (ns.take k)).length ≤ 10 * k := by
  have := encs_len (ns.take k) (fun x hx => pairN_lt (hw x (List.mem_of_mem_take hx)).1 (hw x (List.mem_of_mem_take hx)).2)
  have h2 := List.length_take_le k ns
  omega

set_option maxRecDepth 100000 in
set_option maxHeartbeats 2000000 in
theorem all_any (A : Option Addr) (n c : Nat) (ns : List Int) (w : World) (hr : Rd .i64 w A n ns) (hw : ∀ x ∈ ns, -9223372036854775808 ≤ x ∧ x ≤ 9223372036854775807) (hl : n ≤ 17592186044416) :
    Calls Tryz.prog 23 #[.slice A n c] w (OwnRes w w.heap.size (encs ns)) := by
  have HW := Lib.hid hw
  have HR := Lib.hid hr
  clear hw hr
  go_enter Tryz.func23, Tryz.ntmps23
  go_wp2
  go_loopw [3, 8] (fun b i wr => ∃ k : Nat, k ≤ n ∧ i = .int .i64 k ∧ Own 5 .u8 wr w.heap.size b (encs (ns.take k)).length (ints (encs (ns.take k))) ∧ Below w.heap.size w wr) (fun _ i _ => n - (intOf i).toNat)
  case atStart => exact ⟨0, Nat.zero_le _, rfl, Own.nil, Below.refl _ _⟩
  case round =>
    obtain ⟨k, hk, rfl, ho, hb⟩ := hrel
    have hsz := hb.size
    by_cases hlt : k < n
    · obtain ⟨ad, rfl, hcell⟩ := (HR.out.below hb).at_ hlt
      have hkl : k < ns.length := by rw [HR.out.1]; exact hlt
      obtain ⟨x, hx⟩ : ∃ x, x = ns.getD k 0 := ⟨_, rfl⟩
      rw [← hx] at hcell
      have hxm : x ∈ ns := by rw [hx]; simp [List.getD, hkl]
      obtain ⟨x1, x2⟩ := HW.out x hxm
      have hle := encs_take_len ns HW.out k
      have HX := Lib.hid hx
      have HK := Lib.hid hkl
      clear hx hxm hkl
      go_wp2_with fail
      refine (vlay_any _ _ _ x _ x1 x2 ho hsz (by omega)).mono ?_
      rintro e w2 ⟨v, rfl, ho2, hb2⟩
      have e : encs (ns.take (k + 1)) = encs (ns.take k) ++ enc (pairN x) := by
        rw [take_succ_getD ns k HK.out, encs_append, encs_one, HX.out]
      rw [← e] at ho2
      clear e ho hcell
      have hb3 := hb.trans hb2
      clear hb2 hb
      go_wp2
      go_roundw
      case rel => exact ⟨k + 1, by omega, by go_num, ho2, hb3⟩
      case measure => simp [intOf]; omega
    · have hkn : k = n := by omega
      have he : ns.take k = ns := List.take_of_length_le (by rw [HR.out.1]; omega)
      rw [he] at ho
      clear he hkn
      go_wp2
      go_ret
      exact ⟨_, rfl, ho, hb⟩

/-- The bytes of a slice, in new memory (nil stays nil). -/
theorem vclone_any (A : Option Addr) (n c : Nat) (xs : List Nat) (w : World) (hr : Rd .u8 w A n (ints xs)) (hl : n ≤ 200000000000000) :
    Calls Tryz.prog 38 #[.slice A n c] w (OwnRes w w.heap.size xs) := by
  have hx : xs.length = n := by have := hr.1; rwa [ints_length] at this
  have HR := Lib.hid hr
  have HX := Lib.hid hx
  clear hr hx
  cases A with
  | none =>
    have hn : n = 0 := by
      rcases Nat.eq_zero_or_pos n with h | h
      · exact h
      · obtain ⟨_, h', _⟩ := HR.out.2 h; cases h'
    have hxn : xs = [] := List.eq_nil_of_length_eq_zero (by rw [HX.out]; exact hn)
    subst hxn
    subst hn
    have heq := Lib.run_eql_slice_nil (P := Tryz.prog) w 34 5 none 0 c 0 0 Tryz.underlying34
    go_enter Tryz.func38, Tryz.ntmps38
    go_wp2
    go_ret
    exact ⟨_, rfl, Own.nil, Below.refl _ _⟩
  | some ad =>
    have heq := Lib.run_eql_slice_nil (P := Tryz.prog) w 34 5 (some ad) n c 0 0 Tryz.underlying34
    go_enter Tryz.func38, Tryz.ntmps38
    go_wp2_with (at_builtin; refine wpList_append_ints _ rfl (.tmp 5) (.tmp 6) 34 rfl .u8 1 w.heap.size 5 Tryz.underlying34 info_byte _ 0 [] rfl (World.ownsRow_made w _ 0 (Nat.le_refl _) (by simp [maxLen]) rfl) (some ad) n c _ rfl (HR.out.alloc _) (by omega) (by omega) (by simp) ?_; intro v' w1 ho' hg)
    have hb1 : Below w.heap.size w w1 := ((Below.refl _ _).alloc (Nat.le_refl _) _).grown hg (by simp) (fun g he => by have he' : some w.heap.size = some g := he; injection he' with he'; omega)
    rw [Nat.zero_add, List.nil_append] at ho'
    clear hg heq
    go_ret
    exact ⟨v', rfl, by rw [HX.out]; exact ho', hb1⟩
end Go.Proofs.YtlakkhhibdcjaaaGreatDoor

namespace Go.Proofs.YtlakkhhibdcjaaaGreatDoor
open Go.RowKit
set_option linter.unusedVariables false

/-- What read hands back. -/
def rdRes : Option (Nat × Nat) → Value
  | some (u, s) => .tuple #[.int .i64 (unp u), .int .i64 (s : Int)]
  | none => .tuple #[.int .i64 0, .int .i64 0]

def ReadPost (w : World) (r : Option (Nat × Nat)) (e : Ending) (w' : World) : Prop := e = .returned (rdRes r) ∧ w = w'

theorem drop_cons_getD (xs : List Nat) (k : Nat) (h : k < xs.length) : xs.drop k = xs.getD k 0 :: xs.drop (k + 1) := by
  rw [List.drop_eq_getElem_cons h]
  simp [List.getD, h]

theorem veqT {a b : Int} (h : a = b) : (a == b) = true := by simp [h]
theorem veqF {a b : Int} (h : a ≠ b) : (a == b) = false := by simp [h]

/-- One group more, laid over what was read. -/
theorem or_step (a k x : Nat) (hk : k ≤ 8 ∨ (k = 9 ∧ x ≤ 1)) (ha : a < 2 ^ (7 * k)) :
    bits .or .u64 (a : Int) (IntKind.u64.wrap ((x : Int) % 128 * 2 ^ (7 * k))) = ((a + x % 128 * 2 ^ (7 * k) : Nat) : Int) ∧ a + x % 128 * 2 ^ (7 * k) < 18446744073709551616 ∧ (k ≤ 8 → a + x % 128 * 2 ^ (7 * k) < 2 ^ (7 * (k + 1))) := by
  have hb : x % 128 * 2 ^ (7 * k) ≤ 9223372036854775808 ∧ (k ≤ 8 → x % 128 * 2 ^ (7 * k) ≤ 127 * 2 ^ (7 * k)) := by
    constructor
    · rcases hk with hk | ⟨rfl, hx⟩
      · have h1 : (2 : Nat) ^ (7 * k) ≤ 2 ^ (7 * 8) := Nat.pow_le_pow_right (by omega) (by omega)
        have h2 : x % 128 * 2 ^ (7 * k) ≤ 127 * 2 ^ (7 * 8) := Nat.mul_le_mul (by omega) h1
        have e : (2 : Nat) ^ (7 * 8) = 72057594037927936 := rfl
        rw [e] at h2
        omega
      · have e : (2 : Nat) ^ (7 * 9) = 9223372036854775808 := rfl
        rw [e]
        omega
    · intro _
      exact Nat.mul_le_mul_right _ (by omega)
  have ha' : a < 9223372036854775808 := by
    have h1 : (2 : Nat) ^ (7 * k) ≤ 2 ^ (7 * 9) := Nat.pow_le_pow_right (by omega) (by omega)
    have e : (2 : Nat) ^ (7 * 9) = 9223372036854775808 := rfl
    rw [e] at h1
    omega
  refine ⟨?_, by omega, fun h => ?_⟩
  · have hz : (x : Int) % 128 * 2 ^ (7 * k) = ((x % 128 * 2 ^ (7 * k) : Nat) : Int) := by
      simp only [Int.natCast_mul, Int.natCast_emod, Int.natCast_pow]
      rfl
    rw [hz, IntWalk.u64_in _ ⟨by omega, by omega⟩, u64_or_nat a _ (by omega) (by omega)]
    congr 1
    rw [Nat.or_comm, nat_join (7 * k) _ a (Nat.mul_mod_left _ _) ha, Nat.add_comm]
  · have := hb.2 h
    rw [pow_up]
    omega

/-- At the loop's head: what is still to be read, with what was read. -/
def RdInv (xs : List Nat) (k : Nat) (U : Int) : Prop := ∃ a : Nat, rd xs = rdF k a (xs.drop k) ∧ (k ≤ 9 → U = (a : Int) ∧ a < 2 ^ (7 * k))

set_option maxRecDepth 100000 in
set_option maxHeartbeats 4000000 in
theorem vread_any (A : Option Addr) (n c : Nat) (xs : List Nat) (w : World) (hr : Rd .u8 w A n (ints xs)) (hw : ∀ x ∈ xs, x < 256) (hnc : n ≤ c) (hl : c ≤ maxLen) :
    Calls Tryz.prog 50 #[.slice A n c] w (ReadPost w (rd xs)) := by
  unfold maxLen at hl
  have hx : xs.length = n := by have := hr.1; rwa [ints_length] at this
  have HW := Lib.hid hw
  have HR := Lib.hid hr
  have HX := Lib.hid hx
  clear hw hr hx
  go_enter Tryz.func50, Tryz.ntmps50
  go_wp2
  all_goals
    go_loop [4, 13] (fun u i => ∃ (k : Nat) (U : Int), k ≤ n ∧ k ≤ 10 ∧ i = .int .i64 k ∧ u = .int .u64 U ∧ RdInv xs k U) (fun _ i => 10 - (intOf i).toNat)
    case atStart => exact ⟨0, 0, Nat.zero_le _, Nat.zero_le _, rfl, rfl, 0, rfl, fun _ => ⟨rfl, by omega⟩⟩
    case round =>
      obtain ⟨k, U, hk, hk10, rfl, rfl, hinv⟩ := hrel
      by_cases hlt : k < n ∧ k < 10
      · obtain ⟨hkn, hk9⟩ := hlt
        obtain ⟨ad, rfl, hcell⟩ := HR.out.at_ hkn
        rw [ints_getD] at hcell
        have hkl : k < xs.length := by rw [HX.out]; exact hkn
        obtain ⟨x, hx⟩ : ∃ x, x = xs.getD k 0 := ⟨_, rfl⟩
        have hx256 : x < 256 := HW.out x (by rw [hx]; simp [List.getD, hkl])
        have HC : Hid (xs.drop k = x :: xs.drop (k + 1)) := Lib.hid (by rw [hx]; exact drop_cons_getD xs k hkl)
        rw [← hx] at hcell
        clear hx hkl
        obtain ⟨a, hrd, hU⟩ := hinv
        obtain ⟨rfl, ha⟩ := hU (by omega)
        have HA := Lib.hid ha
        have HV := Lib.hid hrd
        clear hU ha hrd
        by_cases hc : 128 ≤ x
        · have HI : Hid (RdInv xs (k + 1) (bits .or .u64 (a : Int) (IntKind.u64.wrap ((x : Int) % 128 * 2 ^ (7 * k))))) := Lib.hid ⟨a + x % 128 * 2 ^ (7 * k), by rw [HV.out, HC.out, rdF_more hk9 hc], fun h => by
            have := or_step a k x (.inl (by omega)) HA.out
            exact ⟨this.1, this.2.2 (by omega)⟩⟩
          go_wp2
          go_round
          case rel => exact ⟨k + 1, _, by omega, by omega, by go_num, rfl, HI.out⟩
          case measure => simp [intOf]; omega
        · by_cases hbad : (x = 0 ∧ 0 < k) ∨ (k = 9 ∧ 1 < x)
          · have HI : Hid (rd xs = none) := Lib.hid (by rw [HV.out, HC.out, rdF_bad hk9 (by omega) hbad])
            by_cases h0 : x = 0
            · have b0 := veqT (show (x : Int) = 0 by omega)
              have b1 : 0 < k := by omega
              clear hbad h0
              go_wp2
              go_ret2
              exact ⟨by rw [HI.out]; rfl, rfl⟩
            · have b0 := veqF (show (x : Int) ≠ 0 by omega)
              have b9 := veqT (show (k : Int) = 9 by omega)
              have b1 : 1 < x := by omega
              clear hbad h0
              go_wp2
              go_ret2
              exact ⟨by rw [HI.out]; rfl, rfl⟩
          · have hs := or_step a k x (by omega) HA.out
            obtain ⟨u, hu⟩ : ∃ u, u = a + x % 128 * 2 ^ (7 * k) := ⟨_, rfl⟩
            rw [← hu] at hs
            have HI : Hid (rd xs = some (u, k + 1)) := Lib.hid (by rw [HV.out, HC.out, rdF_last hk9 (by omega) hbad, hu])
            obtain ⟨hor, hu64, _⟩ := hs
            clear hu
            by_cases h0 : x = 0
            · have b0 := veqT (show (x : Int) = 0 by omega)
              have b1 : k ≤ 0 := by omega
              have b9 := veqF (show (k : Int) ≠ 9 by omega)
              clear hbad h0
              go_wp2_with fail
              refine (unpair_any u _ hu64).mono ?_
              rintro e w' ⟨rfl, rfl⟩
              go_wp2
              go_ret2
              exact ⟨by rw [HI.out]; rfl, rfl⟩
            · have b0 := veqF (show (x : Int) ≠ 0 by omega)
              by_cases h9 : k = 9
              · have b9 := veqT (show (k : Int) = 9 by omega)
                have b1 : x ≤ 1 := by omega
                clear hbad h0 h9
                go_wp2_with fail
                refine (unpair_any u _ hu64).mono ?_
                rintro e w' ⟨rfl, rfl⟩
                go_wp2
                go_ret2
                exact ⟨by rw [HI.out]; rfl, rfl⟩
              · have b9 := veqF (show (k : Int) ≠ 9 by omega)
                clear hbad h0 h9
                go_wp2_with fail
                refine (unpair_any u _ hu64).mono ?_
                rintro e w' ⟨rfl, rfl⟩
                go_wp2
                go_ret2
                exact ⟨by rw [HI.out]; rfl, rfl⟩
      · have HI : Hid (rd xs = none) := Lib.hid (by
          obtain ⟨a, hrd, _⟩ := hinv
          rw [hrd]
          rcases Nat.lt_or_ge k 10 with h | h
          · rw [List.drop_eq_nil_of_le (by rw [HX.out]; omega)]; rfl
          · exact rdF_over h _ _)
        clear hinv
        go_wp2
        go_ret2
        exact ⟨by rw [HI.out]; rfl, rfl⟩
end Go.Proofs.YtlakkhhibdcjaaaGreatDoor

namespace Go.Proofs.YtlakkhhibdcjaaaGreatDoor
open Go.RowKit
set_option linter.unusedVariables false

set_option maxHeartbeats 1000000 in
theorem get_none (A : Option Addr) (n c : Nat) (xs : List Nat) (w : World) (hr : Rd .u8 w A n (ints xs)) (hw : ∀ x ∈ xs, x < 256) (hnc : n ≤ c) (hl : c ≤ maxLen) (h : rd xs = none) :
    Calls Tryz.prog 26 #[.slice A n c] w fun e w' => e = .returned (.tuple #[.int .i64 0, .slice none 0 0, .bool false]) ∧ w = w' := by
  have hp := vread_any A n c xs w hr hw hnc hl
  rw [h] at hp
  have HP := Lib.hid hp
  clear h hp hw hr
  go_enter Tryz.func26, Tryz.ntmps26
  go_wp2_with fail
  refine HP.out.mono ?_
  rintro e w' ⟨rfl, rfl⟩
  have hr : rdRes none = .tuple #[.int .i64 0, .int .i64 0] := rfl
  rw [hr]
  clear hr
  go_wp2
  go_ret3
  exact ⟨rfl, rfl⟩

/-- It hands back a number, bytes of its own, and true. -/
def GetRes (w : World) (n : Int) (xs : List Nat) (e : Ending) (w' : World) : Prop :=
  ∃ v, e = .returned (.tuple #[.int .i64 n, v, .bool true]) ∧ Own 5 .u8 w' w.heap.size v xs.length (ints xs) ∧ Below w.heap.size w w'

set_option maxHeartbeats 1000000 in
theorem get_some (A : Option Addr) (n c : Nat) (xs : List Nat) (w : World) (u s : Nat) (hr : Rd .u8 w A n (ints xs)) (hw : ∀ x ∈ xs, x < 256) (hnc : n ≤ c) (hl : c ≤ maxLen) (hn : n ≤ 200000000000000) (h : rd xs = some (u, s)) :
    Calls Tryz.prog 26 #[.slice A n c] w (GetRes w (unp u) (xs.drop s)) := by
  obtain ⟨s1, s2, s3⟩ := rd_size hw h
  have hx : xs.length = n := by have := hr.1; rwa [ints_length] at this
  rw [hx] at s3
  have hp := vread_any A n c xs w hr hw hnc hl
  rw [h] at hp
  have HP := Lib.hid hp
  have HR := Lib.hid hr
  unfold maxLen at hl
  clear h hp hw hr hx
  have b0 := veqF (show (s : Int) ≠ 0 by omega)
  go_enter Tryz.func26, Tryz.ntmps26
  go_wp2_with fail
  refine HP.out.mono ?_
  rintro e w' ⟨rfl, rfl⟩
  have hr : rdRes (some (u, s)) = .tuple #[.int .i64 (unp u), .int .i64 (s : Int)] := rfl
  rw [hr]
  clear hr
  have hcut := HR.out.cut (j := s) (cap := c) s3 hnc
  rw [ints_drop] at hcut
  have HC := Lib.hid hcut
  clear hcut
  go_wp2_with fail
  all_goals
    refine (vclone_any _ (n - s) _ (xs.drop s) _ (by
      have hcut := HC.out
      first
        | (rw [if_pos (by assumption)] at hcut; exact hcut)
        | (rw [if_neg (by assumption)] at hcut; exact hcut)) (by omega)).mono ?_
    rintro e w1 ⟨v, rfl, ho, hb⟩
    have HO := Lib.hid ho
    have HB := Lib.hid hb
    clear ho hb
    go_wp2
    go_ret3
    exact ⟨v, rfl, HO.out, HB.out⟩

/-- What is laid and read back. -/
theorem get_enc (A : Option Addr) (n c : Nat) (m : Int) (r : List Nat) (w : World) (hr : Rd .u8 w A n (ints (enc (pairN m) ++ r))) (hw : ∀ x ∈ r, x < 256) (hnc : n ≤ c) (hl : c ≤ maxLen) (hn : n ≤ 200000000000000)
    (m1 : -9223372036854775808 ≤ m) (m2 : m ≤ 9223372036854775807) : Calls Tryz.prog 26 #[.slice A n c] w (GetRes w m r) := by
  have h := get_some A n c _ w _ _ hr (fun x hx => (List.mem_append.1 hx).elim (enc_bytes _ x) (hw x)) hnc hl hn (rd_enc (pairN_lt m1 m2) r)
  rw [unp_pair, List.drop_left] at h
  exact h
end Go.Proofs.YtlakkhhibdcjaaaGreatDoor
