/-
  Requests and replies: the plain words: seven numbers and two, which may be, and what begins with them.
-/
import Derived.Test.YtenepkhglgfpaaaVarPlain
import Derived.Test.YtenepkhglgfpaaaProg
namespace Go.Proofs.Ytenepkhglgfpaaa
open Go

/-- A request's numbers, in the order of its fields. -/
structure Rq where
  key : Int
  op : Int
  a : Int
  b : Int
  amt : Int
  legs : Int
  til : Int
deriving DecidableEq

def Rq.nums (r : Rq) : List Int := [r.key, r.op, r.a, r.b, r.amt, r.legs, r.til]
def Rq.val (r : Rq) : Value := .agg #[.int .i64 r.key, .int .i64 r.op, .int .i64 r.a, .int .i64 r.b, .int .i64 r.amt, .int .i64 r.legs, .int .i64 r.til]
def Rq.zero : Rq := ⟨0, 0, 0, 0, 0, 0, 0⟩
def inI (x : Int) : Prop := -9223372036854775808 ≤ x ∧ x ≤ 9223372036854775807
def Rq.fits (r : Rq) : Prop := ∀ x ∈ r.nums, inI x

/-- What depends on the op. -/
def opOk (r : Rq) : Prop := if r.op = 0 then 0 ≤ r.a ∧ r.a ≤ 2 else r.op = 5 ∨ (0 < r.op ∧ r.op < 8 ∧ 1 ≤ r.amt ∧ r.amt ≤ 1099511627776)
instance (r : Rq) : Decidable (opOk r) := by unfold opOk; exact inferInstance
def legsOk (r : Rq) : Prop := if r.op = 2 then 0 ≤ r.legs ∧ r.legs ≤ 4 else r.legs = 0
instance (r : Rq) : Decidable (legsOk r) := by unfold legsOk; exact inferInstance
/-- Which requests may be. -/
def Rq.may (r : Rq) : Prop := (0 ≤ r.key ∧ r.key ≤ 1073741823) ∧ legsOk r ∧ (0 ≤ r.til ∧ r.til ≤ 1073741824) ∧ opOk r
instance (r : Rq) : Decidable r.may := by unfold Rq.may; exact inferInstance

theorem inI_of {x : Int} (h : inI x) : -9223372036854775808 ≤ x ∧ x ≤ 9223372036854775807 := h
theorem Rq.fits_iff (r : Rq) : r.fits ↔ inI r.key ∧ inI r.op ∧ inI r.a ∧ inI r.b ∧ inI r.amt ∧ inI r.legs ∧ inI r.til := by
  unfold Rq.fits Rq.nums
  simp

theorem Rq.nums_len (r : Rq) : r.nums.length = 7 := rfl
theorem Rq.nums_inj {r q : Rq} (h : r.nums = q.nums) : r = q := by
  obtain ⟨a, b, c, d, e, f, g⟩ := r
  obtain ⟨a', b', c', d', e', f', g'⟩ := q
  simp [Rq.nums] at h
  simp [h]
/-- Seven numbers are a request's. -/
theorem Rq.of_nums {ns : List Int} (h : ns.length = 7) : ∃ r : Rq, ns = r.nums := by
  match ns, h with
  | [a, b, c, d, e, f, g], _ => exact ⟨⟨a, b, c, d, e, f, g⟩, rfl⟩

/-- Any bytes begin with so many numbers, or with fewer, and then with none. -/
theorem reads_of (xs : List Nat) (hb : ∀ c ∈ xs, c < 256) : ∀ k : Nat, ∃ (ns : List Int) (t : List Nat), xs = encs ns ++ t ∧ (∀ x ∈ ns, -9223372036854775808 ≤ x ∧ x ≤ 9223372036854775807) ∧ (ns.length = k ∨ (ns.length < k ∧ rd t = none))
  | 0 => ⟨[], xs, rfl, by simp, .inl rfl⟩
  | k + 1 => by
    obtain ⟨ns, t, h1, h2, h3⟩ := reads_of xs hb k
    rcases h3 with h3 | ⟨h3, h4⟩
    · cases h : rd t with
      | none => exact ⟨ns, t, h1, h2, .inr ⟨by omega, h⟩⟩
      | some p =>
        obtain ⟨u, s⟩ := p
        obtain ⟨g1, _, g3⟩ := rd_some (fun c hc => hb c (by rw [h1]; exact List.mem_append_right _ hc)) h
        refine ⟨ns ++ [unp u], t.drop s, ?_, ?_, .inl (by simp [h3])⟩
        · rw [encs_append, encs_one, pair_unp, List.append_assoc, ← g3]; exact h1
        · intro x hx
          rcases List.mem_append.1 hx with hx | hx
          · exact h2 x hx
          · obtain rfl : x = unp u := by simpa using hx
            exact unp_bd g1
    · exact ⟨ns, t, h1, h2, .inr ⟨by omega, h4⟩⟩

/-- The numbers that bytes begin with are the only ones, of so many. -/
theorem encs_two : ∀ (ns ms : List Int) (t q : List Nat), ns.length = ms.length → (∀ x ∈ ns, -9223372036854775808 ≤ x ∧ x ≤ 9223372036854775807) → (∀ x ∈ ms, -9223372036854775808 ≤ x ∧ x ≤ 9223372036854775807) → encs ns ++ t = encs ms ++ q → ns = ms ∧ t = q
  | [], [], t, q, _, _, _, h => ⟨rfl, h⟩
  | n :: ns, m :: ms, t, q, hl, hn, hm, h => by
    rw [encs_cons, encs_cons, List.append_assoc, List.append_assoc] at h
    have h1 := enc_two (pairN_lt (hn n (by simp)).1 (hn n (by simp)).2) (pairN_lt (hm m (by simp)).1 (hm m (by simp)).2) _ _ h
    obtain rfl := pairN_inj h1
    obtain ⟨rfl, rfl⟩ := encs_two ns ms t q (by simpa using hl) (fun x hx => hn x (by simp [hx])) (fun x hx => hm x (by simp [hx])) (List.append_cancel_left h)
    exact ⟨rfl, rfl⟩
end Go.Proofs.Ytenepkhglgfpaaa
