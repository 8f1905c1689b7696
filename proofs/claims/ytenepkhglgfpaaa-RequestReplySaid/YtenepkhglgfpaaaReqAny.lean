/-
  request.Read and request.ReadReply of any bytes.
-/
import Derived.Test.YtenepkhglgfpaaaReqReadYes
import Derived.Test.YtenepkhglgfpaaaReqReply
namespace Go.Proofs.Ytenepkhglgfpaaa
open Go Go.RowKit

/-- Of any bytes: a request that may be, of just these bytes, and what is behind it; or none. -/
def AnyRes (w : World) (xs : List Nat) (e : Ending) (w' : World) : Prop :=
  (∃ (r : Rq) (t : List Nat), xs = encs r.nums ++ t ∧ r.fits ∧ r.may ∧ ReadYes w r t e w') ∨ ReadNo w e w'
theorem read_any (A : Option Addr) (n c : Nat) (xs : List Nat) (w : World) (hr : Rd .u8 w A n (ints xs)) (hnc : n ≤ c) (hl : c ≤ maxLen) (hn : n ≤ 200000000000000) (hb : ∀ x ∈ xs, x < 256) :
    Calls Try.prog 16 #[.slice A n c] w (AnyRes w xs) := by
  obtain ⟨ns, t, h1, h2, h3⟩ := reads_of xs hb 7
  have ht : ∀ x ∈ t, x < 256 := fun x hx => hb x (by rw [h1]; exact List.mem_append_right _ hx)
  rw [h1] at hr
  rcases h3 with h3 | ⟨h3, h4⟩
  · obtain ⟨r, rfl⟩ := Rq.of_nums h3
    refine (read_seven A n c r t w hr hnc hl hn ht h2).mono ?_
    rintro e w' (⟨hm, h⟩ | ⟨_, h⟩)
    · exact .inl ⟨r, t, h1, h2, hm, h⟩
    · exact .inr h
  · exact (read_short A n c ns t w hr hnc hl hn ht h2 h3 h4).mono fun _ _ h => .inr h

/-- The same of replies. -/
def AnyReply (w : World) (xs : List Nat) (e : Ending) (w' : World) : Prop :=
  (∃ (x i : Int) (t : List Nat), xs = encs [x, i] ++ t ∧ inI x ∧ inI i ∧ ReplyYes w x i t e w') ∨ ReplyNo w e w'
theorem reply_any (A : Option Addr) (n c : Nat) (xs : List Nat) (w : World) (hr : Rd .u8 w A n (ints xs)) (hnc : n ≤ c) (hl : c ≤ maxLen) (hn : n ≤ 200000000000000) (hb : ∀ x ∈ xs, x < 256) :
    Calls Try.prog 18 #[.slice A n c] w (AnyReply w xs) := by
  obtain ⟨ns, t, h1, h2, h3⟩ := reads_of xs hb 2
  have ht : ∀ x ∈ t, x < 256 := fun x hx => hb x (by rw [h1]; exact List.mem_append_right _ hx)
  rw [h1] at hr
  rcases h3 with h3 | ⟨h3, h4⟩
  · match ns, h3 with
    | [x, i], _ =>
      refine (reply_two A n c x i t w hr hnc hl hn ht h2).mono ?_
      rintro e w' (⟨hm, h⟩ | ⟨_, h⟩)
      · exact .inl ⟨x, i, t, h1, h2 x (by simp), h2 i (by simp), h⟩
      · exact .inr h
  · exact (reply_short A n c ns t w hr hnc hl hn ht h2 h3 h4).mono fun _ _ h => .inr h
end Go.Proofs.Ytenepkhglgfpaaa
