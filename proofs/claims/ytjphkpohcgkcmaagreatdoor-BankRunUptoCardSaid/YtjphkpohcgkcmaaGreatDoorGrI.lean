/-
  Slices of requests and of replies: their shapes and cells.
  A state stays what it is when a list that lies elsewhere grows.
  A slice of replies with room for all that are to come.
  An append of one record to a slice with room: it stays where it is.
  What a bank does leaves right states right: plain words, no program.
  What requests one behind the other come to: plain words, no program.
  A slice of answers, cut in front; it stays when a state is stored.
-/
import Derived.Test.YtjphkpohcgkcmaaGreatDoorGrB
import Derived.Test.YtjphkpohcgkcmaaGreatDoorGrA
import Derived.Maps.AppendAt
import Derived.Test.YtjphkpohcgkcmaaGreatDoorBankSt
import Derived.Deep.AppendLies
import Derived.RegionTactic
import Derived.Laws.MakeOwn
import Derived.Test.YtjphkpohcgkcmaaGreatDoorBankPlain
import Derived.Test.YtjphkpohcgkcmaaGreatDoorBankOn
import Derived.Deep.CutRange
namespace Go.Proofs.YtjphkpohcgkcmaaGreatDoor
open Go Go.RowKit Go.ChangeShapes Go.WideShapes Go.Deep Go.Joins
set_option linter.unusedVariables false

def Rq.cells (z : Rq) : List Value := [.int .i64 z.key, .int .i64 z.op, .int .i64 z.a, .int .i64 z.b, .int .i64 z.amt, .int .i64 z.legs, .int .i64 z.til]
def rqs : Shape Rq := ⟨7, 42, Rq.cells, by omega, fun _ => rfl, fun a u hu => by
  simp only [Rq.cells, List.mem_cons, List.not_mem_nil, or_false] at hu
  rcases hu with rfl | rfl | rfl | rfl | rfl | rfl | rfl <;> rfl⟩
/-- The cells of the request at j. -/
theorem rqs_cells {w : World} {ad : Addr} {j : Nat} {k : Rq} (h : AtS rqs w ad j k) :
    w.cell? (ad.add (j * 7)) = some (.int .i64 k.key) ∧
    w.cell? ⟨(ad.add (j * 7)).block, (ad.add (j * 7)).off + 1, none⟩ = some (.int .i64 k.op) ∧
    w.cell? ⟨(ad.add (j * 7)).block, (ad.add (j * 7)).off + 2, none⟩ = some (.int .i64 k.a) ∧
    w.cell? ⟨(ad.add (j * 7)).block, (ad.add (j * 7)).off + 3, none⟩ = some (.int .i64 k.b) ∧
    w.cell? ⟨(ad.add (j * 7)).block, (ad.add (j * 7)).off + 4, none⟩ = some (.int .i64 k.amt) ∧
    w.cell? ⟨(ad.add (j * 7)).block, (ad.add (j * 7)).off + 5, none⟩ = some (.int .i64 k.legs) ∧
    w.cell? ⟨(ad.add (j * 7)).block, (ad.add (j * 7)).off + 6, none⟩ = some (.int .i64 k.til) := by
  refine ⟨h 0 _ rfl, ?_, ?_, ?_, ?_, ?_, ?_⟩ <;> rw [← add_next _ _ _ (by omega)]
  · exact h 1 _ rfl
  · exact h 2 _ rfl
  · exact h 3 _ rfl
  · exact h 4 _ rfl
  · exact h 5 _ rfl
  · exact h 6 _ rfl
/-- What is told: the error and the number. -/
def rps : Shape (Int × Int) := ⟨2, 50, fun z => [.int .i64 z.1, .int .i64 z.2], by omega, fun _ => rfl, fun a u hu => by
  simp only [List.mem_cons, List.not_mem_nil, or_false] at hu
  rcases hu with rfl | rfl <;> rfl⟩
theorem rps_cells {w : World} {ad : Addr} {j : Nat} {k : Int × Int} (h : AtS rps w ad j k) :
    w.cell? (ad.add (j * 2)) = some (.int .i64 k.1) ∧
    w.cell? ⟨(ad.add (j * 2)).block, (ad.add (j * 2)).off + 1, none⟩ = some (.int .i64 k.2) := by
  refine ⟨h 0 _ rfl, ?_⟩
  rw [← add_next _ _ _ (by omega)]
  exact h 1 _ rfl
/-- An append of one record: what it makes lies where the slice lay, or in a new block. -/
theorem wpList_append_at {α : Type} {S : Shape α} {P : Program} {bytes : Nat} {z : Value} (st : TypeId) (hu : P.underlying st = some (.slice S.ty)) (hinfo : (P.info? S.ty).map (fun i => (i.zero, i.size, i.bytes)) = some (some z, S.size, bytes)) (hzc : z.cells.size = S.size)
    {ops : Array Oper} {rest : List Oper} {o : Oper} {a : Act} {Q : Exit → Act → World → Prop} (w : World) (hgd : o.guard = none) (s x : Operand)
    (ho : o.op = .call { callee := .builtin .append, args := #[s, x], argTypes := #[st, st] })
    (base : Nat) (v : Value) (zs : List α) (hs : a.eval s = v) (hown : OwnS S w base v zs) (ad : Addr) (c : Nat) (b : α) (hx : a.eval x = .slice (some ad) 1 c) (hc : AtS S w ad 0 b) (hl : zs.length ≤ 17592186043904) (hby : (zs.length + 1) * bytes ≤ 140737488355328) (hbase : base ≤ w.heap.size)
    (h : ∀ v' w', OwnS S w' base v' (zs ++ [b]) → w.grownBy w' v.ownBlock → (v'.ownBlock = v.ownBlock ∨ v'.ownBlock = some w.heap.size) → wpList P ops Q rest (a.put o.dst v') w') : wpList P ops Q (o :: rest) a w :=
  wpList_plain hgd fun _ hK => by
    obtain ⟨i0, hi, hz0, hz1, hz2⟩ := info_parts hinfo
    have hfl : S.flat [b] = S.cells b := by simp [Shape.flat]
    obtain ⟨v', w', hrun, h2, h3, _, h5⟩ := run_append_own_at (P := P) w base st o.type S.ty i0 _ S.size bytes hu hi hz0 hz1 hz2 hzc S.pos v zs.length (S.flat zs) hown ad 1 c (S.flat [b]) (by rw [hfl, S.len, Nat.one_mul])
      (fun j u hu => by
        rw [hfl] at hu
        have := hc j u hu
        rw [Nat.zero_mul, Nat.zero_add] at this
        exact this) (S.flat_one _) (by simp only [maxLen]; omega) hby hbase
    unfold Oper.wp execOp
    simp only [ho, resolve, invoke, builtin, Sem.run_bind, Sem.run_pure, Result.andThen_ok, List.map_toArray, List.map_cons, List.map_nil, hs, hx, hrun]
    refine hK _ _ (h v' w' ?_ h3 h5)
    unfold OwnS
    rw [List.length_append, S.flat_append]
    exact h2
end Go.Proofs.YtjphkpohcgkcmaaGreatDoor

namespace Go.Proofs.YtjphkpohcgkcmaaGreatDoor
open Go Go.RowKit
set_option linter.unusedVariables false

section
variable {w w' : World} {g : Option Nat}
theorem cell_grow {ad : Addr} {u : Value} (hk : w.grownBy w' g) (h : w.cell? ad = some u) (hg : g ≠ some ad.block) : w'.cell? ad = some u := by
  have hlt : ad.block < w.heap.size := World.block_lt_of_cell? _ _ h
  rw [hk.cell_far ad hlt (fun e => hg e.symm), h]
theorem RdS.grow {α : Type} {S : Shape α} {A : Option Addr} {zs : List α} (h : RdS S w A zs) (hk : w.grownBy w' g) (hg : 0 < zs.length → ∀ a, A = some a → g ≠ some a.block) : RdS S w' A zs := fun hn => by
  obtain ⟨ad, he, hc⟩ := h hn
  exact ⟨ad, he, fun j b hj i u hu => cell_grow hk (hc j b hj i u hu) (by rw [add_block]; exact hg hn ad he)⟩
theorem RdA.grow {A : Option Addr} {zs : List Ac} (h : RdA w A zs) (hk : w.grownBy w' g) (hg : 0 < zs.length → ∀ a, A = some a → g ≠ some a.block) : RdA w' A zs := fun hn => by
  obtain ⟨ad, he, hc⟩ := h hn
  have hb : ∀ i, g ≠ some (ad.add i).block := fun i => by rw [add_block]; exact hg hn ad he
  exact ⟨ad, he, fun j b hj => ⟨cell_grow hk (hc j b hj).c0 (hb _), cell_grow hk (hc j b hj).c1 (hb _), cell_grow hk (hc j b hj).c2 (hb _)⟩⟩
theorem SkAt.grow {V : Sv} {T : St} {sl : List Sg} {kl : List Kn} (h : SkAt w V T sl kl) (hk : w.grownBy w' g) (hg : V.in_ (fun b => g ≠ some b)) : SkAt w' V T sl kl :=
  ⟨h.n, h.q, h.xn, h.yn, h.t, h.accs.grow hk (by rw [h.n]; exact hg.1), h.pays.grow hk (by rw [h.q]; exact hg.2.1), h.sag.grow hk (fun hl a e => hg.2.2.1 a.block (full_some (by rw [← h.xn]; exact hl) e)), h.kn.grow hk (fun hl a e => hg.2.2.2 a.block (full_some (by rw [← h.yn]; exact hl) e)), h.sa, h.sp, h.sx, h.sy⟩
theorem Blk.grow {b : Nat} {t : TypeId} {vs : Array Value} (h : Blk w b t vs) (hk : w.grownBy w' g) (hg : g ≠ some b) : Blk w' b t vs :=
  (hk.block b h.lt (fun e => hg e.symm)).trans h
theorem Sv.in_.mono {V : Sv} {p q : Nat → Prop} (h : V.in_ p) (hpq : ∀ b, p b → q b) : V.in_ q :=
  ⟨fun hn a e => hpq _ (h.1 hn a e), fun hn a e => hpq _ (h.2.1 hn a e), fun b e => hpq _ (h.2.2.1 b e), fun b e => hpq _ (h.2.2.2 b e)⟩
end
end Go.Proofs.YtjphkpohcgkcmaaGreatDoor

namespace Go.Proofs.YtjphkpohcgkcmaaGreatDoor
open Go Go.RowKit
set_option linter.unusedVariables false

theorem info_rps : (Tryz.prog.info? 50).map (fun i => (i.zero, i.size, i.bytes)) = some (some (.agg #[.int .i64 0, .int .i64 0]), 2, 16) := by kernel_rfl
theorem run_make_rps (n : Nat) (hn : n ≤ 8796093022207) (W : World) : (Instr.makeSlice 44 (.int .i64 0) (.int .i64 (n : Int))).run Tryz.prog W = .ok (.slice (some ⟨W.heap.size, 0, none⟩) 0 n) (W.alloc (.cells (madeCells #[.int .i64 0, .int .i64 0] (n * 2)) 50)) := by
  obtain ⟨i0, hi, hz0, hz1, hz2⟩ := info_parts info_rps
  have h := run_make (P := Tryz.prog) W 44 50 i0 (.agg #[.int .i64 0, .int .i64 0]) Tryz.underlying44 hi hz0 .i64 .i64 0 (n : Int) (by omega) (by omega) (by rw [hz2]; omega) (by omega)
  rw [hz1] at h
  have e2 : ((n : Int)).toNat = n := by omega
  rw [e2] at h
  exact h
/-- Made with room, with nothing in it. -/
theorem own_room (w : World) (n : Nat) (hn : n ≤ 8796093022207) : OwnS rps (w.alloc (.cells (madeCells #[.int .i64 0, .int .i64 0] (n * 2)) 50)) w.heap.size (.slice (some ⟨w.heap.size, 0, none⟩) 0 n) [] := by
  unfold OwnS
  refine ⟨rfl, .inr ⟨w.heap.size, n, _, rfl, Nat.le_refl _, heap_alloc_new w _, Nat.zero_le _, by simp only [maxLen]; omega, ?_, ?_⟩⟩
  · simp [madeCells, rps]
  · simp [Shape.flat]
end Go.Proofs.YtjphkpohcgkcmaaGreatDoor

namespace Go.Proofs.YtjphkpohcgkcmaaGreatDoor
open Go Go.RowKit
set_option linter.unusedVariables false

/-- With room for one more, the slice stays in its block. -/
theorem wpList_append_in {α : Type} {S : Shape α} {P : Program} {bytes : Nat} {z : Value} (st : TypeId) (hu : P.underlying st = some (.slice S.ty)) (hinfo : (P.info? S.ty).map (fun i => (i.zero, i.size, i.bytes)) = some (some z, S.size, bytes)) (hzc : z.cells.size = S.size)
    {ops : Array Oper} {rest : List Oper} {o : Oper} {a : Act} {Q : Exit → Act → World → Prop} (w : World) (hgd : o.guard = none) (s x : Operand)
    (ho : o.op = .call { callee := .builtin .append, args := #[s, x], argTypes := #[st, st] })
    (base g n cap : Nat) (zs : List α) (hs : a.eval s = .slice (some ⟨g, 0, none⟩) n cap) (hown : OwnS S w base (.slice (some ⟨g, 0, none⟩) n cap) zs) (hn : zs.length = n) (hroom : n + 1 ≤ cap) (ad : Addr) (c : Nat) (b : α) (hx : a.eval x = .slice (some ad) 1 c) (hc : AtS S w ad 0 b)
    (h : ∀ w', OwnS S w' base (.slice (some ⟨g, 0, none⟩) (n + 1) cap) (zs ++ [b]) → w.grownBy w' (some g) → wpList P ops Q rest (a.put o.dst (.slice (some ⟨g, 0, none⟩) (n + 1) cap)) w') : wpList P ops Q (o :: rest) a w :=
  wpList_plain hgd fun _ hK => by
    subst hn
    obtain ⟨i0, hi, hz0, hz1, hz2⟩ := info_parts hinfo
    have hfl : S.flat [b] = S.cells b := by simp [Shape.flat]
    have hl : (S.flat [b]).length = 1 * i0.size := by rw [hfl, S.len, hz1, Nat.one_mul]
    have hnews : ∀ (j : Nat) (u : Value), (S.flat [b])[j]? = some u → w.cell? (ad.add j) = some u := fun j u hu => by
      rw [hfl] at hu
      have := hc j u hu
      rw [Nat.zero_mul, Nat.zero_add] at this
      exact this
    rcases hown.2 with ⟨e, _⟩ | ⟨g', cap', cur, e, hbg, hg, hnc, hcm, hcs, htake⟩
    · injection e with e1 _ _
      exact absurd e1 (by simp)
    · injection e with e1 e2 e3
      injection e1 with e1
      injection e1 with e1 _ _
      subst e1
      subst e3
      have hfit : zs.length * i0.size + (S.flat [b]).length ≤ cur.size := by rw [hl, hcs, hz1, ← Nat.add_mul]; exact Nat.mul_le_mul_right _ hroom
      have hr := run_append_room (P := P) w st o.type S.ty i0 hu hi g zs.length cap cur hg ad 1 c (S.flat [b]) hl hnews (S.flat_one _) hroom hfit
      unfold Oper.wp execOp
      simp only [ho, resolve, invoke, builtin, Sem.run_bind, Sem.run_pure, Result.andThen_ok, List.map_toArray, List.map_cons, List.map_nil, hs, hx, hr]
      have hlen : (S.flat zs ++ S.flat [b]).length = (zs.length + 1) * S.size := by rw [List.length_append, hl, S.flat_len, hz1, ← Nat.add_mul]
      refine hK _ _ (h _ ?_ ⟨rfl, rfl, rfl, by simp, fun k _ hk => setRow_other w g k _ (fun e => hk (by rw [e]))⟩)
      unfold OwnS
      rw [List.length_append, S.flat_append]
      refine ⟨hlen, .inr ⟨g, cap, _, rfl, hbg, setRow_heap w g cur _ S.ty _ hg, hroom, hcm, ?_, ?_⟩⟩
      · simp only [List.size_toArray, List.length_append, List.length_take, List.length_drop, Array.length_toList]
        omega
      · have hh : (zs ++ [b]).length = zs.length + 1 := by simp
        rw [hz1, htake]
        first
          | (rw [← hlen]; exact List.take_left)
          | (rw [show (zs.length + [b].length) * S.size = (S.flat zs ++ S.flat [b]).length from by rw [hlen]; simp]; exact List.take_left)
end Go.Proofs.YtjphkpohcgkcmaaGreatDoor

namespace Go.Proofs.YtjphkpohcgkcmaaGreatDoor
open Go Go.RowKit
set_option linter.unusedVariables false

theorem hold_curs {zs : List Ac} {k x : Int} (h : holdE zs k x = 0) (j : Int) : curOf (holdL zs k x) j = curOf zs j := by
  obtain ⟨h1, h2, h3⟩ := holdE_ok h
  obtain ⟨q, rfl⟩ : ∃ q : Nat, k = (q : Int) := ⟨k.toNat, by omega⟩
  obtain ⟨a, ha⟩ : ∃ a, zs[q]? = some a := ⟨_, List.getElem?_eq_getElem (by omega)⟩
  unfold holdL heldAs
  rw [if_pos h, acOf_at ha, Int.toNat_natCast]
  unfold curOf
  split
  · by_cases hj : q = j.toNat
    · rw [← hj, List.getElem?_set_self (by omega), ha]
    · rw [List.getElem?_set_ne hj]
  · rfl
theorem move_curs {zs ys : List Ac} (hl : ys.length = zs.length) (hc : ∀ j, curOf ys j = curOf zs j) (f t n : Int) : moveE ys f t n = moveE zs f t n ∧ moveL ys f t n = moveL zs f t n := by
  have h : moveE ys f t n = moveE zs f t n := by unfold moveE; rw [hl, hc, hc]
  refine ⟨h, ?_⟩
  unfold moveL
  rw [h, hc, hc]
theorem rsv_ok {s : St} {r : Rq} (h : rsvE s r = 0) : (isC s.acs.length r.a ∧ isC s.acs.length r.b) ∧ moveE s.acs r.a r.b r.amt = 0 ∧ holdE s.acs r.a r.amt = 0 ∧ (rsvS s r).acs = holdL s.acs r.a r.amt ∧ (rsvS s r).pys = s.pys ∧ (rsvS s r).now = s.now := by
  have hs : rsvS s r = ⟨holdL s.acs r.a r.amt, s.pys, s.now⟩ := by unfold rsvS; rw [if_pos h]
  unfold rsvE at h
  split at h
  · rename_i hc
    split at h
    · rename_i hm
      exact ⟨hc, hm, h, by rw [hs], by rw [hs], by rw [hs]⟩
    · rename_i hm; exact absurd h hm
  · omega
/-- What is reserved, and settled, is what moves at once; what is undone is nothing. -/
theorem rsv_set {s : St} {r : Rq} (hr : rightB s.acs = true) (h : rsvE s r = 0) :
    setE (rsvS s r) r = postE s.acs (moveL s.acs r.a r.b r.amt) ∧ (postE s.acs (moveL s.acs r.a r.b r.amt) = 0 → setS (rsvS s r) r = ⟨postL s.acs (moveL s.acs r.a r.b r.amt), s.pys, s.now⟩) ∧ undS (rsvS s r) r = s := by
  obtain ⟨hc, hm, hh, e1, e2, e3⟩ := rsv_ok h
  obtain ⟨b1, b2⟩ := hold_back hr hh
  obtain ⟨m1, m2⟩ := move_curs (hold_len hh) (hold_curs hh) r.a r.b r.amt
  have m0 : moveE (holdL s.acs r.a r.amt) r.a r.b r.amt = 0 := by rw [m1]; exact hm
  obtain ⟨s1, s2⟩ := spend_of (y := r.amt) m0
  rw [m2, if_pos b1, b2] at s1 s2
  have hE : setE (rsvS s r) r = postE s.acs (moveL s.acs r.a r.b r.amt) := by
    unfold setE
    rw [e1, m0, if_pos rfl, m2, s1]
  refine ⟨hE, fun h0 => ?_, ?_⟩
  · unfold setS
    rw [hE, if_pos h0, e1, e2, e3, m2, s2]
  · unfold undS undE
    rw [e1, b1, if_pos rfl, b2, e2, e3]
theorem trf_is {s : St} {r : Rq} (hr : rightB s.acs = true) (ls : List Bool) : trf s r ls =
    if rsvE s r = 0 then
      (if (fin ls r).1 = 0 then
        (if postE s.acs (moveL s.acs r.a r.b r.amt) = 0 then ⟨⟨postL s.acs (moveL s.acs r.a r.b r.amt), s.pys, s.now⟩, 0, (fin ls r).2⟩ else ⟨s, postE s.acs (moveL s.acs r.a r.b r.amt), (fin ls r).2⟩)
       else ⟨s, (fin ls r).1, (fin ls r).2⟩)
    else ⟨s, rsvE s r, 0⟩ := by
  unfold trf
  by_cases h : rsvE s r = 0
  · obtain ⟨h1, h2, h3⟩ := rsv_set hr h
    rw [if_pos h, if_pos h, h1, h3]
    by_cases hp : postE s.acs (moveL s.acs r.a r.b r.amt) = 0
    · rw [if_pos hp, if_pos hp, h2 hp]
    · rw [if_neg hp, if_neg hp]
  · rw [if_neg h, if_neg h]
/-- With an error the state is as it was. -/
theorem exe_err {s : St} {r : Rq} {ls : List Bool} (hr : rightB s.acs = true) (h : exeE s r ls ≠ 0) : exeT s r ls = s := by
  unfold exeE at h
  unfold exeT
  by_cases hl : isLong r
  · rw [if_pos hl] at h ⊢
    rw [trf_is hr] at h ⊢
    split
    · rename_i h1
      rw [if_pos h1] at h
      split
      · rename_i h2
        rw [if_pos h2] at h
        split
        · rename_i h3
          rw [if_pos h3] at h
          exact absurd rfl h
        · rfl
      · rfl
    · rfl
  · rw [if_neg hl] at h ⊢
    exact opS_no h
/-- A right state stays so. -/
theorem exe_ok {s : St} {r : Rq} {ls : List Bool} (h : Ok s) (hm : r.may) : Ok (exeT s r ls) := by
  unfold exeT
  by_cases hl : isLong r
  · rw [if_pos hl, trf_is h.right]
    split
    · split
      · split
        · rename_i h3
          exact h.posted h3
        · exact h
      · exact h
    · exact h
  · rw [if_neg hl]
    obtain ⟨m1, m2, m3, m4⟩ := hm
    refine h.do_ r (fun h0 => ?_) (fun _ => m3.2)
    unfold opOk at m4
    rw [if_pos h0] at m4
    omega
theorem bk_ok {s : St} {kl : List Kn} {r : Rq} {ls : List Bool} (h : Ok s) : Ok (bkO s kl r ls).T := by
  unfold bkO
  split
  · rename_i hm
    split
    · exact h
    · split
      · exact exe_ok h hm
      · exact h
  · exact h
theorem bk_len {s : St} {kl : List Kn} {r : Rq} {ls : List Bool} (h : kl.length ≤ 256) : (bkO s kl r ls).kl.length ≤ 256 := by
  unfold bkO
  split
  · split
    · exact h
    · split
      · rename_i hp
        rw [List.length_append, List.length_singleton]
        unfold kputE at hp
        split at hp
        · split at hp <;> omega
        · omega
      · exact h
  · exact h
end Go.Proofs.YtjphkpohcgkcmaaGreatDoor

namespace Go.Proofs.YtjphkpohcgkcmaaGreatDoor
open Go Go.RowKit
set_option linter.unusedVariables false

/-- On the way: the state, the keys, what was told of each, the answers that are left. -/
structure Ru where
  T : St
  kl : List Kn
  os : List (Int × Int)
  ls : List Bool
def Ru.at (X : Ru) (r : Rq) : Bo := bkO X.T X.kl r X.ls
def goR (X : Ru) (r : Rq) : Ru := ⟨(X.at r).T, (X.at r).kl, X.os ++ [((X.at r).E, (X.at r).I)], X.ls.drop (X.at r).n⟩
def runR (X : Ru) (rs : List Rq) : Ru := rs.foldl goR X
/-- The same with nothing told yet. -/
def Ru.new (X : Ru) : Ru := ⟨X.T, X.kl, [], X.ls⟩
theorem runR_nil (X : Ru) : runR X [] = X := rfl
theorem runR_cons (X : Ru) (r : Rq) (rs : List Rq) : runR X (r :: rs) = runR (goR X r) rs := rfl
theorem runR_app (X : Ru) (a b : List Rq) : runR X (a ++ b) = runR (runR X a) b := by
  unfold runR
  rw [List.foldl_append]
theorem runR_at {X : Ru} {rs : List Rq} {k : Nat} {r : Rq} (h : rs[k]? = some r) : runR X (rs.take (k + 1)) = goR (runR X (rs.take k)) r := by
  have hk : k < rs.length := (List.getElem?_eq_some_iff.mp h).1
  rw [List.take_add_one, h]
  exact runR_app X (rs.take k) [r]
theorem runR_ok {rs : List Rq} : ∀ {X : Ru}, Ok X.T → Ok (runR X rs).T := by
  induction rs with
  | nil => intro X h; exact h
  | cons r rs ih => intro X h; exact ih (X := goR X r) (bk_ok h)
theorem runR_kl {rs : List Rq} : ∀ {X : Ru}, X.kl.length ≤ 256 → (runR X rs).kl.length ≤ 256 := by
  induction rs with
  | nil => intro X h; exact h
  | cons r rs ih => intro X h; exact ih (X := goR X r) (bk_len h)
theorem runR_os {rs : List Rq} : ∀ {X : Ru}, (runR X rs).os.length = X.os.length + rs.length := by
  induction rs with
  | nil => intro X; rfl
  | cons r rs ih =>
    intro X
    have h := ih (X := goR X r)
    rw [runR_cons, h]
    simp [goR]
    omega
theorem runR_ls {rs : List Rq} : ∀ {X : Ru}, (runR X rs).ls.length ≤ X.ls.length := by
  induction rs with
  | nil => intro X; exact Nat.le_refl _
  | cons r rs ih =>
    intro X
    have h := ih (X := goR X r)
    rw [runR_cons]
    simp only [goR, List.length_drop] at h ⊢
    omega
theorem runR_none {rs : List Rq} {X : Ru} (h : X.ls = []) : (runR X rs).ls = [] := by
  have h1 := runR_ls (rs := rs) (X := X)
  rw [h] at h1
  exact List.eq_nil_of_length_eq_zero (by simpa using h1)
/-- What was told before changes nothing of what comes. -/
theorem runR_base (rs : List Rq) : ∀ X : Ru, runR X rs = ⟨(runR X.new rs).T, (runR X.new rs).kl, X.os ++ (runR X.new rs).os, (runR X.new rs).ls⟩ := by
  induction rs with
  | nil => intro X; simp [runR_nil, Ru.new]
  | cons r rs ih =>
    intro X
    have e : (goR X.new r).new = (goR X r).new := rfl
    rw [runR_cons, ih (goR X r), runR_cons, ih (goR X.new r), e]
    simp [goR, Ru.new, Ru.at]
/-- Two parts are what it is at once. -/
theorem runR_two (X : Ru) (rs : List Rq) (k : Nat) (h : X.os = []) :
    (runR X rs).T = (runR (runR X (rs.take k)).new (rs.drop k)).T ∧ (runR X rs).kl = (runR (runR X (rs.take k)).new (rs.drop k)).kl ∧
      (runR X rs).os = (runR X (rs.take k)).os ++ (runR (runR X (rs.take k)).new (rs.drop k)).os := by
  have e : runR X rs = runR (runR X (rs.take k)) (rs.drop k) := by rw [← runR_app, List.take_append_drop]
  rw [e, runR_base (rs.drop k) (runR X (rs.take k))]
  exact ⟨rfl, rfl, rfl⟩
theorem runR_keeps (rs : List Rq) : ∀ (X : Ru) (i : Nat), i < X.os.length → (runR X rs).os[i]? = X.os[i]? := by
  induction rs with
  | nil => intro X i h; rfl
  | cons r rs ih =>
    intro X i h
    rw [runR_cons, ih (goR X r) i (by simp [goR]; omega)]
    simp only [goR]
    rw [List.getElem?_append_left h]
/-- What is told of each is what it comes to when it is done where those before it were. -/
theorem runR_get {X : Ru} {rs : List Rq} {k : Nat} {r : Rq} (h : rs[k]? = some r) (hX : X.os = []) :
    (runR X rs).os[k]? = some (((runR X (rs.take k)).at r).E, ((runR X (rs.take k)).at r).I) := by
  have hk : k < rs.length := (List.getElem?_eq_some_iff.mp h).1
  have e : runR X rs = runR (runR X (rs.take (k + 1))) (rs.drop (k + 1)) := by rw [← runR_app, List.take_append_drop]
  have hl : (runR X (rs.take k)).os.length = k := by rw [runR_os, hX]; simp; omega
  rw [e, runR_at h, runR_keeps _ _ k (by simp [goR, hl])]
  simp only [goR]
  rw [List.getElem?_append_right (by omega), hl]
  simp
end Go.Proofs.YtjphkpohcgkcmaaGreatDoor

namespace Go.Proofs.YtjphkpohcgkcmaaGreatDoor
open Go Go.RowKit
set_option linter.unusedVariables false

theorem bools_slice : Tryz.prog.underlying 27 = some (.slice (Tryz.prog.elem 27)) := by kernel_rfl
theorem bools_size (W : World) : (sizeOf (Tryz.prog.elem 27)).run Tryz.prog W = .ok 1 W := by kernel_rfl
theorem run_backb (W : World) (A : Option Addr) (n c k : Nat) (hk : k ≤ n) : (Instr.sliceAt 27 (.slice A n c) (some (.int .i64 (k : Int))) none none).run Tryz.prog W = .ok (.slice (if c = k then A else A.map (·.add k)) (n - k) (c - k)) W := by
  rw [run_sliceAt_slice _ _ _ _ _ _ bools_slice, run_slice_l W _ _ _ _ bools_slice _ _ (by omega) (by omega), bools_size]
  simp [Result.andThen, sliced]
theorem legs_slice : Tryz.prog.underlying 87 = some (.slice (Tryz.prog.elem 87)) := by kernel_rfl
theorem legs_size (W : World) : (sizeOf (Tryz.prog.elem 87)).run Tryz.prog W = .ok 1 W := by kernel_rfl
theorem run_backl (W : World) (A : Option Addr) (n c k : Nat) (hk : k ≤ n) : (Instr.sliceAt 87 (.slice A n c) (some (.int .i64 (k : Int))) none none).run Tryz.prog W = .ok (.slice (if c = k then A else A.map (·.add k)) (n - k) (c - k)) W := by
  rw [run_sliceAt_slice _ _ _ _ _ _ legs_slice, run_slice_l W _ _ _ _ legs_slice _ _ (by omega) (by omega), legs_size]
  simp [Result.andThen, sliced]
theorem flags_drop {w : World} {A : Option Addr} {ls : List Bool} {n c k : Nat} (h : RdS flags w A ls) (hn : ls.length = n) (hc : n ≤ c) (hk : k ≤ n) : RdS flags w (if c = k then A else A.map (·.add k)) (ls.drop k) := fun h0 => by
  rw [List.length_drop] at h0
  obtain ⟨ad, he, hx⟩ := h (by omega)
  rw [if_neg (by omega), he]
  refine ⟨ad.add k, rfl, fun j a hj i u hu => ?_⟩
  rw [List.getElem?_drop] at hj
  have := hx (k + j) a hj i u hu
  rw [show flags.size = 1 from rfl] at this ⊢
  rw [add_add, show k + (j * 1 + i) = (k + j) * 1 + i by omega]
  exact this

theorem sv_no_bool (V : Sv) (i : Nat) (b : Bool) : V.cells[i]? ≠ some (.bool b) := by
  unfold Sv.cells
  match i with
  | 0 | 1 | 2 | 3 | 4 => simp
  | k + 5 => simp
theorem flags_st {w : World} {A : Option Addr} {ls : List Bool} {g : Nat} {t : TypeId} {V0 : Sv} (h : RdS flags w A ls) (hg : Blk w g t V0.cells) (a b x y z : Value) :
    RdS flags (((((w.setCell ⟨g, 0, none⟩ a).setCell ⟨g, 1, none⟩ b).setCell ⟨g, 2, none⟩ x).setCell ⟨g, 3, none⟩ y).setCell ⟨g, 4, none⟩ z) A ls := flags_far h hg (sv_no_bool V0) fun k hk => st_heap w g a b x y z k hk
end Go.Proofs.YtjphkpohcgkcmaaGreatDoor
