/-
  Slices of requests and of replies: their shapes and cells.
  A state stays what it is when a list that lies elsewhere grows.
  A slice of replies with room for all that are to come.
  An append of one record to a slice with room: it stays where it is.
-/
import Derived.Test.YteifgmdaggiaaaaGreatDoorWGrB
import Derived.Test.YteifgmdaggiaaaaGreatDoorWGrA
import Derived.Maps.AppendAt
import Derived.Test.YteifgmdaggiaaaaGreatDoorWBankSt
import Derived.Deep.AppendLies
import Derived.RegionTactic
import Derived.Laws.MakeOwn
namespace Go.Proofs.YteifgmdaggiaaaaGreatDoor
open Go Go.RowKit Go.ChangeShapes Go.WideShapes Go.Deep Go.Joins
set_option linter.unusedVariables false
def Rq.cells (z : Rq) : List Value := [.int .i64 z.key, .int .i64 z.op, .int .i64 z.a, .int .i64 z.b, .int .i64 z.amt, .int .i64 z.legs, .int .i64 z.til]
/-- What is told: the error and the number. -/
def rps : Shape (Int × Int) := ⟨2, 46, fun z => [.int .i64 z.1, .int .i64 z.2], by omega, fun _ => rfl, fun a u hu => by
  simp only [List.mem_cons, List.not_mem_nil, or_false] at hu
  rcases hu with rfl | rfl <;> rfl⟩
end Go.Proofs.YteifgmdaggiaaaaGreatDoor
namespace Go.Proofs.YteifgmdaggiaaaaGreatDoor
open Go Go.RowKit
set_option linter.unusedVariables false
section
variable {w w' : World} {g : Option Nat}
theorem cell_grow {ad : Addr} {u : Value} (hk : w.grownBy w' g) (h : w.cell? ad = some u) (hg : g ≠ some ad.block) : w'.cell? ad = some u := by
 have hlt : ad.block < w.heap.size := World.block_lt_of_cell? _ _ h
 rw [hk.cell_far ad hlt (fun e => hg e.symm), h]
theorem RdS.grow {α : Type} {S : Shape α} {A : Option Addr} {zs : List α} (h : RdS S w A zs) (hk : w.grownBy w' g) (hg : 0 < zs.length → ∀ a, A = some a → g ≠ some a.block) : RdS S w' A zs := fun hn => by
 obtain ⟨ad, he, hc⟩ := h hn
 exact ⟨ad, he, fun j b hj i u hu => cell_grow hk (hc j b hj i u hu) (by rw [add_block]; exact hg hn ad he)⟩
theorem RdA.grow {A : Option Addr} {zs : List Ac} (h : RdA w A zs) (hk : w.grownBy w' g) (hg : 0 < zs.length → ∀ a, A = some a → g ≠ some a.block) : RdA w' A zs := fun hn => by
 obtain ⟨ad, he, hc⟩ := h hn
 have hb : ∀ i, g ≠ some (ad.add i).block := fun i => by rw [add_block]; exact hg hn ad he
 exact ⟨ad, he, fun j b hj => ⟨cell_grow hk (hc j b hj).c0 (hb _), cell_grow hk (hc j b hj).c1 (hb _), cell_grow hk (hc j b hj).c2 (hb _)⟩⟩
theorem SkAt.grow {V : Sv} {T : St} {sl : List Sg} {kl : List Kn} (h : SkAt w V T sl kl) (hk : w.grownBy w' g) (hg : V.in_ (fun b => g ≠ some b)) : SkAt w' V T sl kl :=
 ⟨h.n, h.q, h.xn, h.yn, h.t, h.accs.grow hk (by rw [h.n]; exact hg.1), h.pays.grow hk (by rw [h.q]; exact hg.2.1), h.sag.grow hk (fun hl a e => hg.2.2.1 a.block (full_some (by rw [← h.xn]; exact hl) e)), h.kn.grow hk (fun hl a e => hg.2.2.2 a.block (full_some (by rw [← h.yn]; exact hl) e)), h.sa, h.sp, h.sx, h.sy⟩
theorem Blk.grow {b : Nat} {t : TypeId} {vs : Array Value} (h : Blk w b t vs) (hk : w.grownBy w' g) (hg : g ≠ some b) : Blk w' b t vs :=
 (hk.block b h.lt (fun e => hg e.symm)).trans h
theorem Sv.in_.mono {V : Sv} {p q : Nat → Prop} (h : V.in_ p) (hpq : ∀ b, p b → q b) : V.in_ q :=
 ⟨fun hn a e => hpq _ (h.1 hn a e), fun hn a e => hpq _ (h.2.1 hn a e), fun b e => hpq _ (h.2.2.1 b e), fun b e => hpq _ (h.2.2.2 b e)⟩
end
theorem info_rps : (Tryz.prog.info? 46).map (fun i => (i.zero, i.size, i.bytes)) = some (some (.agg #[.int .i64 0, .int .i64 0]), 2, 16) := by kernel_rfl
theorem run_make_rps (n : Nat) (hn : n ≤ 8796093022207) (W : World) : (Instr.makeSlice 75 (.int .i64 0) (.int .i64 (n : Int))).run Tryz.prog W = .ok (.slice (some ⟨W.heap.size, 0, none⟩) 0 n) (W.alloc (.cells (madeCells #[.int .i64 0, .int .i64 0] (n * 2)) 46)) := by
 obtain ⟨i0, hi, hz0, hz1, hz2⟩ := info_parts info_rps
 have h := run_make (P := Tryz.prog) W 75 46 i0 (.agg #[.int .i64 0, .int .i64 0]) Tryz.underlying75 hi hz0 .i64 .i64 0 (n : Int) (by omega) (by omega) (by rw [hz2]; omega) (by omega)
 rw [hz1] at h
 have e2 : ((n : Int)).toNat = n := by omega
 rw [e2] at h
 exact h
/-- Made with room, with nothing in it. -/
theorem own_room (w : World) (n : Nat) (hn : n ≤ 8796093022207) : OwnS rps (w.alloc (.cells (madeCells #[.int .i64 0, .int .i64 0] (n * 2)) 46)) w.heap.size (.slice (some ⟨w.heap.size, 0, none⟩) 0 n) [] := by
 unfold OwnS
 refine ⟨rfl, .inr ⟨w.heap.size, n, _, rfl, Nat.le_refl _, heap_alloc_new w _, Nat.zero_le _, by simp only [maxLen]; omega, ?_, ?_⟩⟩
 · simp [madeCells, rps]
 · simp [Shape.flat]
/-- With room for one more, the slice stays in its block. -/
theorem wpList_append_in {α : Type} {S : Shape α} {P : Program} {bytes : Nat} {z : Value} (st : TypeId) (hu : P.underlying st = some (.slice S.ty)) (hinfo : (P.info? S.ty).map (fun i => (i.zero, i.size, i.bytes)) = some (some z, S.size, bytes)) (hzc : z.cells.size = S.size)
  {ops : Array Oper} {rest : List Oper} {o : Oper} {a : Act} {Q : Exit → Act → World → Prop} (w : World) (hgd : o.guard = none) (s x : Operand)
  (ho : o.op = .call { callee := .builtin .append, args := #[s, x], argTypes := #[st, st] })
  (base g n cap : Nat) (zs : List α) (hs : a.eval s = .slice (some ⟨g, 0, none⟩) n cap) (hown : OwnS S w base (.slice (some ⟨g, 0, none⟩) n cap) zs) (hn : zs.length = n) (hroom : n + 1 ≤ cap) (ad : Addr) (c : Nat) (b : α) (hx : a.eval x = .slice (some ad) 1 c) (hc : AtS S w ad 0 b)
  (h : ∀ w', OwnS S w' base (.slice (some ⟨g, 0, none⟩) (n + 1) cap) (zs ++ [b]) → w.grownBy w' (some g) → wpList P ops Q rest (a.put o.dst (.slice (some ⟨g, 0, none⟩) (n + 1) cap)) w') : wpList P ops Q (o :: rest) a w :=
 wpList_plain hgd fun _ hK => by
  subst hn
  obtain ⟨i0, hi, hz0, hz1, hz2⟩ := info_parts hinfo
  have hfl : S.flat [b] = S.cells b := by simp [Shape.flat]
  have hl : (S.flat [b]).length = 1 * i0.size := by rw [hfl, S.len, hz1, Nat.one_mul]
  have hnews : ∀ (j : Nat) (u : Value), (S.flat [b])[j]? = some u → w.cell? (ad.add j) = some u := fun j u hu => by
   rw [hfl] at hu
   have := hc j u hu
   rw [Nat.zero_mul, Nat.zero_add] at this
   exact this
  rcases hown.2 with ⟨e, _⟩ | ⟨g', cap', cur, e, hbg, hg, hnc, hcm, hcs, htake⟩
  · injection e with e1 _ _
    exact absurd e1 (by simp)
  · injection e with e1 e2 e3
    injection e1 with e1
    injection e1 with e1 _ _
    subst e1
    subst e3
    have hfit : zs.length * i0.size + (S.flat [b]).length ≤ cur.size := by rw [hl, hcs, hz1, ← Nat.add_mul]; exact Nat.mul_le_mul_right _ hroom
    have hr := run_append_room (P := P) w st o.type S.ty i0 hu hi g zs.length cap cur hg ad 1 c (S.flat [b]) hl hnews (S.flat_one _) hroom hfit
    unfold Oper.wp execOp
    simp only [ho, resolve, invoke, builtin, Sem.run_bind, Sem.run_pure, Result.andThen_ok, List.map_toArray, List.map_cons, List.map_nil, hs, hx, hr]
    have hlen : (S.flat zs ++ S.flat [b]).length = (zs.length + 1) * S.size := by rw [List.length_append, hl, S.flat_len, hz1, ← Nat.add_mul]
    refine hK _ _ (h _ ?_ ⟨rfl, rfl, rfl, by simp, fun k _ hk => setRow_other w g k _ (fun e => hk (by rw [e]))⟩)
    unfold OwnS
    rw [List.length_append, S.flat_append]
    refine ⟨hlen, .inr ⟨g, cap, _, rfl, hbg, setRow_heap w g cur _ S.ty _ hg, hroom, hcm, ?_, ?_⟩⟩
    · simp only [List.size_toArray, List.length_append, List.length_take, List.length_drop, Array.length_toList]
      omega
    · have hh : (zs ++ [b]).length = zs.length + 1 := by simp
      rw [hz1, htake]
      first
       | (rw [← hlen]; exact List.take_left)
       | (rw [show (zs.length + [b].length) * S.size = (S.flat zs ++ S.flat [b]).length from by rw [hlen]; simp]; exact List.take_left)
end Go.Proofs.YteifgmdaggiaaaaGreatDoor
