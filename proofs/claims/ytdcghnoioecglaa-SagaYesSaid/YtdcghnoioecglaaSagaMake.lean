/-
  The law's Make by its contract; the document's example of layer 14, of what saga answers.
-/
import Derived.Test.YtdcghnoioecglaaSagaLeg
import Derived.Test.YtdcghnoioecglaaShape
import Derived.Test.YtdcghnoioecglaaShapeArg
namespace Go.Proofs.Ytdcghnoioecglaa
open Go Go.RowKit Go.ChangeShapes Go.WideShapes Go.Deep Go.Joins
set_option linter.unusedVariables false

/-- A slice of bools. -/
def flags : Shape Bool := ⟨1, 4, fun b => [.bool b], by omega, fun _ => rfl, fun a u hu => by
  simp only [List.mem_cons, List.not_mem_nil, or_false] at hu
  subst hu
  rfl⟩
theorem flag_cell {w : World} {ad : Addr} {j : Nat} {b : Bool} (h : AtS flags w ad j b) : w.cell? (ad.add j) = some (.bool b) := by
  have := h 0 _ rfl
  rw [show flags.size = 1 from rfl, Nat.mul_one, Nat.add_zero] at this
  exact this
theorem flag_of {H : Type} {enc : TypeId × Value → H} {w : World} {base fuel : Nat} {spare : Nat → Bool} {held : Bool} {cs : List Value} {x : DataW H × List MemPlace} (h : DataW.trod enc Try.prog w base spare held fuel 4 cs = some x) : ∃ b : Bool, True ∧ cs = flags.cells b := by
  obtain ⟨m, e, _⟩ := DataW.trod_bool Try.underlying4 h
  exact ⟨m, trivial, e⟩
/-- Behind all answers. -/
def legsS (s : Sg) : List Bool → Sg
  | [] => s
  | b :: r => legsS (legS s b) r
theorem legsS_snoc : ∀ (r : List Bool) (s : Sg) (b : Bool), legsS s (r ++ [b]) = legS (legsS s r) b
  | [], s, b => rfl
  | a :: r, s, b => legsS_snoc r (legS s a) b
theorem legsS_small : ∀ (r : List Bool) (s : Sg), s.small → (legsS s r).small
  | [], s, h => h
  | a :: r, s, h => legsS_small r (legS s a) (h.leg_ a)
def rqL (x : Int) : Rq := ⟨0, 0, 0, 0, 0, x, 0⟩
theorem take_plus {α : Type} {zs : List α} {k : Nat} {a : α} (h : zs[k]? = some a) : zs.take (k + 1) = zs.take k ++ [a] := by
  rw [List.take_add_one, h]; rfl

set_option maxRecDepth 100000 in
set_option maxHeartbeats 1000000 in
theorem make_any (a : Nat) (ha : a < 256) (A : Option Addr) (n cap : Nat) (bs : List Bool) (w : World) (hl : bs.length = n) (hr : RdS flags w A bs) (hn : n ≤ 9223372036854775807) :
    Calls Try.prog 14 #[.int .u8 (a : Int), .slice A n cap] w (SgRes w (legsS (beginS (rqL ((a % 5 : Nat) : Int))) bs)) := by
  obtain ⟨x, hx⟩ : ∃ x : Nat, a % 5 = x := ⟨_, rfl⟩
  have hx' : (a : Int) % 5 = (x : Int) := by omega
  have hx5 : x < 5 := by omega
  rw [hx]
  have HR := Lib.hid hr
  have HL := Lib.hid hl
  have HG := Lib.hid (fun s ok W => lawleg_any s ok W)
  have HB0 := Lib.hid (((Below.refl w.heap.size w).alloc (Nat.le_refl _) (.cells #[.int .i64 0, .int .i64 0, .int .i64 0, .int .i64 0, .int .i64 0, .int .i64 0, .int .i64 0, .int .i64 0, .int .i64 0, .int .i64 0, .int .i64 0] 30)).alloc (by simp) (.cells #[.int .i64 0, .int .i64 0, .int .i64 0, .int .i64 0, .int .i64 0, .int .i64 (x : Int), .int .i64 0, .int .i64 0, .int .i64 0, .int .i64 0, .int .i64 0] 30))
  have HZ0 := Lib.hid ((Sg11.new w 30 0 0 0 0 0 0 0 0 0 0 0).alloc (.cells #[.int .i64 0, .int .i64 0, .int .i64 0, .int .i64 0, .int .i64 0, .int .i64 (x : Int), .int .i64 0, .int .i64 0, .int .i64 0, .int .i64 0, .int .i64 0] 30) (by simp))
  have HX0 : Hid (Sg11 ((w.alloc (.cells #[.int .i64 0, .int .i64 0, .int .i64 0, .int .i64 0, .int .i64 0, .int .i64 0, .int .i64 0, .int .i64 0, .int .i64 0, .int .i64 0, .int .i64 0] 30)).alloc (.cells #[.int .i64 0, .int .i64 0, .int .i64 0, .int .i64 0, .int .i64 0, .int .i64 (x : Int), .int .i64 0, .int .i64 0, .int .i64 0, .int .i64 0, .int .i64 0] 30)) (w.heap.size + 1) 30 0 0 0 0 0 (x : Int) 0 0 0 0 0) := Lib.hid (heap_alloc2_new w _ _)
  clear hr hl hx
  go_enter Try.func14, Try.ntmps14
  go_wp2
  simp only [hx']
  go_loopw [15] (fun i wr => ∃ (k : Nat) (s : Sg), k ≤ n ∧ i = .int .i64 (k : Int) ∧ legsS (beginS (rqL (x : Int))) (bs.take k) = s ∧ Sg11 wr (w.heap.size + 1) 30 s.rq.key s.rq.op s.rq.a s.rq.b s.rq.amt s.rq.legs s.rq.til s.ph s.leg s.tries s.why ∧
    Sg11 wr w.heap.size 30 0 0 0 0 0 0 0 0 0 0 0 ∧ Below w.heap.size w wr) (fun i _ => n - (intOf i).toNat)
  case atStart => exact ⟨0, _, Nat.zero_le _, rfl, rfl, HX0.out, HZ0.out, HB0.out⟩
  case round =>
    obtain ⟨k, s, hk, rfl, hs, hx, hz, hbel⟩ := hrel
    have HS := Lib.hid hs
    have HX := Lib.hid hx
    have HZ := Lib.hid hz
    have HB := Lib.hid hbel
    have hlt1 := hx.lt
    clear hs hx hz hbel
    by_cases hlt : k < n
    · obtain ⟨b, hb⟩ : ∃ b, bs[k]? = some b := ⟨_, List.getElem?_eq_getElem (by rw [HL.out]; exact hlt)⟩
      obtain ⟨ad, rfl, hat⟩ := (HR.out.below HB.out).at_ hb
      have c0 := flag_cell hat
      have HNX := Lib.hid (show legsS (beginS (rqL (x : Int))) (bs.take (k + 1)) = legS s b by rw [take_plus hb, legsS_snoc, HS.out])
      have HGs := Lib.hid (HG.out s b)
      obtain ⟨t, ht⟩ : ∃ t, legS s b = t := ⟨_, rfl⟩
      rw [ht] at HGs HNX
      obtain ⟨x0, x1, x2, x3, x4, x5, x6, x7, x8, x9, x10⟩ := HX.out.cells
      unfold SgRes Sg.val at HGs
      clear hat hb ht
      go_wp2_with fail
      refine (HGs.out _).mono ?_
      rintro _ w2 ⟨rfl, hb2⟩
      have HX2 := Lib.hid (HX.out.below hb2 hlt1)
      have HZ2 := Lib.hid (HZ.out.below hb2 (by omega))
      have HB2 := Lib.hid (HB.out.trans (hb2.mono HB.out.size))
      obtain ⟨g0, g1, g2, g3, g4, g5, g6, g7, g8, g9, g10⟩ := HX2.out.loose
      have e0 := HX2.out.cells
      clear x0 x1 x2 x3 x4 x5 x6 x7 x8 x9 x10 hb2
      obtain ⟨x0, x1, x2, x3, x4, x5, x6, x7, x8, x9, x10⟩ := e0
      have HP := Lib.hid (HX2.out.put t.rq.key t.rq.op t.rq.a t.rq.b t.rq.amt t.rq.legs t.rq.til t.ph t.leg t.tries t.why)
      have HPZ := Lib.hid ((Sg11.put_other (w := w2) (g := w.heap.size + 1) (b := w.heap.size) (by omega) t.rq.key t.rq.op t.rq.a t.rq.b t.rq.amt t.rq.legs t.rq.til t.ph t.leg t.tries t.why).trans HZ2.out)
      have HPB := Lib.hid (Sg11.put_below (g := w.heap.size + 1) HB2.out (by omega) t.rq.key t.rq.op t.rq.a t.rq.b t.rq.amt t.rq.legs t.rq.til t.ph t.leg t.tries t.why)
      go_wp2
      go_roundw
      case rel =>
        exact ⟨k + 1, t, by omega, by go_num, HNX.out, HP.out, HPZ.out, HPB.out⟩
      case measure => simp [intOf]; omega
    · obtain rfl : k = n := by omega
      have HE := Lib.hid (show legsS (beginS (rqL (x : Int))) bs = s by have h := HS.out; rw [List.take_of_length_le (by rw [HL.out]; exact Nat.le_refl _)] at h; exact h)
      rw [HE.out]
      unfold SgRes Sg.val
      obtain ⟨x0, x1, x2, x3, x4, x5, x6, x7, x8, x9, x10⟩ := HX.out.cells
      obtain ⟨g0, g1, g2, g3, g4, g5, g6, g7, g8, g9, g10⟩ := HZ.out.loose
      obtain ⟨y0, y1, y2, y3, y4, y5, y6, y7, y8, y9, y10⟩ := HZ.out.cells
      have HP := Lib.hid (HZ.out.put s.rq.key s.rq.op s.rq.a s.rq.b s.rq.amt s.rq.legs s.rq.til s.ph s.leg s.tries s.why)
      have HPB := Lib.hid (Sg11.put_below (g := w.heap.size) HB.out (Nat.le_refl _) s.rq.key s.rq.op s.rq.a s.rq.b s.rq.amt s.rq.legs s.rq.til s.ph s.leg s.tries s.why)
      go_wp2
      refine bodyPost_ret (results_cell_row (p := 4) (ty := 30) rfl _ _ w.heap.size _ _ (0, 0) _ rfl HP.out Try.underlying30 rfl (by kernel_rfl)) rfl ?_
      exact ⟨by rw [HE.out]; rfl, HPB.out⟩
end Go.Proofs.Ytdcghnoioecglaa
