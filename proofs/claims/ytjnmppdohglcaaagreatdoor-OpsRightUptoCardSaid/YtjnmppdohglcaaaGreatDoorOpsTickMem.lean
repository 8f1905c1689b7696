/-
  Words of memory for the law OpsTick: a tick of a state by letters, and what the law wants, built beside it.
-/
import Derived.Test.YtjnmppdohglcaaaGreatDoorGrG
import Derived.Test.YtjnmppdohglcaaaGreatDoorOpsState
import Derived.Test.YtjnmppdohglcaaaGreatDoorOpsTickFn
import Derived.Test.YtjnmppdohglcaaaGreatDoorOpsWantPlain
import Derived.Test.YtjnmppdohglcaaaGreatDoorGrB
import Derived.Test.YtjnmppdohglcaaaGreatDoorGrA
namespace Go.Proofs.YtjnmppdohglcaaaGreatDoor
open Go Go.RowKit
set_option linter.unusedVariables false

theorem sv_tick (V : Sv) (T : St) (w : World) (h : SvAt w V T) (hok : Ok T) :
    Calls Tryz.prog 9 #[V.val] w fun e w' => ∃ V' : Sv, e = .returned V'.val ∧ SvAt w' V' (tickS T) ∧ Below w.heap.size w w' := by
  rw [← h.val_eq]
  exact (tick_all T _ _ _ _ _ _ [] [] w h.st.re h.sx h.sy hok (by simp) (by simp)).mono fun e w' ⟨X, Y, A, c, B, d, he, hs, hX, hY, hb⟩ => by
    obtain ⟨V', hv, h'⟩ := sv_of hs hX hY
    exact ⟨V', by rw [he, hv], h', hb⟩
/-- A copy of a state, in a block of its own, over accounts and payments copied too. -/
theorem ds_made {wr w2 w4 w6 : World} {g : Nat} {a b X Y v4 v6 : Value} {zs : List Ac} {ps : List Py} {t : Int} (hl : wr.heap.size = g) (hB : Below g wr w2) (hbk : Blk w2 g 34 #[a, b, X, Y, .int .i64 t])
    (ho4 : OwnA w4 w2.heap.size v4 zs) (hg4 : w2.grownBy w4 none) (ho6 : OwnS pays w6 (w4.setCell ⟨g, 0, none⟩ v4).heap.size v6 ps) (hg6 : (w4.setCell ⟨g, 0, none⟩ v4).grownBy w6 none) :
    Ds (fun k => k < g) (w6.setCell ⟨g, 1, none⟩ v6) g v4 v6 X Y ⟨zs, ps, t⟩ ∧ Below g wr (w6.setCell ⟨g, 1, none⟩ v6) := by
  have hg2 := hbk.lt
  have B4 : Below w2.heap.size w2 w4 := (Below.refl _ _).grown hg4 (Nat.le_refl _) (fun k e => by cases e)
  have s5 : (w4.setCell ⟨g, 0, none⟩ v4).heap.size = w4.heap.size := by simp [World.setCell]
  have B6 : Below (w4.setCell ⟨g, 0, none⟩ v4).heap.size (w4.setCell ⟨g, 0, none⟩ v4) w6 := (Below.refl _ _).grown hg6 (Nat.le_refl _) (fun k e => by cases e)
  have z4 := B4.size
  have z6 := B6.size
  have hv4 : ∀ k, v4.ownBlock = some k → w2.heap.size ≤ k ∧ k < w4.heap.size := fun k e => World.ownsRow.lt ho4 k e
  have hv6 : ∀ k, v6.ownBlock = some k → w4.heap.size ≤ k := fun k e => by have := ho6.rowLt k e; omega
  have b6 : Blk w6 g 34 #[v4, b, X, Y, .int .i64 t] := ((hbk.later B4).set 0 v4).later B6
  have bw : Below g wr w6 := ((hB.trans (B4.mono (by omega))).setCell (p := ⟨g, 0, none⟩) (Nat.le_refl _) v4).trans (B6.mono (by omega))
  refine ⟨⟨b6.set 1 v6, ?_, ?_, fun k e => ⟨?_, fun e' => ?_, ?_⟩, fun k e => ⟨?_, ?_⟩, Nat.lt_irrefl _, fun k hk => ?_⟩, bw.setCell (p := ⟨g, 1, none⟩) (Nat.le_refl _) v6⟩
  · exact (((ho4.less (Nat.zero_le _)).setOther (p := ⟨g, 0, none⟩) fun k e => by have := hv4 k e; dsimp only; omega).below B6).setOther (p := ⟨g, 1, none⟩) fun k e => by have := hv4 k e; dsimp only; omega
  · exact (ho6.less (Nat.zero_le _)).setOther (p := ⟨g, 1, none⟩) fun k e => by have := hv6 k e; dsimp only; omega
  · have := hv4 k e; omega
  · have := hv4 k e; have := hv6 k e'; omega
  · have := hv4 k e; omega
  · have := hv6 k e; omega
  · have := hv6 k e; omega
  · have h1 : k < w6.heap.size := by omega
    simpa [World.setCell] using h1
/-- A payment closed, in what is wanted. -/
theorem ds_stage {F : Nat → Prop} {w : World} {g gv q d j : Nat} {va X Y : Value} {s : St} {p p' : Py} {B : Nat} {w0 : World} (h : Ds F w g va (.slice (some ⟨gv, 0, none⟩) q d) X Y s) (hq : q = s.pys.length)
    (hp : s.pys[j]? = some p) (hc : (pays.cells p).set 7 (.int .i64 1) = pays.cells p') (hF : ∀ k, k < B → F k) (hb : Below B w0 w) :
    Ds F (w.setCell ⟨gv, j * 8 + 7, none⟩ (.int .i64 1)) g va (.slice (some ⟨gv, 0, none⟩) q d) X Y ⟨s.acs, s.pys.set j p', s.now⟩ ∧ Below B w0 (w.setCell ⟨gv, j * 8 + 7, none⟩ (.int .i64 1)) := by
  have hv' : (Value.slice (some ⟨gv, 0, none⟩) q d).ownBlock = some gv := rfl
  obtain ⟨v1, v2⟩ := h.pg gv hv'
  refine ⟨⟨h.blk.setOther (b := gv) v1 (j * 8 + 7) _, ?_, h.op.set hq hp 7 (.int .i64 1) p' (by show 7 < 8; omega) hc, h.ag, h.pg, h.gF, fun k hk => ?_⟩, hb.setCell (p := ⟨gv, j * 8 + 7, none⟩) (Nat.le_of_not_lt fun k => v2 (hF _ k)) _⟩
  · exact h.oa.setOther (p := ⟨gv, j * 8 + 7, none⟩) fun k e e' => (h.ag k e).2.1 (by rw [hv', e'])
  · have := h.lt k hk
    simpa [World.setCell] using this
/-- A hold released, in what is wanted. -/
theorem ds_free {F : Nat → Prop} {w : World} {g ga n c f : Nat} {vp X Y : Value} {s : St} {a : Ac} {B : Nat} {w0 : World} (h : Ds F w g (.slice (some ⟨ga, 0, none⟩) n c) vp X Y s) (hn : n = s.acs.length)
    (ha : s.acs[f]? = some a) (x : Int) (hF : ∀ k, k < B → F k) (hb : Below B w0 w) :
    Ds F (w.setCell ⟨ga, f * 3 + 2, none⟩ (.int .i64 x)) g (.slice (some ⟨ga, 0, none⟩) n c) vp X Y ⟨s.acs.set f ⟨a.cur, a.bal, x⟩, s.pys, s.now⟩ ∧ Below B w0 (w.setCell ⟨ga, f * 3 + 2, none⟩ (.int .i64 x)) := by
  have ha' : (Value.slice (some ⟨ga, 0, none⟩) n c).ownBlock = some ga := rfl
  obtain ⟨a1, a2, a3⟩ := h.ag ga ha'
  refine ⟨⟨h.blk.setOther (b := ga) a1 (f * 3 + 2) _, (h.oa.set hn ha x).2.2, ?_, h.ag, h.pg, h.gF, fun k hk => ?_⟩, hb.setCell (p := ⟨ga, f * 3 + 2, none⟩) (Nat.le_of_not_lt fun k => a3 (hF _ k)) _⟩
  · exact h.op.setOther (p := ⟨ga, f * 3 + 2, none⟩) fun k e e' => a2 (by rw [e, e'])
  · have := h.lt k hk
    simpa [World.setCell] using this
theorem wantS_len {s : St} {k : Nat} {n q : Nat} (h1 : s.acs.length = n) (h2 : s.pys.length = q) : (wantS s k).acs.length = n ∧ (wantS s k).pys.length = q := by
  unfold wantS
  dsimp only
  rw [heldL_len, closedTo_len]
  exact ⟨h1, h2⟩
theorem Ds.sv {F : Nat → Prop} {w : World} {g n c q d : Nat} {A B : Option Addr} {X Y : Option Addr} {xn xc yn yc : Nat} {s : St} (h : Ds F w g (.slice A n c) (.slice B q d) (.slice X xn xc) (.slice Y yn yc) s) (hn : s.acs.length = n) (hq : s.pys.length = q)
    (hX : RdV sagas w (.slice X xn xc) []) (hY : RdV known w (.slice Y yn yc) []) : SvAt w ⟨A, n, c, B, q, d, X, xn, xc, Y, yn, yc, s.now⟩ s :=
  ⟨hn, hq, rfl, (st_own h.oa h.op hn hq : StAt w ⟨s.acs, s.pys, s.now⟩ (.slice none 0 0) (.slice none 0 0) A c B d), hX, hY⟩
/-- What holds from tick to tick. -/
structure Tk (l1 : Nat) (t : Int) (s : St) : Prop where
  ok : Ok s
  len : s.acs.length = 15
  pays : s.pys.length ≤ l1
  now : s.now = t
theorem Tk.next {l1 : Nat} {t : Int} {s : St} (h : Tk l1 t s) (ht : ¬ t = 1073741824) : Tk l1 (t + 1) (tickS s) := by
  have hn := h.now
  refine ⟨h.ok.tick, ?_, ?_, ?_⟩
  · unfold tickS; rw [if_neg (by omega)]; dsimp only; rw [heldL_len]; exact h.len
  · unfold tickS; rw [if_neg (by omega)]; dsimp only; rw [List.length_map]; exact h.pays
  · unfold tickS; rw [if_neg (by omega)]; dsimp only; rw [hn]
theorem Tk.late {l1 : Nat} {t : Int} {s : St} (h : Tk l1 t s) : Ok ⟨s.acs, s.pys, 1073741824⟩ ∧ tickS ⟨s.acs, s.pys, 1073741824⟩ = ⟨s.acs, s.pys, 1073741824⟩ :=
  ⟨⟨h.ok.right, h.ok.sums, h.ok.few, h.ok.pays, h.ok.held, by dsimp only; omega⟩, by unfold tickS; rw [if_pos rfl]⟩
theorem SvAt.later {w : World} {A : Option Addr} {n c : Nat} {B : Option Addr} {q d : Nat} {X : Option Addr} {xn xc : Nat} {Y : Option Addr} {yn yc : Nat} {t0 : Int} {s : St} (h : SvAt w ⟨A, n, c, B, q, d, X, xn, xc, Y, yn, yc, t0⟩ s) (t : Int) :
    SvAt w ⟨A, n, c, B, q, d, X, xn, xc, Y, yn, yc, t⟩ ⟨s.acs, s.pys, t⟩ := ⟨h.n, h.q, rfl, ⟨h.st.accs, h.st.pays, h.st.sa, h.st.sp⟩, h.sx, h.sy⟩
theorem SvAt.setNow {w : World} {V V0 : Sv} {T : St} {g : Nat} {t : TypeId} (h : SvAt w V T) (hg : Blk w g t V0.cells) (z : Value) : SvAt (w.setCell ⟨g, 4, none⟩ z) V T := h.far hg fun k hk => Below.heap_setCell _ _ _ _ hk
end Go.Proofs.YtjnmppdohglcaaaGreatDoor
