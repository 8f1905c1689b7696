/-
  The program's New by its contract.
  The law's Same of two states that are the same.
  A state as a value of letters, and what New, Do and Same make of it: for the laws.
  The law's awake: the document's example.
-/
import Derived.Test.YtjnmppdohglcaaaDoorGrC
import Derived.Test.YtjnmppdohglcaaaDoorGrE
import Derived.Laws.ResultCell
import Derived.Deep.CutRange
import Derived.Deep.QuietTactic
import Derived.BigQuiet
import Derived.LoopTactic
import Derived.IntWalk
import Derived.WalkSpells
import Derived.Test.YtjnmppdohglcaaaDoorOpsDoFn
namespace Go.Proofs.YtjnmppdohglcaaaDoor
open Go Go.RowKit
set_option linter.unusedVariables false

/-- The state that nothing has happened in. -/
def new0 : St := ⟨house, [], 0⟩
set_option maxRecDepth 100000 in
theorem onew_any (w : World) : Calls Tryd.prog 13 #[] w fun e w' => ∃ A c, e = .returned (stV new0 (.slice none 0 0) (.slice none 0 0) A c none 0) ∧ StAt w' new0 (.slice none 0 0) (.slice none 0 0) A c none 0 ∧ Below w.heap.size w w' := by
  have HN := Lib.hid (fun W => new_any W)
  go_enter Tryd.func13, Tryd.ntmps13
  go_wp2_with fail
  refine (HN.out _).mono ?_
  rintro _ w1 ⟨v, rfl, ho1, hb1⟩
  obtain ⟨A, c, rfl, hr, h1, h2, h3⟩ := ho1.form
  rw [show house.length = 9 from rfl] at ho1 h1 h3 ⊢
  have HB := Lib.hid ((Blk.new w 36 st0).later hb1)
  have HBB := Lib.hid (((Below.refl w.heap.size w).alloc (Nat.le_refl _) (.cells st0 36)).trans (hb1.mono (by simp)))
  have HO := Lib.hid ho1
  have HS := Lib.hid (show Sl A 9 c from ⟨h3, h1, h2⟩)
  have hlo : w.heap.size < w.heap.size + 1 := by omega
  obtain ⟨c0, c1, c2, c3, c4⟩ := (show _ ∧ _ ∧ _ ∧ _ ∧ _ from ⟨HB.out.cell 0 rfl, HB.out.cell 1 rfl, HB.out.cell 2 rfl, HB.out.cell 3 rfl, HB.out.cell 4 rfl⟩)
  obtain ⟨f0, f1, f2, f3, f4⟩ := (show _ ∧ _ ∧ _ ∧ _ ∧ _ from ⟨HB.out.loose 0, HB.out.loose 1, HB.out.loose 2, HB.out.loose 3, HB.out.loose 4⟩)
  clear hb1 hr h1 h2 h3 ho1
  go_wp2
  have HP := st_put HB.out rfl (.slice A 9 c) (.slice none 0 0) (.slice none 0 0) (.slice none 0 0) (.int .i64 0)
  have HPB := st_below HBB.out (Nat.le_refl _) (.slice A 9 c) (.slice none 0 0) (.slice none 0 0) (.slice none 0 0) (.int .i64 0)
  refine bodyPost_ret (results_cell_row (p := 0) (ty := 36) rfl _ _ w.heap.size _ _ (0, 0) _ rfl HP Tryd.underlying36 rfl (by kernel_rfl)) rfl ?_
  refine ⟨A, c, rfl, ⟨?_, RdS.nil, HS.out, ⟨fun _ => ⟨rfl, rfl⟩, Nat.le_refl _, Nat.zero_le _⟩⟩, HPB⟩
  exact (st_ownA HO.out (show w.heap.size < (w.alloc (.cells st0 36)).heap.size by simp) _ _ _ _ _).rd
end Go.Proofs.YtjnmppdohglcaaaDoor

namespace Go.Proofs.YtjnmppdohglcaaaDoor
open Go Go.RowKit
set_option linter.unusedVariables false

set_option maxRecDepth 100000 in
set_option maxHeartbeats 1000000 in
theorem ssame_yes (s : St) (X Y X' Y' : Value) (A : Option Addr) (c : Nat) (B : Option Addr) (d : Nat) (A' : Option Addr) (c' : Nat) (B' : Option Addr) (d' : Nat) (w : World) (h : StAt w s X Y A c B d) (h' : StAt w s X' Y' A' c' B' d')
    (hX : IsSl X) (hY : IsSl Y) (hX' : IsSl X') (hY' : IsSl Y') (hn : s.acs.length ≤ 64) (hq : s.pys.length ≤ 2000000) :
    Calls Tryd.prog 10 #[stV s X Y A c B d, stV s X' Y' A' c' B' d'] w fun e w' => e = .returned (.bool true) ∧ Below w.heap.size w w' := by
  obtain ⟨zs, ps, now⟩ := s
  obtain ⟨XA, xn, xc, rfl⟩ := hX
  obtain ⟨YA, yn, yc, rfl⟩ := hY
  obtain ⟨XB, xm, xd, rfl⟩ := hX'
  obtain ⟨YB, ym, yd, rfl⟩ := hY'
  unfold stV
  dsimp only at *
  obtain ⟨n, hn'⟩ : ∃ n, zs.length = n := ⟨_, rfl⟩
  obtain ⟨q, hq'⟩ : ∃ q, ps.length = q := ⟨_, rfl⟩
  rw [hn'] at hn
  rw [hq'] at hq
  simp only [hn', hq']
  have HSM := Lib.hid (fun W (hb : Below w.heap.size w W) => same_any A A' n n c c' zs zs W hn' hn' (h.accs.below hb) (h'.accs.below hb) (by omega) (by omega))
  rw [decide_eq_true (show zs = zs from rfl)] at HSM
  have HP := Lib.hid h.pays
  have HP' := Lib.hid h'.pays
  have HQ := Lib.hid hq'
  clear h h' hn' hq'
  go_enter Tryd.func10, Tryd.ntmps10
  go_upto_region 1 with fail
  have q1 := (Blk.new w 36 #[.slice A n c, .slice B q d, .slice XA xn xc, .slice YA yn yc, .int .i64 now]).more (.cells #[.slice A' n c', .slice B' q d', .slice XB xm xd, .slice YB ym yd, .int .i64 now] 36)
  have q2 := Blk.new (w.alloc (.cells #[.slice A n c, .slice B q d, .slice XA xn xc, .slice YA yn yc, .int .i64 now] 36)) 36 #[.slice A' n c', .slice B' q d', .slice XB xm xd, .slice YB ym yd, .int .i64 now]
  rw [alloc_size] at q2
  have HA := Lib.hid q1
  have HB := Lib.hid q2
  have HL := Lib.hid (((Below.refl w.heap.size w).alloc (Nat.le_refl _) (.cells #[.slice A n c, .slice B q d, .slice XA xn xc, .slice YA yn yc, .int .i64 now] 36)).alloc (by simp) (.cells #[.slice A' n c', .slice B' q d', .slice XB xm xd, .slice YB ym yd, .int .i64 now] 36))
  clear q1 q2
  generalize (w.alloc (.cells #[.slice A n c, .slice B q d, .slice XA xn xc, .slice YA yn yc, .int .i64 now] 36)).alloc (.cells #[.slice A' n c', .slice B' q d', .slice XB xm xd, .slice YB ym yd, .int .i64 now] 36) = w1 at HA HB HL ⊢
  obtain ⟨a0, a1, a4⟩ := (show _ ∧ _ ∧ _ from ⟨HA.out.cell 0 rfl, HA.out.cell 1 rfl, HA.out.cell 4 rfl⟩)
  obtain ⟨b0, b1, b4⟩ := (show _ ∧ _ ∧ _ from ⟨HB.out.cell 0 rfl, HB.out.cell 1 rfl, HB.out.cell 4 rfl⟩)
  go_wp2_with fail
  refine (HSM.out _ HL.out).mono ?_
  rintro _ w2 ⟨rfl, hb2⟩
  have HA2 := Lib.hid (HA.out.later hb2)
  have HB2 := Lib.hid (HB.out.later hb2)
  have HL2 := Lib.hid (HL.out.trans (hb2.mono HL.out.size))
  have hlt : w.heap.size + 1 < w2.heap.size := HB2.out.lt
  clear hb2 a0 a1 a4 b0 b1 b4
  obtain ⟨a1, a4⟩ := (show _ ∧ _ from ⟨HA2.out.cell 1 rfl, HA2.out.cell 4 rfl⟩)
  obtain ⟨b1, b4⟩ := (show _ ∧ _ from ⟨HB2.out.cell 1 rfl, HB2.out.cell 4 rfl⟩)
  go_wp2
  go_loopw [31] (fun i wr => ∃ k : Nat, k ≤ q ∧ i = .int .i64 (k : Int) ∧ Below w2.heap.size w2 wr) (fun i _ => q - (intOf i).toNat)
  case atStart => exact ⟨0, Nat.zero_le _, rfl, Below.refl _ _⟩
  case round =>
    obtain ⟨k, hk, rfl, hbel⟩ := hrel
    have HBEL := Lib.hid hbel
    clear hbel
    by_cases hlt : k < q
    · obtain ⟨p, hp⟩ : ∃ p, ps[k]? = some p := ⟨_, List.getElem?_eq_getElem (by rw [HQ.out]; exact hlt)⟩
      obtain ⟨ax, rfl, hax⟩ := (HP.out.below (HL2.out.trans (HBEL.out.mono HL2.out.size))).at_ hp
      obtain ⟨ay, rfl, hay⟩ := (HP'.out.below (HL2.out.trans (HBEL.out.mono HL2.out.size))).at_ hp
      clear hp
      obtain ⟨p0, p1, p2, p3, p4, p5, p6, p7⟩ := pay_cells hax
      obtain ⟨e0, e1, e2, e3, e4, e5, e6, e7⟩ := pay_cells hay
      obtain ⟨pf, pd, pa, pc, pr, pg, pt, pst⟩ := p
      dsimp only at p0 p1 p2 p3 p4 p5 p6 p7 e0 e1 e2 e3 e4 e5 e6 e7
      have a1' := (HA2.out.later HBEL.out).cell 1 rfl
      have b1' := (HB2.out.later HBEL.out).cell 1 rfl
      clear hax hay
      go_wp2
      go_quiet (fail)
      go_wp2
      go_roundw
      · exact ⟨k + 1, by omega, by simp, below_drewN HBEL.out _⟩
      · simp [intOf]; omega
    · go_wp2
      go_ret
      exact ⟨rfl, HL2.out.trans (HBEL.out.mono HL2.out.size)⟩
end Go.Proofs.YtjnmppdohglcaaaDoor

namespace Go.Proofs.YtjnmppdohglcaaaDoor
open Go Go.RowKit
set_option linter.unusedVariables false

/-- A state's value. -/
structure Sv where
  A : Option Addr
  n : Nat
  c : Nat
  B : Option Addr
  q : Nat
  d : Nat
  X : Option Addr
  xn : Nat
  xc : Nat
  Y : Option Addr
  yn : Nat
  yc : Nat
  t : Int
def Sv.cells (V : Sv) : Array Value := #[.slice V.A V.n V.c, .slice V.B V.q V.d, .slice V.X V.xn V.xc, .slice V.Y V.yn V.yc, .int .i64 V.t]
def Sv.val (V : Sv) : Value := .agg V.cells
/-- A value that is the state T, without sagas and without what is known. -/
structure SvAt (w : World) (V : Sv) (T : St) : Prop where
  n : T.acs.length = V.n
  q : T.pys.length = V.q
  t : T.now = V.t
  st : StAt w T (.slice none 0 0) (.slice none 0 0) V.A V.c V.B V.d
  sx : RdV sagas w (.slice V.X V.xn V.xc) []
  sy : RdV known w (.slice V.Y V.yn V.yc) []
theorem SvAt.below {w w' : World} {V : Sv} {T : St} (h : SvAt w V T) (hb : Below w.heap.size w w') : SvAt w' V T := ⟨h.n, h.q, h.t, h.st.below hb, h.sx.below hb, h.sy.below hb⟩
theorem SvAt.alloc {w : World} {V : Sv} {T : St} (h : SvAt w V T) (o : Obj) : SvAt (w.alloc o) V T := h.below ((Below.refl _ _).alloc (Nat.le_refl _) o)
theorem SvAt.drewN {w : World} {V : Sv} {T : St} (h : SvAt w V T) (m : Nat) : SvAt (w.drewN m) V T := ⟨h.n, h.q, h.t, ⟨h.st.accs.drewN m, h.st.pays.drewN m, h.st.sa, h.st.sp⟩, h.sx, h.sy⟩
theorem SvAt.val_eq {w : World} {V : Sv} {T : St} (h : SvAt w V T) : stV T (.slice V.X V.xn V.xc) (.slice V.Y V.yn V.yc) V.A V.c V.B V.d = V.val := by
  unfold stV Sv.val Sv.cells
  rw [h.n, h.q, h.t]
theorem sv_of {w : World} {T : St} {X Y : Value} {A : Option Addr} {c : Nat} {B : Option Addr} {d : Nat} (h : StAt w T X Y A c B d) (hX : RdV sagas w X []) (hY : RdV known w Y []) : ∃ V : Sv, stV T X Y A c B d = V.val ∧ SvAt w V T := by
  obtain ⟨XA, xc, rfl, hx1, hx2⟩ := hX
  obtain ⟨YA, yc, rfl, hy1, hy2⟩ := hY
  exact ⟨⟨A, T.acs.length, c, B, T.pys.length, d, XA, 0, xc, YA, 0, yc, T.now⟩, rfl, ⟨rfl, rfl, rfl, h.re, ⟨XA, xc, rfl, hx1, hx2⟩, ⟨YA, yc, rfl, hy1, hy2⟩⟩⟩
theorem sv_new (w : World) : Calls Tryd.prog 13 #[] w fun e w' => ∃ V : Sv, e = .returned V.val ∧ SvAt w' V new0 ∧ Below w.heap.size w w' :=
  (onew_any w).mono fun e w' ⟨A, c, he, hs, hb⟩ => by
    obtain ⟨V, hv, h⟩ := sv_of hs (RdV.nil sagas w') (RdV.nil known w')
    exact ⟨V, by rw [he, hv], h, hb⟩
theorem sv_do (V : Sv) (T : St) (r : Rq) (w : World) (h : SvAt w V T) (hh : HasErr w) (hrt : rightB T.acs = true) (hq : T.pys.length ≤ 2000000) :
    Calls Tryd.prog 8 #[V.val, r.val] w fun e w' => ∃ V' : Sv, e = .returned (.tuple #[V'.val, .agg #[.int .i64 (opE T r), .int .i64 (opI T r)]]) ∧ SvAt w' V' (opS T r) ∧ Below w.heap.size w w' := by
  rw [← h.val_eq]
  exact (do_all T r _ _ _ _ _ _ [] [] w h.st.re h.sx h.sy hh hrt hq (by simp) (by simp)).mono fun e w' ⟨X, Y, A, c, B, d, he, hs, hX, hY, hb⟩ => by
    obtain ⟨V', hv, h'⟩ := sv_of hs hX hY
    exact ⟨V', by rw [he, hv], h', hb⟩
theorem sv_same (V V' : Sv) (T : St) (w : World) (h : SvAt w V T) (h' : SvAt w V' T) (hn : T.acs.length ≤ 64) (hq : T.pys.length ≤ 2000000) :
    Calls Tryd.prog 10 #[V.val, V'.val] w fun e w' => e = .returned (.bool true) ∧ Below w.heap.size w w' := by
  rw [← h.val_eq, ← h'.val_eq]
  exact ssame_yes T _ _ _ _ _ _ _ _ _ _ _ _ w h.st.re h'.st.re ⟨_, _, _, rfl⟩ ⟨_, _, _, rfl⟩ ⟨_, _, _, rfl⟩ ⟨_, _, _, rfl⟩ hn hq

/-- What is stored into a state's own block leaves what states read as it was. -/
theorem cell_in {w : World} {g : Nat} {t : TypeId} {vs : Array Value} (h : Blk w g t vs) {ad : Addr} (hb : ad.block = g) {v : Value} (hv : w.cell? ad = some v) : vs[ad.off]? = some v := by
  unfold Blk at h
  subst hb
  cases hs : ad.spot with
  | none => simpa [World.cell?, h, hs] using hv
  | some x => simp [World.cell?, h, hs] at hv
theorem two_ints {w : World} {g : Nat} {t : TypeId} {V : Sv} (h : Blk w g t V.cells) {ad : Addr} {x y : Int} (h0 : w.cell? ad = some (.int .i64 x)) (h1 : w.cell? (ad.add 1) = some (.int .i64 y)) : ad.block ≠ g := fun hb => by
  have e0 := cell_in h hb h0
  have e1 := cell_in h (ad := ad.add 1) (by rw [add_block]; exact hb) h1
  have ho : (ad.add 1).off = ad.off + 1 := by unfold Addr.add; split <;> simp_all
  rw [ho] at e1
  unfold Sv.cells at e0 e1
  match hm : ad.off with
  | 0 => rw [hm] at e0; simp at e0
  | 1 => rw [hm] at e0; simp at e0
  | 2 => rw [hm] at e0; simp at e0
  | 3 => rw [hm] at e0; simp at e0
  | k + 4 => rw [hm] at e1; simp at e1
theorem RdA.far {w w' : World} {A : Option Addr} {zs : List Ac} {g : Nat} {t : TypeId} {V : Sv} (h : RdA w A zs) (hg : Blk w g t V.cells) (hk : ∀ k, k ≠ g → w'.heap[k]? = w.heap[k]?) : RdA w' A zs := fun hn => by
  obtain ⟨ad, he, hc⟩ := h hn
  obtain ⟨a, ha⟩ : ∃ a, zs[0]? = some a := ⟨_, List.getElem?_eq_getElem hn⟩
  have h0 := hc 0 a ha
  have hne : ad.block ≠ g := two_ints hg (by have := h0.c0; rw [Nat.zero_mul] at this; simpa [Addr.add] using this) (by have := h0.c1; rw [Nat.zero_mul, Nat.zero_add] at this; exact this)
  have hb : ∀ i, w'.cell? (ad.add i) = w.cell? (ad.add i) := fun i => World.cell?_of_block (hk _ (by rw [add_block]; exact hne))
  exact ⟨ad, he, fun j b hj => ⟨by rw [hb]; exact (hc j b hj).c0, by rw [hb]; exact (hc j b hj).c1, by rw [hb]; exact (hc j b hj).c2⟩⟩
theorem pays_far {w w' : World} {A : Option Addr} {zs : List Py} {g : Nat} {t : TypeId} {V : Sv} (h : RdS pays w A zs) (hg : Blk w g t V.cells) (hk : ∀ k, k ≠ g → w'.heap[k]? = w.heap[k]?) : RdS pays w' A zs := fun hn => by
  obtain ⟨ad, he, hc⟩ := h hn
  obtain ⟨a, ha⟩ : ∃ a, zs[0]? = some a := ⟨_, List.getElem?_eq_getElem hn⟩
  have h0 := hc 0 a ha
  have hne : ad.block ≠ g := two_ints (x := a.frm) (y := a.dst) hg (by have := h0 0 _ rfl; rw [Nat.zero_mul] at this; simpa [Addr.add] using this) (by have := h0 1 _ rfl; rw [Nat.zero_mul, Nat.zero_add] at this; exact this)
  have hb : ∀ i, w'.cell? (ad.add i) = w.cell? (ad.add i) := fun i => World.cell?_of_block (hk _ (by rw [add_block]; exact hne))
  exact ⟨ad, he, fun j b hj i u hu => by rw [hb]; exact hc j b hj i u hu⟩
theorem RdV.none_at {α : Type} {S : Shape α} {w w' : World} {v : Value} (h : RdV S w v ([] : List α)) : RdV S w' v ([] : List α) := by
  obtain ⟨A, c, e, _, hs⟩ := h
  exact ⟨A, c, e, RdS.nil, hs⟩
theorem SvAt.far {w w' : World} {V V0 : Sv} {T : St} {g : Nat} {t : TypeId} (h : SvAt w V T) (hg : Blk w g t V0.cells) (hk : ∀ k, k ≠ g → w'.heap[k]? = w.heap[k]?) : SvAt w' V T :=
  ⟨h.n, h.q, h.t, ⟨h.st.accs.far hg hk, pays_far h.st.pays hg hk, h.st.sa, h.st.sp⟩, h.sx.none_at, h.sy.none_at⟩
theorem st_heap (w : World) (g : Nat) (a b x y z : Value) (k : Nat) (hk : k ≠ g) : (((((w.setCell ⟨g, 0, none⟩ a).setCell ⟨g, 1, none⟩ b).setCell ⟨g, 2, none⟩ x).setCell ⟨g, 3, none⟩ y).setCell ⟨g, 4, none⟩ z).heap[k]? = w.heap[k]? := by
  rw [Below.heap_setCell _ _ _ _ hk, Below.heap_setCell _ _ _ _ hk, Below.heap_setCell _ _ _ _ hk, Below.heap_setCell _ _ _ _ hk, Below.heap_setCell _ _ _ _ hk]
theorem add_lit (ad : Addr) (k : Nat) (hk : 0 < k) : ad.add k = ⟨ad.block, ad.off + k, none⟩ := by
  have h := add_next ad 0 k hk
  rw [Nat.zero_add, show ad.add 0 = ad by simp [Addr.add]] at h
  exact h
/-- A state stored over another one. -/
theorem sv_put {w : World} {V V0 : Sv} {T : St} {g : Nat} {t : TypeId} (h : SvAt w V T) (hg : Blk w g t V0.cells) (a b x y z : Value) :
    SvAt (((((w.setCell ⟨g, 0, none⟩ a).setCell ⟨g, 1, none⟩ b).setCell ⟨g, 2, none⟩ x).setCell ⟨g, 3, none⟩ y).setCell ⟨g, 4, none⟩ z) V T := h.far hg fun k hk => st_heap w g a b x y z k hk
end Go.Proofs.YtjnmppdohglcaaaDoor

namespace Go.Proofs.YtjnmppdohglcaaaDoor
open Go Go.RowKit
set_option linter.unusedVariables false

def ra1 : Rq := ⟨0, 0, 1, 0, 0, 0, 0⟩
def ra2 : Rq := ⟨0, 1, 9, 0, 50, 0, 0⟩
def ra3 : Rq := ⟨0, 2, 9, 9, 60, 0, 0⟩
def sa1 : St := ⟨house ++ [⟨1, 0, 0⟩], [], 0⟩
def sa2 : St := ⟨[⟨0, 0, 0⟩, ⟨0, 0, 0⟩, ⟨0, 0, 0⟩, ⟨1, -50, 0⟩, ⟨1, 0, 0⟩, ⟨1, 0, 0⟩, ⟨2, 0, 0⟩, ⟨2, 0, 0⟩, ⟨2, 0, 0⟩, ⟨1, 50, 0⟩], [], 0⟩
theorem sa1_is : opE new0 ra1 = 0 ∧ opI new0 ra1 = 9 ∧ opS new0 ra1 = sa1 := ⟨by decide, by decide, by rfl⟩
theorem sa2_is : opE sa1 ra2 = 0 ∧ opS sa1 ra2 = sa2 := ⟨by kernel_rfl, by kernel_rfl⟩
theorem sa3_is : opE sa2 ra3 = 1 := by kernel_rfl
theorem sa_right : rightB new0.acs = true ∧ rightB sa1.acs = true ∧ rightB sa2.acs = true := ⟨by decide, by decide, by decide⟩

set_option maxRecDepth 100000 in
set_option maxHeartbeats 500000 in
theorem oawake_ok (w : World) (hh : HasErr w) : Calls Tryd.prog 6 #[] w fun e w' => e = .returned (.bool true) ∧ Below w.heap.size w w' := by
  have HH := Lib.hid hh
  clear hh
  have HNW := Lib.hid (fun W => sv_new W)
  have HD1 := Lib.hid (fun V W (hv : SvAt W V new0) (hb : Below w.heap.size w W) => sv_do V new0 ra1 W hv (HH.out.below hb) sa_right.1 (by decide))
  have HD2 := Lib.hid (fun V W (hv : SvAt W V sa1) (hb : Below w.heap.size w W) => sv_do V sa1 ra2 W hv (HH.out.below hb) sa_right.2.1 (by decide))
  have HD3 := Lib.hid (fun V W (hv : SvAt W V sa2) (hb : Below w.heap.size w W) => sv_do V sa2 ra3 W hv (HH.out.below hb) sa_right.2.2 (by decide))
  rw [sa1_is.1, sa1_is.2.1, sa1_is.2.2] at HD1
  rw [sa2_is.1, sa2_is.2, show opI sa1 ra2 = 0 by kernel_rfl] at HD2
  rw [sa3_is, show opI sa2 ra3 = 0 by kernel_rfl, show opS sa2 ra3 = sa2 by kernel_rfl] at HD3
  unfold Rq.val ra1 at HD1
  unfold Rq.val ra2 at HD2
  unfold Rq.val ra3 at HD3
  unfold Sv.val Sv.cells at HNW HD1 HD2 HD3
  dsimp only at HNW HD1 HD2 HD3
  go_enter Tryd.func6, Tryd.ntmps6
  go_wp2_with fail
  refine (HNW.out _).mono ?_
  rintro _ w1 ⟨V, rfl, hv, hb1⟩
  have D1 := Lib.hid (HD1.out V w1 hv hb1)
  have B1 := Lib.hid hb1
  obtain ⟨A1, n1, c1, P1, q1, d1, X1, x1, y1, Y1, u1, z1, t1⟩ := V
  dsimp only at D1 ⊢
  clear hv hb1 HD1 HNW
  go_wp2_with fail
  refine D1.out.mono ?_
  rintro _ w2 ⟨V, rfl, hv, hb2⟩
  have B2 := Lib.hid (B1.out.trans (hb2.mono B1.out.size))
  obtain ⟨A2, n2, c2, P2, q2, d2, X2, x2, y2, Y2, u2, z2, t2⟩ := V
  dsimp only at hv ⊢
  have V2 := Lib.hid hv
  clear hv hb2 D1
  go_upto_region 2 with fail
  have G2 := Lib.hid ((Blk.new w2 36 #[.slice A2 n2 c2, .slice P2 q2 d2, .slice X2 x2 y2, .slice Y2 u2 z2, .int .i64 t2]).more (.cells #[.int .i64 0, .int .i64 9] 40))
  have r2 := Blk.new (w2.alloc (.cells #[.slice A2 n2 c2, .slice P2 q2 d2, .slice X2 x2 y2, .slice Y2 u2 z2, .int .i64 t2] 36)) 40 #[.int .i64 0, .int .i64 9]
  rw [alloc_size] at r2
  have R2 := Lib.hid r2
  have al := ((Below.refl w2.heap.size w2).alloc (Nat.le_refl _) (.cells #[.slice A2 n2 c2, .slice P2 q2 d2, .slice X2 x2 y2, .slice Y2 u2 z2, .int .i64 t2] 36)).alloc (by simp) (.cells #[.int .i64 0, .int .i64 9] 40)
  have W2 := Lib.hid (V2.out.below al)
  have B2' := Lib.hid (B2.out.trans (al.mono B2.out.size))
  have hw2 : w.heap.size ≤ w2.heap.size := B2.out.size
  clear r2 al V2 B2
  generalize (w2.alloc (.cells #[.slice A2 n2 c2, .slice P2 q2 d2, .slice X2 x2 y2, .slice Y2 u2 z2, .int .i64 t2] 36)).alloc (.cells #[.int .i64 0, .int .i64 9] 40) = v2 at G2 R2 W2 B2' ⊢
  generalize w2.heap.size = g2 at G2 R2 hw2 ⊢
  have D2 := Lib.hid (HD2.out ⟨A2, n2, c2, P2, q2, d2, X2, x2, y2, Y2, u2, z2, t2⟩ v2 W2.out B2'.out)
  dsimp only at D2
  obtain ⟨a0, a1, a2, a3, a4⟩ := (show _ ∧ _ ∧ _ ∧ _ ∧ _ from ⟨G2.out.cell 0 rfl, G2.out.cell 1 rfl, G2.out.cell 2 rfl, G2.out.cell 3 rfl, G2.out.cell 4 rfl⟩)
  have b1 := R2.out.cell 1 rfl
  clear HD2
  go_wp2_with fail
  refine D2.out.mono ?_
  rintro _ w3 ⟨V, rfl, hv, hb3⟩
  have B3 := Lib.hid (B2'.out.trans (hb3.mono B2'.out.size))
  obtain ⟨A3, n3, c3, P3, q3, d3, X3, x3, y3, Y3, u3, z3, t3⟩ := V
  dsimp only at hv ⊢
  have V3 := Lib.hid hv
  have G3 := Lib.hid (G2.out.later hb3)
  have R3 := Lib.hid (R2.out.later hb3)
  clear hv hb3 D2 a0 a1 a2 a3 a4 b1 W2 G2 R2
  obtain ⟨a0, a1, a2, a3, a4⟩ := (show _ ∧ _ ∧ _ ∧ _ ∧ _ from ⟨G3.out.cell 0 rfl, G3.out.cell 1 rfl, G3.out.cell 2 rfl, G3.out.cell 3 rfl, G3.out.cell 4 rfl⟩)
  obtain ⟨f0, f1, f2, f3, f4⟩ := (show _ ∧ _ ∧ _ ∧ _ ∧ _ from ⟨G3.out.loose 0, G3.out.loose 1, G3.out.loose 2, G3.out.loose 3, G3.out.loose 4⟩)
  have hg3 : g2 + 1 < w3.heap.size := R3.out.lt
  have hg4 : g2 < w3.heap.size := by omega
  go_upto_region 3 with fail
  have S4 := sv_put (V0 := ⟨A2, n2, c2, P2, q2, d2, X2, x2, y2, Y2, u2, z2, t2⟩) V3.out G3.out (.slice A3 n3 c3) (.slice P3 q3 d3) (.slice X3 x3 y3) (.slice Y3 u3 z3) (.int .i64 t3)
  have K4 := st_put G3.out rfl (.slice A3 n3 c3) (.slice P3 q3 d3) (.slice X3 x3 y3) (.slice Y3 u3 z3) (.int .i64 t3)
  have L4 := st_other R3.out (show g2 ≠ g2 + 1 by omega) (.slice A3 n3 c3) (.slice P3 q3 d3) (.slice X3 x3 y3) (.slice Y3 u3 z3) (.int .i64 t3)
  have M4 := st_below B3.out hw2 (.slice A3 n3 c3) (.slice P3 q3 d3) (.slice X3 x3 y3) (.slice Y3 u3 z3) (.int .i64 t3)
  have N4 : w3.heap.size = (((((w3.setCell ⟨g2, 0, none⟩ (.slice A3 n3 c3)).setCell ⟨g2, 1, none⟩ (.slice P3 q3 d3)).setCell ⟨g2, 2, none⟩ (.slice X3 x3 y3)).setCell ⟨g2, 3, none⟩ (.slice Y3 u3 z3)).setCell ⟨g2, 4, none⟩ (.int .i64 t3)).heap.size := by simp
  generalize (((((w3.setCell ⟨g2, 0, none⟩ (.slice A3 n3 c3)).setCell ⟨g2, 1, none⟩ (.slice P3 q3 d3)).setCell ⟨g2, 2, none⟩ (.slice X3 x3 y3)).setCell ⟨g2, 3, none⟩ (.slice Y3 u3 z3)).setCell ⟨g2, 4, none⟩ (.int .i64 t3)) = u4 at S4 K4 L4 M4 N4 ⊢
  have al4 := (Below.refl u4.heap.size u4).alloc (Nat.le_refl _) (.cells #[.int .i64 0, .int .i64 0] 40)
  have W4 := Lib.hid (S4.below al4)
  have G4 := Lib.hid (K4.later al4)
  have R4 := Lib.hid (L4.later al4)
  have Q4 := Lib.hid (N4 ▸ Blk.new u4 40 #[.int .i64 0, .int .i64 0] : Blk (u4.alloc (.cells #[.int .i64 0, .int .i64 0] 40)) w3.heap.size 40 #[.int .i64 0, .int .i64 0])
  have B4 := Lib.hid (M4.trans (al4.mono M4.size))
  clear S4 K4 L4 M4 N4 al4 a0 a1 a2 a3 a4 f0 f1 f2 f3 f4 V3 G3 R3 B3
  generalize u4.alloc (.cells #[.int .i64 0, .int .i64 0] 40) = v4 at W4 G4 R4 Q4 B4 ⊢
  generalize w3.heap.size = g3 at Q4 hg3 hg4 ⊢
  have D3 := Lib.hid (HD3.out ⟨A3, n3, c3, P3, q3, d3, X3, x3, y3, Y3, u3, z3, t3⟩ v4 W4.out B4.out)
  dsimp only at D3
  obtain ⟨a0, a1, a2, a3, a4⟩ := (show _ ∧ _ ∧ _ ∧ _ ∧ _ from ⟨G4.out.cell 0 rfl, G4.out.cell 1 rfl, G4.out.cell 2 rfl, G4.out.cell 3 rfl, G4.out.cell 4 rfl⟩)
  obtain ⟨b0, b1⟩ := (show _ ∧ _ from ⟨R4.out.cell 0 rfl, R4.out.cell 1 rfl⟩)
  have e0 := Q4.out.cell 0 rfl
  clear HD3
  go_wp2_with fail
  refine D3.out.mono ?_
  rintro _ w5 ⟨V, rfl, hv, hb5⟩
  have B5 := Lib.hid (B4.out.trans (hb5.mono B4.out.size))
  obtain ⟨A5, n5, c5, P5, q5, d5, X5, x5, y5, Y5, u5, z5, t5⟩ := V
  have W5 := Lib.hid (W4.out.below hb5)
  have G5 := Lib.hid (G4.out.later hb5)
  have R5 := Lib.hid (R4.out.later hb5)
  have Q5 := Lib.hid (Q4.out.later hb5)
  dsimp only
  have hl := W4.out.n
  obtain ⟨ad, hA, x9⟩ := W5.out.st.accs.at_ (j := 9) (a := ⟨1, 50, 0⟩) rfl
  obtain ⟨ad', hA', x3'⟩ := W5.out.st.accs.at_ (j := 3) (a := ⟨1, -50, 0⟩) rfl
  dsimp only at hA hA' hl
  rw [hA] at hA'
  injection hA' with hA'
  subst hA' hA
  obtain rfl : n3 = 10 := hl.symm
  obtain ⟨_, x9, _⟩ := x9
  obtain ⟨_, x3', _⟩ := x3'
  rw [add_next ad (9 * 3) 1 (by omega), add_lit ad (9 * 3) (by omega)] at x9
  rw [add_next ad (3 * 3) 1 (by omega), add_lit ad (3 * 3) (by omega)] at x3'
  dsimp only [Nat.reduceMul] at x9 x3'
  clear hv hb5 D3 a0 a1 a2 a3 a4 b0 b1 e0 W4 G4 R4 Q4 hl
  obtain ⟨a0, a1, a2, a3, a4⟩ := (show _ ∧ _ ∧ _ ∧ _ ∧ _ from ⟨G5.out.cell 0 rfl, G5.out.cell 1 rfl, G5.out.cell 2 rfl, G5.out.cell 3 rfl, G5.out.cell 4 rfl⟩)
  obtain ⟨b0, b1⟩ := (show _ ∧ _ from ⟨R5.out.cell 0 rfl, R5.out.cell 1 rfl⟩)
  have e0 := Q5.out.cell 0 rfl
  have h5 : g3 < w5.heap.size := Q5.out.lt
  have h6 : g2 < w5.heap.size := by omega
  have h7 : g2 + 1 < w5.heap.size := by omega
  have h8 : ad.block < w5.heap.size := by have := World.block_lt_of_cell? _ _ x9; exact this
  go_wp2
  go_ret
  exact ⟨rfl, (B5.out.alloc B5.out.size _).alloc (by simp; have := B5.out.size; omega) _⟩
end Go.Proofs.YtjnmppdohglcaaaDoor
