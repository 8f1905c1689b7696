/-
  The law's Same of two states that are the same.
  A state as a value of letters, and what New, Do and Same make of it: for the laws.
-/
import Derived.Test.YteifgmdaggiaaaaGreatDoorWGrE
import Derived.Test.YteifgmdaggiaaaaGreatDoorWGrC
import Derived.Deep.CutRange
import Derived.Deep.QuietTactic
import Derived.BigQuiet
import Derived.LoopTactic
import Derived.IntWalk
import Derived.WalkSpells
import Derived.Test.YteifgmdaggiaaaaGreatDoorWOpsDoFn
import Derived.Laws.ResultCell
namespace Go.Proofs.YteifgmdaggiaaaaGreatDoor
open Go Go.RowKit
set_option linter.unusedVariables false
set_option maxRecDepth 100000 in
set_option maxHeartbeats 1000000 in
theorem ssame_yes (s : St) (X Y X' Y' : Value) (A : Option Addr) (c : Nat) (B : Option Addr) (d : Nat) (A' : Option Addr) (c' : Nat) (B' : Option Addr) (d' : Nat) (w : World) (h : StAt w s X Y A c B d) (h' : StAt w s X' Y' A' c' B' d')
  (hX : IsSl X) (hY : IsSl Y) (hX' : IsSl X') (hY' : IsSl Y') (hn : s.acs.length ≤ 64) (hq : s.pys.length ≤ 2000000) :
  Calls Tryz.prog 43 #[stV s X Y A c B d, stV s X' Y' A' c' B' d'] w fun e w' => e = .returned (.bool true) ∧ Below w.heap.size w w' := by
 obtain ⟨zs, ps, now⟩ := s
 obtain ⟨XA, xn, xc, rfl⟩ := hX
 obtain ⟨YA, yn, yc, rfl⟩ := hY
 obtain ⟨XB, xm, xd, rfl⟩ := hX'
 obtain ⟨YB, ym, yd, rfl⟩ := hY'
 unfold stV
 dsimp only at *
 obtain ⟨n, hn'⟩ : ∃ n, zs.length = n := ⟨_, rfl⟩
 obtain ⟨q, hq'⟩ : ∃ q, ps.length = q := ⟨_, rfl⟩
 rw [hn'] at hn
 rw [hq'] at hq
 simp only [hn', hq']
 have HSM := Lib.hid (fun W (hb : Below w.heap.size w W) => same_any A A' n n c c' zs zs W hn' hn' (h.accs.below hb) (h'.accs.below hb) (by omega) (by omega))
 rw [decide_eq_true (show zs = zs from rfl)] at HSM
 have HP := Lib.hid h.pays
 have HP' := Lib.hid h'.pays
 have HQ := Lib.hid hq'
 clear h h' hn' hq'
 go_enter Tryz.func43, Tryz.ntmps43
 go_upto_region 1 with fail
 have q1 := (Blk.new w 35 #[.slice A n c, .slice B q d, .slice XA xn xc, .slice YA yn yc, .int .i64 now]).more (.cells #[.slice A' n c', .slice B' q d', .slice XB xm xd, .slice YB ym yd, .int .i64 now] 35)
 have q2 := Blk.new (w.alloc (.cells #[.slice A n c, .slice B q d, .slice XA xn xc, .slice YA yn yc, .int .i64 now] 35)) 35 #[.slice A' n c', .slice B' q d', .slice XB xm xd, .slice YB ym yd, .int .i64 now]
 rw [alloc_size] at q2
 have HA := Lib.hid q1
 have HB := Lib.hid q2
 have HL := Lib.hid (((Below.refl w.heap.size w).alloc (Nat.le_refl _) (.cells #[.slice A n c, .slice B q d, .slice XA xn xc, .slice YA yn yc, .int .i64 now] 35)).alloc (by simp) (.cells #[.slice A' n c', .slice B' q d', .slice XB xm xd, .slice YB ym yd, .int .i64 now] 35))
 clear q1 q2
 generalize (w.alloc (.cells #[.slice A n c, .slice B q d, .slice XA xn xc, .slice YA yn yc, .int .i64 now] 35)).alloc (.cells #[.slice A' n c', .slice B' q d', .slice XB xm xd, .slice YB ym yd, .int .i64 now] 35) = w1 at HA HB HL ⊢
 obtain ⟨a0, a1, a4⟩ := (show _ ∧ _ ∧ _ from ⟨HA.out.cell 0 rfl, HA.out.cell 1 rfl, HA.out.cell 4 rfl⟩)
 obtain ⟨b0, b1, b4⟩ := (show _ ∧ _ ∧ _ from ⟨HB.out.cell 0 rfl, HB.out.cell 1 rfl, HB.out.cell 4 rfl⟩)
 go_wp2_with fail
 refine (HSM.out _ HL.out).mono ?_
 rintro _ w2 ⟨rfl, hb2⟩
 have HA2 := Lib.hid (HA.out.later hb2)
 have HB2 := Lib.hid (HB.out.later hb2)
 have HL2 := Lib.hid (HL.out.trans (hb2.mono HL.out.size))
 have hlt : w.heap.size + 1 < w2.heap.size := HB2.out.lt
 clear hb2 a0 a1 a4 b0 b1 b4
 obtain ⟨a1, a4⟩ := (show _ ∧ _ from ⟨HA2.out.cell 1 rfl, HA2.out.cell 4 rfl⟩)
 obtain ⟨b1, b4⟩ := (show _ ∧ _ from ⟨HB2.out.cell 1 rfl, HB2.out.cell 4 rfl⟩)
 go_wp2
 go_loopw [31] (fun i wr => ∃ k : Nat, k ≤ q ∧ i = .int .i64 (k : Int) ∧ Below w2.heap.size w2 wr) (fun i _ => q - (intOf i).toNat)
 case atStart => exact ⟨0, Nat.zero_le _, rfl, Below.refl _ _⟩
 case round =>
  obtain ⟨k, hk, rfl, hbel⟩ := hrel
  have HBEL := Lib.hid hbel
  clear hbel
  by_cases hlt : k < q
  · obtain ⟨p, hp⟩ : ∃ p, ps[k]? = some p := ⟨_, List.getElem?_eq_getElem (by rw [HQ.out]; exact hlt)⟩
    obtain ⟨ax, rfl, hax⟩ := (HP.out.below (HL2.out.trans (HBEL.out.mono HL2.out.size))).at_ hp
    obtain ⟨ay, rfl, hay⟩ := (HP'.out.below (HL2.out.trans (HBEL.out.mono HL2.out.size))).at_ hp
    clear hp
    obtain ⟨p0, p1, p2, p3, p4, p5, p6, p7⟩ := pay_cells hax
    obtain ⟨e0, e1, e2, e3, e4, e5, e6, e7⟩ := pay_cells hay
    obtain ⟨pf, pd, pa, pc, pr, pg, pt, pst⟩ := p
    dsimp only at p0 p1 p2 p3 p4 p5 p6 p7 e0 e1 e2 e3 e4 e5 e6 e7
    have a1' := (HA2.out.later HBEL.out).cell 1 rfl
    have b1' := (HB2.out.later HBEL.out).cell 1 rfl
    clear hax hay
    go_wp2
    go_quiet (fail)
    go_wp2
    go_roundw
    · exact ⟨k + 1, by omega, by simp, below_drewN HBEL.out _⟩
    · simp [intOf]; omega
  · go_wp2
    go_ret
    exact ⟨rfl, HL2.out.trans (HBEL.out.mono HL2.out.size)⟩
/-- A state's value. -/
structure Sv where
 A : Option Addr
 n : Nat
 c : Nat
 B : Option Addr
 q : Nat
 d : Nat
 X : Option Addr
 xn : Nat
 xc : Nat
 Y : Option Addr
 yn : Nat
 yc : Nat
 t : Int
def Sv.cells (V : Sv) : Array Value := #[.slice V.A V.n V.c, .slice V.B V.q V.d, .slice V.X V.xn V.xc, .slice V.Y V.yn V.yc, .int .i64 V.t]
def Sv.val (V : Sv) : Value := .agg V.cells
/-- A value that is the state T, without sagas and without what is known. -/
structure SvAt (w : World) (V : Sv) (T : St) : Prop where
 n : T.acs.length = V.n
 q : T.pys.length = V.q
 t : T.now = V.t
 st : StAt w T (.slice none 0 0) (.slice none 0 0) V.A V.c V.B V.d
 sx : RdV sagas w (.slice V.X V.xn V.xc) []
 sy : RdV known w (.slice V.Y V.yn V.yc) []
theorem SvAt.below {w w' : World} {V : Sv} {T : St} (h : SvAt w V T) (hb : Below w.heap.size w w') : SvAt w' V T := ⟨h.n, h.q, h.t, h.st.below hb, h.sx.below hb, h.sy.below hb⟩
theorem SvAt.alloc {w : World} {V : Sv} {T : St} (h : SvAt w V T) (o : Obj) : SvAt (w.alloc o) V T := h.below ((Below.refl _ _).alloc (Nat.le_refl _) o)
theorem SvAt.drewN {w : World} {V : Sv} {T : St} (h : SvAt w V T) (m : Nat) : SvAt (w.drewN m) V T := ⟨h.n, h.q, h.t, ⟨h.st.accs.drewN m, h.st.pays.drewN m, h.st.sa, h.st.sp⟩, h.sx, h.sy⟩
theorem SvAt.val_eq {w : World} {V : Sv} {T : St} (h : SvAt w V T) : stV T (.slice V.X V.xn V.xc) (.slice V.Y V.yn V.yc) V.A V.c V.B V.d = V.val := by
 unfold stV Sv.val Sv.cells
 rw [h.n, h.q, h.t]
/-- What is stored into a state's own block leaves what states read as it was. -/
theorem cell_in {w : World} {g : Nat} {t : TypeId} {vs : Array Value} (h : Blk w g t vs) {ad : Addr} (hb : ad.block = g) {v : Value} (hv : w.cell? ad = some v) : vs[ad.off]? = some v := by
 unfold Blk at h
 subst hb
 cases hs : ad.spot with
 | none => simpa [World.cell?, h, hs] using hv
 | some x => simp [World.cell?, h, hs] at hv
theorem two_ints {w : World} {g : Nat} {t : TypeId} {V : Sv} (h : Blk w g t V.cells) {ad : Addr} {x y : Int} (h0 : w.cell? ad = some (.int .i64 x)) (h1 : w.cell? (ad.add 1) = some (.int .i64 y)) : ad.block ≠ g := fun hb => by
 have e0 := cell_in h hb h0
 have e1 := cell_in h (ad := ad.add 1) (by rw [add_block]; exact hb) h1
 have ho : (ad.add 1).off = ad.off + 1 := by unfold Addr.add; split <;> simp_all
 rw [ho] at e1
 unfold Sv.cells at e0 e1
 match hm : ad.off with
 | 0 => rw [hm] at e0; simp at e0
 | 1 => rw [hm] at e0; simp at e0
 | 2 => rw [hm] at e0; simp at e0
 | 3 => rw [hm] at e0; simp at e0
 | k + 4 => rw [hm] at e1; simp at e1
theorem RdA.far {w w' : World} {A : Option Addr} {zs : List Ac} {g : Nat} {t : TypeId} {V : Sv} (h : RdA w A zs) (hg : Blk w g t V.cells) (hk : ∀ k, k ≠ g → w'.heap[k]? = w.heap[k]?) : RdA w' A zs := fun hn => by
 obtain ⟨ad, he, hc⟩ := h hn
 obtain ⟨a, ha⟩ : ∃ a, zs[0]? = some a := ⟨_, List.getElem?_eq_getElem hn⟩
 have h0 := hc 0 a ha
 have hne : ad.block ≠ g := two_ints hg (by have := h0.c0; rw [Nat.zero_mul] at this; simpa [Addr.add] using this) (by have := h0.c1; rw [Nat.zero_mul, Nat.zero_add] at this; exact this)
 have hb : ∀ i, w'.cell? (ad.add i) = w.cell? (ad.add i) := fun i => World.cell?_of_block (hk _ (by rw [add_block]; exact hne))
 exact ⟨ad, he, fun j b hj => ⟨by rw [hb]; exact (hc j b hj).c0, by rw [hb]; exact (hc j b hj).c1, by rw [hb]; exact (hc j b hj).c2⟩⟩
theorem pays_far {w w' : World} {A : Option Addr} {zs : List Py} {g : Nat} {t : TypeId} {V : Sv} (h : RdS pays w A zs) (hg : Blk w g t V.cells) (hk : ∀ k, k ≠ g → w'.heap[k]? = w.heap[k]?) : RdS pays w' A zs := fun hn => by
 obtain ⟨ad, he, hc⟩ := h hn
 obtain ⟨a, ha⟩ : ∃ a, zs[0]? = some a := ⟨_, List.getElem?_eq_getElem hn⟩
 have h0 := hc 0 a ha
 have hne : ad.block ≠ g := two_ints (x := a.frm) (y := a.dst) hg (by have := h0 0 _ rfl; rw [Nat.zero_mul] at this; simpa [Addr.add] using this) (by have := h0 1 _ rfl; rw [Nat.zero_mul, Nat.zero_add] at this; exact this)
 have hb : ∀ i, w'.cell? (ad.add i) = w.cell? (ad.add i) := fun i => World.cell?_of_block (hk _ (by rw [add_block]; exact hne))
 exact ⟨ad, he, fun j b hj i u hu => by rw [hb]; exact hc j b hj i u hu⟩
theorem RdV.none_at {α : Type} {S : Shape α} {w w' : World} {v : Value} (h : RdV S w v ([] : List α)) : RdV S w' v ([] : List α) := by
 obtain ⟨A, c, e, _, hs⟩ := h
 exact ⟨A, c, e, RdS.nil, hs⟩
theorem SvAt.far {w w' : World} {V V0 : Sv} {T : St} {g : Nat} {t : TypeId} (h : SvAt w V T) (hg : Blk w g t V0.cells) (hk : ∀ k, k ≠ g → w'.heap[k]? = w.heap[k]?) : SvAt w' V T :=
 ⟨h.n, h.q, h.t, ⟨h.st.accs.far hg hk, pays_far h.st.pays hg hk, h.st.sa, h.st.sp⟩, h.sx.none_at, h.sy.none_at⟩
theorem st_heap (w : World) (g : Nat) (a b x y z : Value) (k : Nat) (hk : k ≠ g) : (((((w.setCell ⟨g, 0, none⟩ a).setCell ⟨g, 1, none⟩ b).setCell ⟨g, 2, none⟩ x).setCell ⟨g, 3, none⟩ y).setCell ⟨g, 4, none⟩ z).heap[k]? = w.heap[k]? := by
 rw [Below.heap_setCell _ _ _ _ hk, Below.heap_setCell _ _ _ _ hk, Below.heap_setCell _ _ _ _ hk, Below.heap_setCell _ _ _ _ hk, Below.heap_setCell _ _ _ _ hk]
end Go.Proofs.YteifgmdaggiaaaaGreatDoor
