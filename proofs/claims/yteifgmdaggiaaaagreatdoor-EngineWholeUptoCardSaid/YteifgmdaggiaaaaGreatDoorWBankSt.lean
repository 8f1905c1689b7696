/-
  A state as a value of letters, with whatever sagas and keys it has; what is stored into thin blocks leaves it as it was.
-/
import Derived.Test.YteifgmdaggiaaaaGreatDoorWGrG
import Derived.Test.YteifgmdaggiaaaaGreatDoorWGrE
namespace Go.Proofs.YteifgmdaggiaaaaGreatDoor
open Go Go.RowKit
set_option linter.unusedVariables false
theorem full_some {A : Option Addr} {n c : Nat} {a : Addr} (hn : 0 < n) (h : A = some a) : fullBlock (.slice A n c) = some a.block := by
 subst h
 match n, hn with
 | k + 1, _ => rfl
theorem RdS.lt {α : Type} {S : Shape α} {w : World} {A : Option Addr} {zs : List α} (hr : RdS S w A zs) (hn : 0 < zs.length) (a : Addr) (e : A = some a) : a.block < w.heap.size := by
 obtain ⟨ad, he, hc⟩ := hr hn
 rw [e] at he
 injection he with he
 subst he
 obtain ⟨z, hz⟩ : ∃ z, zs[0]? = some z := ⟨_, List.getElem?_eq_getElem hn⟩
 obtain ⟨u, hu⟩ : ∃ u, (S.cells z)[0]? = some u := ⟨_, List.getElem?_eq_getElem (by rw [S.len]; exact S.pos)⟩
 have h1 := World.block_lt_of_cell? _ _ (hc 0 z hz 0 u hu)
 rwa [add_block] at h1
theorem RdA.lt {w : World} {A : Option Addr} {zs : List Ac} (hr : RdA w A zs) (hn : 0 < zs.length) (a : Addr) (e : A = some a) : a.block < w.heap.size := by
 obtain ⟨ad, he, hc⟩ := hr hn
 rw [e] at he
 injection he with he
 subst he
 obtain ⟨z, hz⟩ : ∃ z, zs[0]? = some z := ⟨_, List.getElem?_eq_getElem hn⟩
 have h1 := World.block_lt_of_cell? _ _ (hc 0 z hz).c0
 rwa [add_block] at h1
theorem full_form {A : Option Addr} {n c b : Nat} (e : fullBlock (.slice A n c) = some b) : 0 < n ∧ ∃ a, A = some a ∧ a.block = b := by
 match A, n, e with
 | some a, k + 1, e => exact ⟨by omega, a, rfl, by injection e⟩
/-- A list of the call's own lies in no block of another type. -/
theorem OwnS.ne {α : Type} {S : Shape α} {w : World} {base g : Nat} {v : Value} {zs : List α} {t : TypeId} {vs : Array Value} (h : OwnS S w base v zs) (hg : Blk w g t vs) (ht : S.ty ≠ t) : ∀ b, v.ownBlock = some b → b ≠ g := by
 intro b e he
 subst he
 rcases h.2 with ⟨hv, _⟩ | ⟨g', cap, cur, hv, _, hg', _⟩
 · rw [hv] at e
   cases e
 · rw [hv] at e
   injection e with e
   dsimp only at e
   subst e
   unfold Blk at hg
   rw [hg'] at hg
   injection hg with hg
   injection hg with _ h2 _
   exact ht h2
/-- A value that is the state T with these sagas and keys. -/
structure SkAt (w : World) (V : Sv) (T : St) (sl : List Sg) (kl : List Kn) : Prop where
 n : T.acs.length = V.n
 q : T.pys.length = V.q
 xn : sl.length = V.xn
 yn : kl.length = V.yn
 t : T.now = V.t
 accs : RdA w V.A T.acs
 pays : RdS pays w V.B T.pys
 sag : RdS sagas w V.X sl
 kn : RdS known w V.Y kl
 sa : Sl V.A V.n V.c
 sp : Sl V.B V.q V.d
 sx : Sl V.X V.xn V.xc
 sy : Sl V.Y V.yn V.yc
/-- All blocks of its slices that are not empty have p; its slices lie in new blocks (from n on), or in those of V. -/
def Sv.in_ (V : Sv) (p : Nat → Prop) : Prop := inP p V.A V.n V.B V.q (.slice V.X V.xn V.xc) (.slice V.Y V.yn V.yc)
def Sv.new (V V' : Sv) (n : Nat) : Prop := ∀ p : Nat → Prop, (∀ b, n ≤ b → p b) → V.in_ p → V'.in_ p
theorem Sv.new.refl (V : Sv) (n : Nat) : V.new V n := fun p _ h => h
theorem Sv.new.trans {V V' V'' : Sv} {n m : Nat} (h : V.new V' n) (k : V'.new V'' m) (hm : n ≤ m) : V.new V'' n := fun p hp hV => k p (fun b hb => hp b (by omega)) (h p hp hV)
section
variable {w w' : World} {V : Sv} {T : St} {sl : List Sg} {kl : List Kn}
theorem SkAt.below (h : SkAt w V T sl kl) (hb : Below w.heap.size w w') : SkAt w' V T sl kl := ⟨h.n, h.q, h.xn, h.yn, h.t, h.accs.below hb, h.pays.below hb, h.sag.below hb, h.kn.below hb, h.sa, h.sp, h.sx, h.sy⟩
theorem SkAt.alloc (h : SkAt w V T sl kl) (o : Obj) : SkAt (w.alloc o) V T sl kl := h.below ((Below.refl _ _).alloc (Nat.le_refl _) o)
theorem SkAt.drewN (h : SkAt w V T sl kl) (m : Nat) : SkAt (w.drewN m) V T sl kl := ⟨h.n, h.q, h.xn, h.yn, h.t, h.accs.drewN m, h.pays.drewN m, h.sag.drewN m, h.kn.drewN m, h.sa, h.sp, h.sx, h.sy⟩
theorem SkAt.st (h : SkAt w V T sl kl) {X Y : Value} : StAt w T X Y V.A V.c V.B V.d := ⟨h.accs, h.pays, by rw [h.n]; exact h.sa, by rw [h.q]; exact h.sp⟩
theorem SkAt.rx (h : SkAt w V T sl kl) : RdV sagas w (.slice V.X V.xn V.xc) sl := ⟨V.X, V.xc, by rw [h.xn], h.sag, by rw [h.xn]; exact h.sx⟩
theorem SkAt.ry (h : SkAt w V T sl kl) : RdV known w (.slice V.Y V.yn V.yc) kl := ⟨V.Y, V.yc, by rw [h.yn], h.kn, by rw [h.yn]; exact h.sy⟩
theorem SkAt.val_eq (h : SkAt w V T sl kl) : stV T (.slice V.X V.xn V.xc) (.slice V.Y V.yn V.yc) V.A V.c V.B V.d = V.val := by
 unfold stV Sv.val Sv.cells
 rw [h.n, h.q, h.t]
theorem sk_of {X Y : Value} {A : Option Addr} {c : Nat} {B : Option Addr} {d : Nat} (h : StAt w T X Y A c B d) (hX : RdV sagas w X sl) (hY : RdV known w Y kl) : ∃ V : Sv, stV T X Y A c B d = V.val ∧ SkAt w V T sl kl ∧ ∀ p, inP p A T.acs.length B T.pys.length X Y → V.in_ p := by
 obtain ⟨XA, xc, rfl, hx1, hx2⟩ := hX
 obtain ⟨YA, yc, rfl, hy1, hy2⟩ := hY
 exact ⟨⟨A, T.acs.length, c, B, T.pys.length, d, XA, sl.length, xc, YA, kl.length, yc, T.now⟩, rfl, ⟨rfl, rfl, rfl, rfl, rfl, h.accs, h.pays, hx1, hy1, h.sa, h.sp, hx2, hy2⟩, fun p h => h⟩
theorem SvAt.sk (h : SvAt w V T) : SkAt w V T [] [] := by
 obtain ⟨XA, xc, e1, hx1, hx2⟩ := h.sx
 obtain ⟨YA, yc, e2, hy1, hy2⟩ := h.sy
 injection e1 with e1 e3 e4
 injection e2 with e5 e6 e7
 have h1 : V.xn = 0 := e3
 have h2 : V.yn = 0 := e6
 refine ⟨h.n, h.q, by rw [h1]; rfl, by rw [h2]; rfl, h.t, h.st.accs, h.st.pays, RdS.nil, RdS.nil, by rw [← h.n]; exact h.st.sa, by rw [← h.q]; exact h.st.sp, ?_, ?_⟩
 · rw [e1, h1, e4]; exact hx2
 · rw [e5, h2, e7]; exact hy2
/-- No three whole numbers lie side by side. -/
def Thin (vs : Array Value) : Prop := ∀ (i : Nat) (x y z : Int), vs[i]? = some (.int .i64 x) → vs[i + 1]? = some (.int .i64 y) → vs[i + 2]? = some (.int .i64 z) → False
theorem thin_st (a b x y : Option Addr) (n1 n2 n3 n4 c1 c2 c3 c4 : Nat) (t : Int) : Thin #[.slice a n1 c1, .slice b n2 c2, .slice x n3 c3, .slice y n4 c4, .int .i64 t] := fun i p q r h1 h2 h3 => by
 match i with
 | 0 => simp at h1
 | 1 => simp at h1
 | 2 => simp at h1
 | 3 => simp at h1
 | k + 4 => simp at h2
theorem thin_rp (a b : Int) : Thin #[.int .i64 a, .int .i64 b] := fun i p q r h1 h2 h3 => by
 match i with
 | 0 => simp at h3
 | k + 1 => simp at h3
theorem thin_an (a : Option Addr) (n c : Nat) (t : Int) : Thin #[.slice a n c, .int .i64 t] := fun i p q r h1 h2 h3 => by
 match i with
 | 0 => simp at h1
 | k + 1 => simp at h2
theorem Sv.thin (V : Sv) : Thin V.cells := thin_st _ _ _ _ _ _ _ _ _ _ _ _ _
theorem three_ints {g : Nat} {t : TypeId} {vs : Array Value} (h : Blk w g t vs) (hv : Thin vs) {ad : Addr} {x y z : Int} (h0 : w.cell? ad = some (.int .i64 x)) (h1 : w.cell? (ad.add 1) = some (.int .i64 y)) (h2 : w.cell? (ad.add 2) = some (.int .i64 z)) : ad.block ≠ g := fun hb => by
 have e0 := cell_in h hb h0
 have e1 := cell_in h (ad := ad.add 1) (by rw [add_block]; exact hb) h1
 have e2 := cell_in h (ad := ad.add 2) (by rw [add_block]; exact hb) h2
 have ho : (ad.add 1).off = ad.off + 1 := by unfold Addr.add; split <;> simp_all
 have hp : (ad.add 2).off = ad.off + 2 := by unfold Addr.add; split <;> simp_all
 rw [ho] at e1
 rw [hp] at e2
 exact hv _ _ _ _ e0 e1 e2
theorem RdA.thin {A : Option Addr} {zs : List Ac} {g : Nat} {t : TypeId} {vs : Array Value} (h : RdA w A zs) (hg : Blk w g t vs) (hv : Thin vs) (hk : ∀ k, k ≠ g → w'.heap[k]? = w.heap[k]?) : RdA w' A zs := fun hn => by
 obtain ⟨ad, he, hc⟩ := h hn
 obtain ⟨a, ha⟩ : ∃ a, zs[0]? = some a := ⟨_, List.getElem?_eq_getElem hn⟩
 have h0 := hc 0 a ha
 have hne : ad.block ≠ g := three_ints hg hv (by have := h0.c0; rw [Nat.zero_mul] at this; simpa [Addr.add] using this) (by have := h0.c1; rw [Nat.zero_mul, Nat.zero_add] at this; exact this) (by have := h0.c2; rw [Nat.zero_mul, Nat.zero_add] at this; exact this)
 have hb : ∀ i, w'.cell? (ad.add i) = w.cell? (ad.add i) := fun i => World.cell?_of_block (hk _ (by rw [add_block]; exact hne))
 exact ⟨ad, he, fun j b hj => ⟨by rw [hb]; exact (hc j b hj).c0, by rw [hb]; exact (hc j b hj).c1, by rw [hb]; exact (hc j b hj).c2⟩⟩
theorem RdS.thin {α : Type} {S : Shape α} {A : Option Addr} {zs : List α} {g : Nat} {t : TypeId} {vs : Array Value} (h : RdS S w A zs) (hf : ∀ a : α, ∃ x y z, (S.cells a)[0]? = some (.int .i64 x) ∧ (S.cells a)[1]? = some (.int .i64 y) ∧ (S.cells a)[2]? = some (.int .i64 z)) (hg : Blk w g t vs) (hv : Thin vs) (hk : ∀ k, k ≠ g → w'.heap[k]? = w.heap[k]?) : RdS S w' A zs := fun hn => by
 obtain ⟨ad, he, hc⟩ := h hn
 obtain ⟨a, ha⟩ : ∃ a, zs[0]? = some a := ⟨_, List.getElem?_eq_getElem hn⟩
 have h0 := hc 0 a ha
 obtain ⟨x, y, z, f0, f1, f2⟩ := hf a
 have hne : ad.block ≠ g := three_ints hg hv (by have := h0 0 _ f0; rw [Nat.zero_mul] at this; simpa [Addr.add] using this) (by have := h0 1 _ f1; rw [Nat.zero_mul, Nat.zero_add] at this; exact this) (by have := h0 2 _ f2; rw [Nat.zero_mul, Nat.zero_add] at this; exact this)
 have hb : ∀ i, w'.cell? (ad.add i) = w.cell? (ad.add i) := fun i => World.cell?_of_block (hk _ (by rw [add_block]; exact hne))
 exact ⟨ad, he, fun j b hj i u hu => by rw [hb]; exact hc j b hj i u hu⟩
theorem SkAt.far {g : Nat} {t : TypeId} {vs : Array Value} (h : SkAt w V T sl kl) (hg : Blk w g t vs) (hv : Thin vs) (hk : ∀ k, k ≠ g → w'.heap[k]? = w.heap[k]?) : SkAt w' V T sl kl :=
 ⟨h.n, h.q, h.xn, h.yn, h.t, h.accs.thin hg hv hk, h.pays.thin (fun a => ⟨_, _, _, rfl, rfl, rfl⟩) hg hv hk, h.sag.thin (fun a => ⟨_, _, _, rfl, rfl, rfl⟩) hg hv hk, h.kn.thin (fun a => ⟨_, _, _, rfl, rfl, rfl⟩) hg hv hk, h.sa, h.sp, h.sx, h.sy⟩
/-- A state stored over another one. -/
theorem sk_put {V0 : Sv} {g : Nat} {t : TypeId} (h : SkAt w V T sl kl) (hg : Blk w g t V0.cells) (a b x y z : Value) :
  SkAt (((((w.setCell ⟨g, 0, none⟩ a).setCell ⟨g, 1, none⟩ b).setCell ⟨g, 2, none⟩ x).setCell ⟨g, 3, none⟩ y).setCell ⟨g, 4, none⟩ z) V T sl kl := h.far hg V0.thin fun k hk => st_heap w g a b x y z k hk
theorem sk_zero {g : Nat} {t : TypeId} (h : SkAt w V T sl kl) (hg : Blk w g t st0) (a b x y z : Value) :
  SkAt (((((w.setCell ⟨g, 0, none⟩ a).setCell ⟨g, 1, none⟩ b).setCell ⟨g, 2, none⟩ x).setCell ⟨g, 3, none⟩ y).setCell ⟨g, 4, none⟩ z) V T sl kl := h.far hg (thin_st _ _ _ _ _ _ _ _ _ _ _ _ _) fun k hk => st_heap w g a b x y z k hk
theorem sk_rp {g : Nat} {t : TypeId} {e i : Int} (h : SkAt w V T sl kl) (hg : Blk w g t #[.int .i64 e, .int .i64 i]) (a b : Value) :
  SkAt ((w.setCell ⟨g, 0, none⟩ a).setCell ⟨g, 1, none⟩ b) V T sl kl := h.far hg (thin_rp e i) fun k hk => by rw [Below.heap_setCell _ _ _ _ hk, Below.heap_setCell _ _ _ _ hk]
/-- What a state reads lies in the heap. -/
theorem SkAt.in_lt (h : SkAt w V T sl kl) : V.in_ (fun b => b < w.heap.size) := by
 refine ⟨fun hn a e => h.accs.lt (by rw [h.n]; exact hn) a e, fun hn a e => h.pays.lt (by rw [h.q]; exact hn) a e, fun b e => ?_, fun b e => ?_⟩
 · obtain ⟨h1, a, h2, rfl⟩ := full_form e
   exact h.sag.lt (by rw [h.xn]; exact h1) a h2
 · obtain ⟨h1, a, h2, rfl⟩ := full_form e
   exact h.kn.lt (by rw [h.yn]; exact h1) a h2
/-- The sagas lie in a block of their own, in which nothing else of the state lies. -/
structure Apart (w : World) (V : Sv) (base : Nat) (sl : List Sg) : Prop where
 own : OwnS sagas w base (.slice V.X V.xn V.xc) sl
 far : ∀ b, (Value.slice V.X V.xn V.xc).ownBlock = some b → inP (fun k => k ≠ b) V.A V.n V.B V.q (.slice none 0 0) (.slice V.Y V.yn V.yc)
theorem Apart.below {base : Nat} (h : Apart w V base sl) (hb : Below w.heap.size w w') : Apart w' V base sl := ⟨h.own.below hb, h.far⟩
theorem Apart.less {base b : Nat} (h : Apart w V base sl) (hb : b ≤ base) : Apart w V b sl := ⟨h.own.less hb, h.far⟩
theorem Apart.drewN {base : Nat} (h : Apart w V base sl) (m : Nat) : Apart (w.drewN m) V base sl := ⟨h.own.drewN m, h.far⟩
theorem own_st {α : Type} {S : Shape α} {base g : Nat} {v : Value} {zs : List α} (h : OwnS S w base v zs) (hg : ∀ b, v.ownBlock = some b → b ≠ g) (x0 x1 x2 x3 x4 : Value) :
  OwnS S (((((w.setCell ⟨g, 0, none⟩ x0).setCell ⟨g, 1, none⟩ x1).setCell ⟨g, 2, none⟩ x2).setCell ⟨g, 3, none⟩ x3).setCell ⟨g, 4, none⟩ x4) base v zs := h.same fun b e => st_heap w g x0 x1 x2 x3 x4 b (hg b e)
theorem Apart.put {base g : Nat} {vs : Array Value} (h : Apart w V base sl) (hg : Blk w g 35 vs) (x0 x1 x2 x3 x4 : Value) :
  Apart (((((w.setCell ⟨g, 0, none⟩ x0).setCell ⟨g, 1, none⟩ x1).setCell ⟨g, 2, none⟩ x2).setCell ⟨g, 3, none⟩ x3).setCell ⟨g, 4, none⟩ x4) V base sl := ⟨own_st h.own (h.own.ne hg (by decide)) _ _ _ _ _, h.far⟩
/-- Do of any request of such a state. -/
theorem sk_do (V : Sv) (T : St) (sl : List Sg) (kl : List Kn) (r : Rq) (w : World) (h : SkAt w V T sl kl) (hh : HasErr w) (hrt : rightB T.acs = true) (hq : T.pys.length ≤ 2000000) (hsl : sl.length ≤ 2000000) (hkl : kl.length ≤ 2000000) :
  Calls Tryz.prog 75 #[V.val, r.val] w fun e w' => ∃ V' : Sv, e = .returned (.tuple #[V'.val, .agg #[.int .i64 (opE T r), .int .i64 (opI T r)]]) ∧ SkAt w' V' (opS T r) sl kl ∧ Below w.heap.size w w' ∧ V.new V' w.heap.size := by
 rw [← h.val_eq]
 exact (do_allF T r _ _ _ _ _ _ sl kl w h.st h.rx h.ry hh hrt hq hsl hkl).mono fun e w' ⟨X, Y, A, c, B, d, he, hs, hX, hY, hb, hn⟩ => by
  obtain ⟨V', hv, h', hi⟩ := sk_of hs hX hY
  exact ⟨V', by rw [he, hv], h', hb, fun p hp hV => hi p (hn p hp (by rw [h.n, h.q]; exact hV))⟩
end
end Go.Proofs.YteifgmdaggiaaaaGreatDoor
