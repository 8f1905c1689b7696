/-
  Small words of the walks over accounts; chart.isCurrency by its contract.
  chart.Of and Number by their contracts.
  chart.IsClient by its contract.
  chart.Clone, the law's Same and chart.Free by their contracts.
  Add and Convert of package money by their contracts.
  May and Amount of package money by their contracts.
  money.Rates by its contract: the document's nine rates, in new memory.
  The small functions of entry by their contracts: exists, isCurrency, convert.
  entry.Move by its contract: the entries of a move, or its error.
  The small functions of ledger by their contracts: mayHold, isClientShort.
  ledger.Hold and Release by their contracts.
  Two arrays of three ints, compared.
  entry.Balanced by its contract.
  ledger.Post by its contract.
  ledger.Spend by its contract.
  entry.Back by its contract.
  What a move's entries come to: plain words, no program.
-/
import Derived.Test.YteifgmdaggiaaaaGreatDoorWGrA
import Derived.Test.YteifgmdaggiaaaaGreatDoorWGrB
import Derived.WalkKit
import Derived.LoopTactic
import Derived.BigQuiet
import Derived.Deep.QuietTactic
import Derived.IntWalk
import Derived.WalkSpells
import Derived.Test.YteifgmdaggiaaaaGreatDoorProg
import Derived.Below
import Derived.WalkSmall
import Derived.Deep.RegionHeld3
import Derived.RegionTactic
import Derived.BigRegion
namespace Go.Proofs.YteifgmdaggiaaaaGreatDoor
open Go Go.RowKit
set_option linter.unusedVariables false
theorem isCur_any (c : Int) (w : World) : Calls Tryz.prog 44 #[.int .i64 c] w fun e w' => e = .returned (.bool (decide (0 ≤ c ∧ c < 3))) ∧ w = w' := by
 by_cases h1 : 0 ≤ c
 · by_cases h2 : c < 3
   · have e : decide (0 ≤ c ∧ c < 3) = true := decide_eq_true ⟨h1, h2⟩
     rw [e]
     clear e
     go_enter Tryz.func44, Tryz.ntmps44
     go_wp2
     go_ret
     exact ⟨rfl, rfl⟩
   · have e : decide (0 ≤ c ∧ c < 3) = false := decide_eq_false fun h => h2 h.2
     rw [e]
     clear e
     go_enter Tryz.func44, Tryz.ntmps44
     go_wp2
     go_ret
     exact ⟨rfl, rfl⟩
 · have e : decide (0 ≤ c ∧ c < 3) = false := decide_eq_false fun h => h1 h.1
   rw [e]
   clear e
   go_enter Tryz.func44, Tryz.ntmps44
   go_wp2
   go_ret
   exact ⟨rfl, rfl⟩
theorem of_none (A : Option Addr) (n cap : Nat) (k : Int) (w : World) (h : ¬ (0 ≤ k ∧ k < (n : Int))) :
  Calls Tryz.prog 126 #[.slice A n cap, .int .i64 k] w fun e w' => e = .returned (.tuple #[.int .i64 0, .bool false]) ∧ w = w' := by
 by_cases h1 : k < 0
 · clear h
   go_enter Tryz.func126, Tryz.ntmps126
   go_wp2
   go_ret2
   exact ⟨rfl, rfl⟩
 · have h2 : (n : Int) ≤ k := by omega
   clear h
   go_enter Tryz.func126, Tryz.ntmps126
   go_wp2
   go_ret2
   exact ⟨rfl, rfl⟩
theorem of_client (A : Option Addr) (n cap : Nat) (k : Int) (w : World) (h : 9 ≤ k) (hn : k < (n : Int)) :
  Calls Tryz.prog 126 #[.slice A n cap, .int .i64 k] w fun e w' => e = .returned (.tuple #[.int .i64 3, .bool true]) ∧ w = w' := by
 go_enter Tryz.func126, Tryz.ntmps126
 go_wp2
 go_ret2
 exact ⟨rfl, rfl⟩
theorem of_house (A : Option Addr) (n cap : Nat) (k : Int) (w : World) (h0 : 0 ≤ k) (h9 : k < 9) (hn : k < (n : Int)) :
  Calls Tryz.prog 126 #[.slice A n cap, .int .i64 k] w fun e w' => e = .returned (.tuple #[.int .i64 (k % 3), .bool true]) ∧ w = w' := by
 have e0 : k.tmod 3 = k % 3 := Int.tmod_eq_emod_of_nonneg h0
 go_enter Tryz.func126, Tryz.ntmps126
 go_wp2
 go_ret2
 exact ⟨rfl, rfl⟩
theorem number_some (k c : Int) (w : World) (k0 : 0 ≤ k) (k3 : k < 3) (c0 : 0 ≤ c) (c3 : c < 3) :
  Calls Tryz.prog 155 #[.int .i64 k, .int .i64 c] w fun e w' => e = .returned (.int .i64 (c * 3 + k)) ∧ w = w' := by
 have HC := Lib.hid (fun W => isCur_any c W)
 rw [decide_eq_true (p := 0 ≤ c ∧ c < 3) ⟨c0, c3⟩] at HC
 go_enter Tryz.func155, Tryz.ntmps155
 go_wp2_with (first | (go_at_call 44; refine (HC.out _).mono ?_; rintro e w1 ⟨rfl, rfl⟩))
 go_ret
 exact ⟨rfl, rfl⟩
theorem isClient_none (A : Option Addr) (n cap : Nat) (k : Int) (w : World) (h : ¬ (0 ≤ k ∧ k < (n : Int))) :
  Calls Tryz.prog 97 #[.slice A n cap, .int .i64 k] w fun e w' => e = .returned (.bool false) ∧ w = w' := by
 have H := Lib.hid h
 clear h
 go_enter Tryz.func97, Tryz.ntmps97
 go_wp2_with (first | (go_at_call 126; refine (of_none A n cap k _ H.out).mono ?_; rintro e w1 ⟨rfl, rfl⟩))
 go_ret
 exact ⟨rfl, rfl⟩
theorem isClient_client (A : Option Addr) (n cap : Nat) (k : Int) (w : World) (h : 9 ≤ k) (hn : k < (n : Int)) :
  Calls Tryz.prog 97 #[.slice A n cap, .int .i64 k] w fun e w' => e = .returned (.bool true) ∧ w = w' := by
 go_enter Tryz.func97, Tryz.ntmps97
 go_wp2_with (first | (go_at_call 126; refine (of_client A n cap k _ h hn).mono ?_; rintro e w1 ⟨rfl, rfl⟩))
 go_ret
 exact ⟨rfl, rfl⟩
theorem isClient_house (A : Option Addr) (n cap : Nat) (k : Int) (w : World) (h0 : 0 ≤ k) (h9 : k < 9) (hn : k < (n : Int)) :
  Calls Tryz.prog 97 #[.slice A n cap, .int .i64 k] w fun e w' => e = .returned (.bool false) ∧ w = w' := by
 obtain ⟨q, hq⟩ : ∃ q, k % 3 = q := ⟨_, rfl⟩
 have H := Lib.hid (fun W => of_house A n cap k W h0 h9 hn)
 rw [hq] at H
 have hq3 : (q == 3) = false := by simp; omega
 clear hq
 go_enter Tryz.func97, Tryz.ntmps97
 go_wp2_with (first | (go_at_call 126; refine (H.out _).mono ?_; rintro e w1 ⟨rfl, rfl⟩))
 go_ret
 exact ⟨rfl, rfl⟩
theorem size_acc : (Tryz.prog.info? 90).map (·.size) = some 3 := by kernel_rfl
set_option maxRecDepth 100000 in
/-- copy of as many accounts as there are. -/
theorem run_copy_acc (w : World) (ty : TypeId) (g n dCap : Nat) (A : Option Addr) (sCap : Nat) (cur : Array Value) (t : TypeId) (zs : List Ac) (hg : w.heap[g]? = some (.cells cur t (0, 0))) (hl : zs.length = n) (hr : RdA w A zs) (hfit : cur.size = n * 3) (hnil : A = none → n = 0 ∧ sCap = 0) :
  (Builtin.copy_ #[30, 30] ty #[.slice (some ⟨g, 0, none⟩) n dCap, .slice A n sCap]).run Tryz.prog w = .ok (goInt n) (w.setRow g (acells zs).toArray) := by
 have hcl : (acells zs).length = n * 3 := by rw [acells_len, hl]
 cases hq : Tryz.prog.info? 90 with
 | none => have := size_acc; simp [hq] at this
 | some i =>
   have hi : i.size = 3 := by have := size_acc; simpa [hq] using this
   cases A with
   | none =>
     obtain ⟨rfl, rfl⟩ := hnil rfl
     have h0 : zs = [] := List.eq_nil_of_length_eq_zero hl
     subst h0
     have hc : cur = #[] := by apply Array.eq_empty_of_size_eq_zero; omega
     subst hc
     have hset : w.setRow g (acells []).toArray = w := setRow_self w g #[] t (0, 0) hg
     rw [hset]
     simp [Builtin.copy_, run_underlying Tryz.underlying30, Builtin.lenOf, Builtin.firstCells, sizeOf, typeInfo, hq, storeCells]
   | some a =>
     have hsrc : ∀ j v, (acells zs)[j]? = some v → w.cell? (a.add j) = some v := by
      intro j v hv
      have hj : j < n * 3 := by have := (List.getElem?_eq_some_iff.1 hv).1; omega
      obtain ⟨ad, he, hc⟩ := hr (by omega)
      injection he with he
      subst he
      have hz : zs[j / 3]? = some zs[j / 3] := List.getElem?_eq_getElem (by omega)
      obtain ⟨k0, k1, k2⟩ := acells_get hz
      have hat := hc (j / 3) _ hz
      have h3 : j % 3 = 0 ∨ j % 3 = 1 ∨ j % 3 = 2 := by omega
      rcases h3 with h3 | h3 | h3
      · have e : j / 3 * 3 = j := by omega
        rw [e, hv] at k0
        have := hat.c0
        rw [e, ← k0] at this
        exact this
      · have e : j / 3 * 3 + 1 = j := by omega
        rw [e, hv] at k1
        have := hat.c1
        rw [e, ← k1] at this
        exact this
      · have e : j / 3 * 3 + 2 = j := by omega
        rw [e, hv] at k2
        have := hat.c2
        rw [e, ← k2] at this
        exact this
     have hld := run_loadCells_list (P := Tryz.prog) w a (acells zs) hsrc
     rw [hcl] at hld
     have hst := run_storeCells_at Tryz.prog g 0 t (acells zs) 0 cur w hg (by omega) (acells_one zs)
     have hd : cur.toList.drop (0 + 0 + (acells zs).length) = [] := List.drop_eq_nil_of_le (by simp; omega)
     rw [hd] at hst
     simp only [Nat.add_zero, List.take_zero, List.nil_append, List.append_nil] at hst
     have hmin : Nat.min n n = n := Nat.min_self n
     simp [Builtin.copy_, run_underlying Tryz.underlying30, Builtin.lenOf, Builtin.firstCells, sizeOf, typeInfo, hq, hi, hmin, hld, hst]
set_option maxRecDepth 100000 in
theorem clone_acc (A : Option Addr) (n cap : Nat) (zs : List Ac) (w : World) (hl : zs.length = n) (hr : RdA w A zs) (hn : n ≤ 5864062014805) (hnil : A = none → n = 0 ∧ cap = 0) :
  Calls Tryz.prog 68 #[.slice A n cap] w fun e w' => e = .returned (.slice (some ⟨w.heap.size, 0, none⟩) n n) ∧ OwnA w' w.heap.size (.slice (some ⟨w.heap.size, 0, none⟩) n n) zs ∧ Below w.heap.size w w' := by
 have hmk := run_make_acc n hn
 have HR := Lib.hid hr
 have HL := Lib.hid hl
 have HN := Lib.hid hnil
 have hcp := run_copy_acc (w.alloc (.cells (madeCells #[.int .i64 0, .int .i64 0, .int .i64 0] (n * 3)) 90)) 3 w.heap.size n n A cap _ _ zs (heap_alloc_new w _) hl (hr.alloc _) (size_madeCells _ _) hnil
 clear hr hl hnil
 go_enter Tryz.func68, Tryz.ntmps68
 go_wp2
 go_ret
 refine ⟨rfl, ?_, ?_⟩
 · refine ⟨by rw [acells_len], .inr ⟨w.heap.size, n, (acells zs).toArray, by rw [HL.out], Nat.le_refl _, setRow_heap _ _ _ _ _ _ (heap_alloc_new w _), by rw [HL.out]; exact Nat.le_refl _, by simp only [maxLen]; omega, by simp [acells_len, HL.out], ?_⟩⟩
   exact List.take_of_length_le (by simp [acells_len])
 · exact ((Below.refl w.heap.size w).alloc (Nat.le_refl _) _).trans ⟨rfl, rfl, rfl, by simp [World.setRow], fun k hk => setRow_other _ _ _ _ (by omega)⟩
instance : DecidableEq Ac := fun a b => decidable_of_iff (a.cur = b.cur ∧ a.bal = b.bal ∧ a.held = b.held) (by cases a; cases b; simp)
theorem same_drop {xs ys : List Ac} {k : Nat} {a b : Ac} (ha : xs[k]? = some a) (hb : ys[k]? = some b) : (xs.drop k = ys.drop k) ↔ (a = b ∧ xs.drop (k + 1) = ys.drop (k + 1)) := by
 obtain ⟨hx, rfl⟩ := List.getElem?_eq_some_iff.1 ha
 obtain ⟨hy, rfl⟩ := List.getElem?_eq_some_iff.1 hb
 rw [List.drop_eq_getElem_cons hx, List.drop_eq_getElem_cons hy, List.cons.injEq]
set_option maxRecDepth 100000 in
set_option maxHeartbeats 4000000 in
theorem same_any (A B : Option Addr) (n m cap capb : Nat) (xs ys : List Ac) (w : World) (hx : xs.length = n) (hy : ys.length = m) (hrx : RdA w A xs) (hry : RdA w B ys) (hn : n ≤ 9223372036854775807) (hm : m ≤ 9223372036854775807) :
  Calls Tryz.prog 83 #[.slice A n cap, .slice B m capb] w fun e w' => e = .returned (.bool (decide (xs = ys))) ∧ Below w.heap.size w w' := by
 have HX := Lib.hid hrx
 have HY := Lib.hid hry
 have HLX := Lib.hid hx
 have HLY := Lib.hid hy
 obtain ⟨r, hres⟩ : ∃ r, decide (xs = ys) = r := ⟨_, rfl⟩
 rw [hres]
 have HRES := Lib.hid hres
 clear hrx hry hx hy hres
 by_cases hnm : n = m
 · subst hnm
   go_enter Tryz.func83, Tryz.ntmps83
   go_wp2
   go_loopw [13] (fun i wr => ∃ k : Nat, k ≤ n ∧ i = .int .i64 (k : Int) ∧ decide (xs.drop k = ys.drop k) = r ∧ Below w.heap.size w wr) (fun i _ => n - (intOf i).toNat)
   case atStart => exact ⟨0, Nat.zero_le _, rfl, HRES.out, Below.refl _ _⟩
   case round =>
    obtain ⟨k, hk, rfl, hrest, hbel⟩ := hrel
    have HREST := Lib.hid hrest
    have HBEL := Lib.hid hbel
    clear hrest hbel
    by_cases hlt : k < n
    · obtain ⟨a, ha⟩ : ∃ a, xs[k]? = some a := ⟨_, List.getElem?_eq_getElem (by rw [HLX.out]; exact hlt)⟩
      obtain ⟨b, hb⟩ : ∃ b, ys[k]? = some b := ⟨_, List.getElem?_eq_getElem (by rw [HLY.out]; exact hlt)⟩
      obtain ⟨ax, rfl, hax⟩ := (HX.out.below HBEL.out).at_ ha
      obtain ⟨ay, rfl, hay⟩ := (HY.out.below HBEL.out).at_ hb
      have HS := Lib.hid (same_drop ha hb)
      clear ha hb
      obtain ⟨c0, c1, c2⟩ := hax
      obtain ⟨d0, d1, d2⟩ := hay
      rw [add_next _ (k * 3) 1 (by omega)] at c1 d1
      rw [add_next _ (k * 3) 2 (by omega)] at c2 d2
      obtain ⟨ac, ab, al⟩ := a
      obtain ⟨bc, bb, bl⟩ := b
      simp only at c0 c1 c2 d0 d1 d2
      by_cases e0 : ac = bc
      · subst e0
        by_cases e1 : ab = bb
        · subst e1
          by_cases e2 : al = bl
          · subst e2
            have HN : Hid (decide (xs.drop (k + 1) = ys.drop (k + 1)) = r) := Lib.hid (by rw [← HREST.out]; exact decide_eq_decide.2 ⟨fun h => HS.out.2 ⟨rfl, h⟩, fun h => (HS.out.1 h).2⟩)
            go_wp2
            go_quiet (fail)
            go_wp2
            go_roundw
            case rel => exact ⟨k + 1, by omega, by go_num, HN.out, below_drewN HBEL.out _⟩
            case measure => simp [intOf]; omega
          · obtain rfl : r = false := by rw [← HREST.out]; exact decide_eq_false fun h => e2 (by have := (HS.out.1 h).1; injection this)
            have f2 := eqF e2
            go_wp2
            go_quiet (fail)
            go_wp2
            go_ret
            exact ⟨rfl, below_drewN HBEL.out _⟩
        · obtain rfl : r = false := by rw [← HREST.out]; exact decide_eq_false fun h => e1 (by have := (HS.out.1 h).1; injection this)
          have f2 := eqF e1
          go_wp2
          go_quiet (fail)
          go_wp2
          go_ret
          exact ⟨rfl, below_drewN HBEL.out _⟩
      · obtain rfl : r = false := by rw [← HREST.out]; exact decide_eq_false fun h => e0 (by have := (HS.out.1 h).1; injection this)
        have f2 := eqF e0
        go_wp2
        go_quiet (fail)
        go_wp2
        go_ret
        exact ⟨rfl, below_drewN HBEL.out _⟩
    · obtain rfl : k = n := by omega
      obtain rfl : r = true := by
       rw [← HREST.out]
       refine decide_eq_true ?_
       rw [List.drop_eq_nil_of_le (by rw [HLX.out]; omega), List.drop_eq_nil_of_le (by rw [HLY.out]; omega)]
      go_wp2
      go_ret
      exact ⟨rfl, HBEL.out⟩
 · obtain rfl : r = false := by rw [← HRES.out]; exact decide_eq_false fun h => hnm (by rw [← HLX.out, ← HLY.out, h])
   have f1 : ((n : Int) != (m : Int)) = true := by simpa using (show ¬ (n : Int) = (m : Int) by omega)
   have f2 : ¬ (n : Int) = (m : Int) := by omega
   go_enter Tryz.func83, Tryz.ntmps83
   go_wp2
   go_ret
   exact ⟨rfl, Below.refl _ _⟩
theorem free_any (a : Ac) (w : World) : Calls Tryz.prog 67 #[.agg #[.int .i64 a.cur, .int .i64 a.bal, .int .i64 a.held]] w fun e w' => e = .returned (.int .i64 (wrap64 (a.bal - a.held))) ∧ Below w.heap.size w w' := by
 go_enter Tryz.func67, Tryz.ntmps67
 go_wp2
 go_ret
 exact ⟨rfl, (Below.refl _ _).alloc (Nat.le_refl _) _⟩
theorem add_ok (a b : Int) (w : World) (h1 : -1125899906842624 ≤ a) (h2 : a ≤ 1125899906842624) (h3 : -1125899906842624 ≤ b) (h4 : b ≤ 1125899906842624) (h5 : -1125899906842624 ≤ a + b) (h6 : a + b ≤ 1125899906842624) :
  Calls Tryz.prog 179 #[.int .i64 a, .int .i64 b] w fun e w' => e = .returned (.tuple #[.int .i64 (a + b), .nilIface]) ∧ w' = w := by
 go_enter Tryz.func179, Tryz.ntmps179
 go_wp2
 go_ret2
 exact ⟨rfl, rfl⟩
theorem add_no (a b : Int) (w : World) (h : ¬ (-1125899906842624 ≤ a ∧ a ≤ 1125899906842624 ∧ -1125899906842624 ≤ b ∧ b ≤ 1125899906842624 ∧ -1125899906842624 ≤ a + b ∧ a + b ≤ 1125899906842624)) :
  Calls Tryz.prog 179 #[.int .i64 a, .int .i64 b] w fun e w' => e = .returned (.tuple #[.int .i64 0, eno 4]) ∧ w' = w := by
 by_cases h1 : -1125899906842624 ≤ a
 · by_cases h2 : a ≤ 1125899906842624
   · by_cases h3 : -1125899906842624 ≤ b
     · by_cases h4 : b ≤ 1125899906842624
       · by_cases h5 : -1125899906842624 ≤ a + b
         · have h6 : ¬ a + b ≤ 1125899906842624 := fun h6 => h ⟨h1, h2, h3, h4, h5, h6⟩
           clear h
           go_enter Tryz.func179, Tryz.ntmps179
           go_wp2
           go_ret2
           exact ⟨rfl, rfl⟩
         · clear h
           go_enter Tryz.func179, Tryz.ntmps179
           go_wp2
           go_ret2
           exact ⟨rfl, rfl⟩
       · clear h
         go_enter Tryz.func179, Tryz.ntmps179
         go_wp2
         go_ret2
         exact ⟨rfl, rfl⟩
     · clear h
       go_enter Tryz.func179, Tryz.ntmps179
       go_wp2
       go_ret2
       exact ⟨rfl, rfl⟩
   · clear h
     go_enter Tryz.func179, Tryz.ntmps179
     go_wp2
     go_ret2
     exact ⟨rfl, rfl⟩
 · clear h
   go_enter Tryz.func179, Tryz.ntmps179
   go_wp2
   go_ret2
   exact ⟨rfl, rfl⟩
theorem conv_ok (n p q : Int) (w : World) (h1 : 1 ≤ n) (h2 : n ≤ 1099511627776) (h3 : 1 ≤ p) (h4 : p ≤ 1024) (h5 : 1 ≤ q) (h6 : q ≤ 1024) (h7 : 0 ≤ n * p) (h8 : n * p ≤ 1125899906842624) (h9 : n * p / q ≤ 1099511627776) :
  Calls Tryz.prog 176 #[.int .i64 n, .agg #[.int .i64 p, .int .i64 q]] w fun e w' => e = .returned (.tuple #[.int .i64 (n * p / q), .int .i64 (n * p % q), .nilIface]) ∧ Below w.heap.size w w' := by
 go_enter Tryz.func176, Tryz.ntmps176
 go_wp2
 go_quiet (fail)
 go_wp2
 go_ret3
 exact ⟨rfl, below_drewN ((Below.refl _ _).alloc (Nat.le_refl _) _) _⟩
theorem conv_over (n p q : Int) (w : World) (h1 : 1 ≤ n) (h2 : n ≤ 1099511627776) (h3 : 1 ≤ p) (h4 : p ≤ 1024) (h5 : 1 ≤ q) (h6 : q ≤ 1024) (h7 : 0 ≤ n * p) (h8 : n * p ≤ 1125899906842624) (h9 : 1099511627776 < n * p / q) :
  Calls Tryz.prog 176 #[.int .i64 n, .agg #[.int .i64 p, .int .i64 q]] w fun e w' => e = .returned (.tuple #[.int .i64 0, .int .i64 0, eno 4]) ∧ Below w.heap.size w w' := by
 go_enter Tryz.func176, Tryz.ntmps176
 go_wp2
 go_ret3
 exact ⟨rfl, (Below.refl _ _).alloc (Nat.le_refl _) _⟩
theorem mul_bounds (n p : Int) (h1 : 1 ≤ n) (h2 : n ≤ 1099511627776) (h3 : 1 ≤ p) (h4 : p ≤ 1024) : 0 ≤ n * p ∧ n * p ≤ 1125899906842624 := by
 constructor
 · exact Int.mul_nonneg (by omega) (by omega)
 · have h := Int.mul_le_mul h2 h4 (show (0 : Int) ≤ p by omega) (show (0 : Int) ≤ 1099511627776 by omega)
   omega
theorem div_facts (m q : Int) (h0 : 0 ≤ m) (h5 : 1 ≤ q) : 0 ≤ m % q ∧ m % q < q ∧ m / q * q + m % q = m ∧ 0 ≤ m / q * q ∧ m / q * q ≤ m ∧ 0 ≤ m / q := by
 have a := Int.emod_nonneg m (show q ≠ 0 by omega)
 have b := Int.emod_lt_of_pos m (show 0 < q by omega)
 have c := Int.ediv_mul_add_emod m q
 have d : 0 ≤ m / q := Int.ediv_nonneg h0 (by omega)
 have e : 0 ≤ m / q * q := Int.mul_nonneg d (by omega)
 omega
theorem may_any (n : Int) (w : World) : Calls Tryz.prog 185 #[.int .i64 n] w fun e w' => e = .returned (.bool (decide (-1125899906842624 ≤ n ∧ n ≤ 1125899906842624))) ∧ w = w' := by
 by_cases h1 : -1125899906842624 ≤ n
 · by_cases h2 : n ≤ 1125899906842624
   · have e : decide (-1125899906842624 ≤ n ∧ n ≤ 1125899906842624) = true := decide_eq_true ⟨h1, h2⟩
     rw [e]
     clear e
     go_enter Tryz.func185, Tryz.ntmps185
     go_wp2
     go_ret
     exact ⟨rfl, rfl⟩
   · have e : decide (-1125899906842624 ≤ n ∧ n ≤ 1125899906842624) = false := decide_eq_false fun h => h2 h.2
     rw [e]
     clear e
     go_enter Tryz.func185, Tryz.ntmps185
     go_wp2
     go_ret
     exact ⟨rfl, rfl⟩
 · have e : decide (-1125899906842624 ≤ n ∧ n ≤ 1125899906842624) = false := decide_eq_false fun h => h1 h.1
   rw [e]
   clear e
   go_enter Tryz.func185, Tryz.ntmps185
   go_wp2
   go_ret
   exact ⟨rfl, rfl⟩
theorem amount_any (n : Int) (w : World) : Calls Tryz.prog 98 #[.int .i64 n] w fun e w' => e = .returned (.bool (decide (1 ≤ n ∧ n ≤ 1099511627776))) ∧ w = w' := by
 by_cases h1 : 1 ≤ n
 · by_cases h2 : n ≤ 1099511627776
   · have e : decide (1 ≤ n ∧ n ≤ 1099511627776) = true := decide_eq_true ⟨h1, h2⟩
     rw [e]
     clear e
     go_enter Tryz.func98, Tryz.ntmps98
     go_wp2
     go_ret
     exact ⟨rfl, rfl⟩
   · have e : decide (1 ≤ n ∧ n ≤ 1099511627776) = false := decide_eq_false fun h => h2 h.2
     rw [e]
     clear e
     go_enter Tryz.func98, Tryz.ntmps98
     go_wp2
     go_ret
     exact ⟨rfl, rfl⟩
 · have e : decide (1 ≤ n ∧ n ≤ 1099511627776) = false := decide_eq_false fun h => h1 h.1
   rw [e]
   clear e
   go_enter Tryz.func98, Tryz.ntmps98
   go_wp2
   go_ret
   exact ⟨rfl, rfl⟩
end Go.Proofs.YteifgmdaggiaaaaGreatDoor
namespace Go.Proofs.YteifgmdaggiaaaaGreatDoor
open Go.RowKit
/-- The rates, as they lie in memory, and as the call hands them back. -/
def ratesC : Array Value := #[.int .i64 1, .int .i64 1, .int .i64 9, .int .i64 10, .int .i64 150, .int .i64 1, .int .i64 11, .int .i64 10, .int .i64 1, .int .i64 1, .int .i64 160, .int .i64 1, .int .i64 1, .int .i64 151, .int .i64 1, .int .i64 161, .int .i64 1, .int .i64 1]
theorem info40 : (Tryz.prog.info? 261).map (·.size) = some ratesC.size := by kernel_rfl
theorem rates_ret (w : World) : Calls Tryz.prog 177 #[] w fun e w' => e = .returned (.agg ratesC) ∧ w' = w.alloc (.cells ratesC 261) := by
 go_enter Tryz.func177, Tryz.ntmps177
 go_wp2_with (with_reducible refine wpList_store_new rfl 261 (.tmp 0) (.tmp 13) rfl _ ratesC 261 rfl rfl info40 rfl rfl ?_)
 refine bodyPost_ret (v := .agg ratesC) ?_ rfl ⟨rfl, rfl⟩
 exact results_cell_row rfl _ _ w.heap.size 261 ratesC (0, 0) _ rfl (heap_alloc_new w _) Tryz.underlying261 rfl info40
end Go.Proofs.YteifgmdaggiaaaaGreatDoor
namespace Go.Proofs.YteifgmdaggiaaaaGreatDoor
open Go Go.RowKit
set_option linter.unusedVariables false
theorem exists_any (A : Option Addr) (n cap : Nat) (k : Int) (w : World) :
  Calls Tryz.prog 162 #[.slice A n cap, .int .i64 k] w fun e w' => e = .returned (.bool (decide (0 ≤ k ∧ k < (n : Int)))) ∧ w = w' := by
 by_cases h : 0 ≤ k ∧ k < (n : Int)
 · rw [decide_eq_true h]
   by_cases h9 : k < 9
   · have H := Lib.hid (fun W => of_house A n cap k W h.1 h9 h.2)
     clear h
     go_enter Tryz.func162, Tryz.ntmps162
     go_wp2_with (first | (go_at_call 126; refine (H.out _).mono ?_; rintro e w1 ⟨rfl, rfl⟩))
     go_ret
     exact ⟨rfl, rfl⟩
   · have H := Lib.hid (fun W => of_client A n cap k W (by omega) h.2)
     clear h
     go_enter Tryz.func162, Tryz.ntmps162
     go_wp2_with (first | (go_at_call 126; refine (H.out _).mono ?_; rintro e w1 ⟨rfl, rfl⟩))
     go_ret
     exact ⟨rfl, rfl⟩
 · rw [decide_eq_false h]
   have H := Lib.hid (fun W => of_none A n cap k W h)
   clear h
   go_enter Tryz.func162, Tryz.ntmps162
   go_wp2_with (first | (go_at_call 126; refine (H.out _).mono ?_; rintro e w1 ⟨rfl, rfl⟩))
   go_ret
   exact ⟨rfl, rfl⟩
theorem exists_yes (A : Option Addr) (n cap : Nat) (k : Int) (w : World) (h : 0 ≤ k ∧ k < (n : Int)) :
  Calls Tryz.prog 162 #[.slice A n cap, .int .i64 k] w fun e w' => e = .returned (.bool true) ∧ w = w' := by
 have := exists_any A n cap k w
 rw [decide_eq_true h] at this
 exact this
theorem exists_no (A : Option Addr) (n cap : Nat) (k : Int) (w : World) (h : ¬ (0 ≤ k ∧ k < (n : Int))) :
  Calls Tryz.prog 162 #[.slice A n cap, .int .i64 k] w fun e w' => e = .returned (.bool false) ∧ w = w' := by
 have := exists_any A n cap k w
 rw [decide_eq_false h] at this
 exact this
theorem exch_any (a : Int) (w : World) (h : 0 ≤ a ∧ a < 3) :
  Calls Tryz.prog 155 #[.int .i64 1, .int .i64 a] w fun e w' => e = .returned (.int .i64 (exch a)) ∧ w = w' := by
 have := number_some 1 a w (by omega) (by omega) h.1 h.2
 rw [show a * 3 + 1 = exch a by unfold exch; omega] at this
 exact this
theorem entCur_any (c : Int) (w : World) : Calls Tryz.prog 175 #[.int .i64 c] w fun e w' => e = .returned (.bool (decide (0 ≤ c ∧ c < 3))) ∧ w = w' := by
 by_cases h1 : 0 ≤ c
 · by_cases h2 : c < 3
   · have e : decide (0 ≤ c ∧ c < 3) = true := decide_eq_true ⟨h1, h2⟩
     rw [e]
     clear e
     go_enter Tryz.func175, Tryz.ntmps175
     go_wp2
     go_ret
     exact ⟨rfl, rfl⟩
   · have e : decide (0 ≤ c ∧ c < 3) = false := decide_eq_false fun h => h2 h.2
     rw [e]
     clear e
     go_enter Tryz.func175, Tryz.ntmps175
     go_wp2
     go_ret
     exact ⟨rfl, rfl⟩
 · have e : decide (0 ≤ c ∧ c < 3) = false := decide_eq_false fun h => h1 h.1
   rw [e]
   clear e
   go_enter Tryz.func175, Tryz.ntmps175
   go_wp2
   go_ret
   exact ⟨rfl, rfl⟩
theorem entCur_yes (c : Int) (w : World) (h : 0 ≤ c ∧ c < 3) : Calls Tryz.prog 175 #[.int .i64 c] w fun e w' => e = .returned (.bool true) ∧ w = w' := by
 have := entCur_any c w
 rw [decide_eq_true h] at this
 exact this
/-- A row of the rates. -/
def rateRow (a : Int) : Array Value := if a = 0 then #[.int .i64 1, .int .i64 1, .int .i64 9, .int .i64 10, .int .i64 150, .int .i64 1] else if a = 1 then #[.int .i64 11, .int .i64 10, .int .i64 1, .int .i64 1, .int .i64 160, .int .i64 1] else #[.int .i64 1, .int .i64 151, .int .i64 1, .int .i64 161, .int .i64 1, .int .i64 1]
theorem ixs0 (w : World) : (Instr.index 261 (.agg ratesC) (.int .i64 0)).run Tryz.prog w = .ok (.agg #[.int .i64 1, .int .i64 1, .int .i64 9, .int .i64 10, .int .i64 150, .int .i64 1]) w := by kernel_rfl
theorem ixs1 (w : World) : (Instr.index 261 (.agg ratesC) (.int .i64 1)).run Tryz.prog w = .ok (.agg #[.int .i64 11, .int .i64 10, .int .i64 1, .int .i64 1, .int .i64 160, .int .i64 1]) w := by kernel_rfl
theorem ixs2 (w : World) : (Instr.index 261 (.agg ratesC) (.int .i64 2)).run Tryz.prog w = .ok (.agg #[.int .i64 1, .int .i64 151, .int .i64 1, .int .i64 161, .int .i64 1, .int .i64 1]) w := by kernel_rfl
theorem ixs00 (w : World) : (Instr.index 260 (.agg #[.int .i64 1, .int .i64 1, .int .i64 9, .int .i64 10, .int .i64 150, .int .i64 1]) (.int .i64 0)).run Tryz.prog w = .ok (.agg #[.int .i64 1, .int .i64 1]) w := by kernel_rfl
theorem ixs01 (w : World) : (Instr.index 260 (.agg #[.int .i64 1, .int .i64 1, .int .i64 9, .int .i64 10, .int .i64 150, .int .i64 1]) (.int .i64 1)).run Tryz.prog w = .ok (.agg #[.int .i64 9, .int .i64 10]) w := by kernel_rfl
theorem ixs02 (w : World) : (Instr.index 260 (.agg #[.int .i64 1, .int .i64 1, .int .i64 9, .int .i64 10, .int .i64 150, .int .i64 1]) (.int .i64 2)).run Tryz.prog w = .ok (.agg #[.int .i64 150, .int .i64 1]) w := by kernel_rfl
theorem ixs10 (w : World) : (Instr.index 260 (.agg #[.int .i64 11, .int .i64 10, .int .i64 1, .int .i64 1, .int .i64 160, .int .i64 1]) (.int .i64 0)).run Tryz.prog w = .ok (.agg #[.int .i64 11, .int .i64 10]) w := by kernel_rfl
theorem ixs11 (w : World) : (Instr.index 260 (.agg #[.int .i64 11, .int .i64 10, .int .i64 1, .int .i64 1, .int .i64 160, .int .i64 1]) (.int .i64 1)).run Tryz.prog w = .ok (.agg #[.int .i64 1, .int .i64 1]) w := by kernel_rfl
theorem ixs12 (w : World) : (Instr.index 260 (.agg #[.int .i64 11, .int .i64 10, .int .i64 1, .int .i64 1, .int .i64 160, .int .i64 1]) (.int .i64 2)).run Tryz.prog w = .ok (.agg #[.int .i64 160, .int .i64 1]) w := by kernel_rfl
theorem ixs20 (w : World) : (Instr.index 260 (.agg #[.int .i64 1, .int .i64 151, .int .i64 1, .int .i64 161, .int .i64 1, .int .i64 1]) (.int .i64 0)).run Tryz.prog w = .ok (.agg #[.int .i64 1, .int .i64 151]) w := by kernel_rfl
theorem ixs21 (w : World) : (Instr.index 260 (.agg #[.int .i64 1, .int .i64 151, .int .i64 1, .int .i64 161, .int .i64 1, .int .i64 1]) (.int .i64 1)).run Tryz.prog w = .ok (.agg #[.int .i64 1, .int .i64 161]) w := by kernel_rfl
theorem ixs22 (w : World) : (Instr.index 260 (.agg #[.int .i64 1, .int .i64 151, .int .i64 1, .int .i64 161, .int .i64 1, .int .i64 1]) (.int .i64 2)).run Tryz.prog w = .ok (.agg #[.int .i64 1, .int .i64 1]) w := by kernel_rfl
theorem row_ix {a : Int} (ha : 0 ≤ a ∧ a < 3) (W : World) : (Instr.index 261 (.agg ratesC) (.int .i64 a)).run Tryz.prog W = .ok (.agg (rateRow a)) W := by
 have h1 : a = 0 ∨ a = 1 ∨ a = 2 := by omega
 rcases h1 with rfl | rfl | rfl
 · exact ixs0 W
 · exact ixs1 W
 · exact ixs2 W
theorem rate_ix {a b : Int} (ha : 0 ≤ a ∧ a < 3) (hb : 0 ≤ b ∧ b < 3) (W : World) : (Instr.index 260 (.agg (rateRow a)) (.int .i64 b)).run Tryz.prog W = .ok (.agg #[.int .i64 (rateN a b), .int .i64 (rateD a b)]) W := by
 have h1 : a = 0 ∨ a = 1 ∨ a = 2 := by omega
 have h2 : b = 0 ∨ b = 1 ∨ b = 2 := by omega
 rcases h1 with rfl | rfl | rfl <;> rcases h2 with rfl | rfl | rfl
 · exact ixs00 W
 · exact ixs01 W
 · exact ixs02 W
 · exact ixs10 W
 · exact ixs11 W
 · exact ixs12 W
 · exact ixs20 W
 · exact ixs21 W
 · exact ixs22 W
set_option maxHeartbeats 4000000 in
theorem convert_any (a b n : Int) (w : World) (ha : 0 ≤ a ∧ a < 3) (hb : 0 ≤ b ∧ b < 3) (n1 : 1 ≤ n) (n2 : n ≤ 1099511627776) :
  Calls Tryz.prog 163 #[.int .i64 a, .int .i64 b, .int .i64 n] w fun e w' => e = .returned (.tuple #[.int .i64 (if convE a b n = 0 then conv a b n else 0), errV (convE a b n)]) ∧ Below w.heap.size w w' := by
 have hix1 := row_ix ha
 have hix2 := rate_ix ha hb
 obtain ⟨p1, p2, q1, q2⟩ := rate_ok ha hb
 obtain ⟨a0, a1⟩ := ha
 obtain ⟨b0, b1⟩ := hb
 have hcv : conv a b n = n * rateN a b / rateD a b := rfl
 have hce : convE a b n = if 1099511627776 < conv a b n then 4 else if conv a b n = 0 then 1 else 0 := rfl
 obtain ⟨p, hp⟩ : ∃ p, rateN a b = p := ⟨_, rfl⟩
 obtain ⟨q, hq⟩ : ∃ q, rateD a b = q := ⟨_, rfl⟩
 obtain ⟨c, hc⟩ : ∃ c, conv a b n = c := ⟨_, rfl⟩
 obtain ⟨x, hx⟩ : ∃ x, convE a b n = x := ⟨_, rfl⟩
 obtain ⟨R, hR⟩ : ∃ R, rateRow a = R := ⟨_, rfl⟩
 rw [hx, hc] at hce
 rw [hc, hp, hq] at hcv
 rw [hp, hq, hR] at hix2
 rw [hR] at hix1
 rw [hp] at p1 p2
 rw [hq] at q1 q2
 rw [hx, hc]
 obtain ⟨m1, m2⟩ := mul_bounds n p n1 n2 p1 p2
 have hc0 : 0 ≤ c := by rw [hcv]; exact (div_facts (n * p) q m1 q1).2.2.2.2.2
 clear hp hq hc hx hR
 by_cases h1 : 1099511627776 < c
 · rw [if_pos h1] at hce
   subst hce
   have HC := Lib.hid (fun W => conv_over n p q W n1 n2 p1 p2 q1 q2 m1 m2 (by rw [← hcv]; exact h1))
   clear hcv m1 m2 h1
   go_enter Tryz.func163, Tryz.ntmps163
   go_wp2_with (first
     | (go_at_call 175; refine (entCur_yes _ _ (by omega)).mono ?_; rintro e w1 ⟨rfl, rfl⟩)
     | (go_at_call 177; refine (rates_ret _).mono ?_; rintro e w1 ⟨rfl, rfl⟩)
     | (go_at_call 176; refine (HC.out _).mono ?_; rintro e w2 ⟨rfl, hb2⟩))
   go_ret2
   exact ⟨rfl, ((Below.refl _ _).alloc (Nat.le_refl _) _).trans (hb2.mono (by simp))⟩
 · rw [if_neg h1] at hce
   have HC := Lib.hid (fun W => conv_ok n p q W n1 n2 p1 p2 q1 q2 m1 m2 (by rw [← hcv]; omega))
   rw [← hcv] at HC
   obtain ⟨d, hd⟩ : ∃ d, n * p % q = d := ⟨_, rfl⟩
   rw [hd] at HC
   clear hcv m1 m2 hd
   by_cases h0 : c = 0
   · rw [if_pos h0] at hce
     subst hce
     subst h0
     go_enter Tryz.func163, Tryz.ntmps163
     go_wp2_with (first
       | (go_at_call 175; refine (entCur_yes _ _ (by omega)).mono ?_; rintro e w1 ⟨rfl, rfl⟩)
       | (go_at_call 177; refine (rates_ret _).mono ?_; rintro e w1 ⟨rfl, rfl⟩)
       | (go_at_call 176; refine (HC.out _).mono ?_; rintro e w2 ⟨rfl, hb2⟩))
     go_ret2
     exact ⟨rfl, ((Below.refl _ _).alloc (Nat.le_refl _) _).trans (hb2.mono (by simp))⟩
   · rw [if_neg h0] at hce
     subst hce
     have f0 : (c == 0) = false := by simp [h0]
     go_enter Tryz.func163, Tryz.ntmps163
     go_wp2_with (first
       | (go_at_call 175; refine (entCur_yes _ _ (by omega)).mono ?_; rintro e w1 ⟨rfl, rfl⟩)
       | (go_at_call 177; refine (rates_ret _).mono ?_; rintro e w1 ⟨rfl, rfl⟩)
       | (go_at_call 176; refine (HC.out _).mono ?_; rintro e w2 ⟨rfl, hb2⟩))
     go_ret2
     exact ⟨rfl, ((Below.refl _ _).alloc (Nat.le_refl _) _).trans (hb2.mono (by simp))⟩
/-- All accounts have one of the three currencies. -/
def Curs (zs : List Ac) : Prop := ∀ (j : Nat) (a : Ac), zs[j]? = some a → 0 ≤ a.cur ∧ a.cur < 3
/-- What Move hands back. -/
def MoveRes (zs : List Ac) (f t x : Int) (w : World) (e : Ending) (w' : World) : Prop :=
 ∃ v, e = .returned (.tuple #[v, errV (moveE zs f t x)]) ∧ OwnE w' w.heap.size v (moveL zs f t x) ∧ Below w.heap.size w w'
theorem moveRes_no {zs : List Ac} {f t x E : Int} {w w' : World} (hE : moveE zs f t x = E) (h0 : E ≠ 0) (hb : Below w.heap.size w w') : MoveRes zs f t x w (.returned (.tuple #[.slice none 0 0, eno E])) w' := by
 refine ⟨.slice none 0 0, ?_, ?_, hb⟩
 · rw [hE, errV, if_neg h0]
 · rw [moveL, hE, if_neg h0]; exact OwnE.nil
theorem moveRes_ok {zs : List Ac} {f t x : Int} {w w' : World} {v : Value} {l : List En} (hE : moveE zs f t x = 0) (hl : moveOk (curOf zs f) (curOf zs t) f t x = l) (ho : OwnE w' w.heap.size v l) (hb : Below w.heap.size w w') :
  MoveRes zs f t x w (.returned (.tuple #[v, .nilIface])) w' := by
 refine ⟨v, ?_, ?_, hb⟩
 · rw [hE, errV, if_pos rfl]
 · rw [moveL, hE, if_pos rfl, hl]; exact ho
set_option maxRecDepth 100000 in
set_option maxHeartbeats 4000000 in
theorem move_any (A : Option Addr) (n cap : Nat) (zs : List Ac) (f t x : Int) (w : World) (hl : zs.length = n) (hr : RdA w A zs) (hcu : Curs zs) (hn : n ≤ 9223372036854775807) :
  Calls Tryz.prog 141 #[.slice A n cap, .int .i64 f, .int .i64 t, .int .i64 x] w (MoveRes zs f t x w) := by
 have EM := Lib.hid (fun W => amount_any x W)
 have HR := Lib.hid hr
 have HCU := Lib.hid hcu
 have HL := Lib.hid hl
 clear hr hcu hl
 by_cases hf : 0 ≤ f ∧ f < (n : Int)
 · by_cases ht : 0 ≤ t ∧ t < (n : Int)
   · by_cases hft : f = t
     · have hE : moveE zs f t x = 1 := by unfold moveE; rw [if_neg (by rw [HL.out]; omega), if_pos (.inl hft)]
       have HE := Lib.hid hE
       subst hft
       clear hE
       go_enter Tryz.func141, Tryz.ntmps141
       go_wp2_with (first | (go_at_call 162; first | (refine (exists_yes _ _ _ _ _ (by omega)).mono ?_; rintro e w1 ⟨rfl, rfl⟩) | (refine (exists_no _ _ _ _ _ (by omega)).mono ?_; rintro e w1 ⟨rfl, rfl⟩)))
       go_ret2
       exact moveRes_no HE.out (by omega) (Below.refl _ _)
     · have f1 := eqF hft
       by_cases hx : 1 ≤ x ∧ x ≤ 1099511627776
       · rw [decide_eq_true hx] at EM
         obtain ⟨p, rfl⟩ : ∃ p : Nat, f = (p : Int) := ⟨f.toNat, by omega⟩
         obtain ⟨q, rfl⟩ : ∃ q : Nat, t = (q : Int) := ⟨t.toNat, by omega⟩
         obtain ⟨a, ha⟩ : ∃ a, zs[p]? = some a := ⟨_, List.getElem?_eq_getElem (by rw [HL.out]; omega)⟩
         obtain ⟨b, hb⟩ : ∃ b, zs[q]? = some b := ⟨_, List.getElem?_eq_getElem (by rw [HL.out]; omega)⟩
         obtain ⟨ad, rfl, hat⟩ := HR.out.at_ ha
         obtain ⟨ad2, hadd, hbt⟩ := HR.out.at_ hb
         injection hadd with hadd
         subst hadd
         have hac := HCU.out _ _ ha
         have hbc := HCU.out _ _ hb
         have c0 := hat.c0
         have d0 := hbt.c0
         have KA := curOf_at ha
         have KB := curOf_at hb
         obtain ⟨ac, ab, al⟩ := a
         obtain ⟨bc, bb, bl⟩ := b
         dsimp only at c0 d0 hac hbc KA KB
         have hE0 : moveE zs (p : Int) (q : Int) x = if ac = bc then 0 else convE ac bc x := by
          unfold moveE; rw [if_neg (by rw [HL.out]; omega), if_neg (by omega), KA, KB]
         have HE0 := Lib.hid hE0
         have HKA := Lib.hid KA
         have HKB := Lib.hid KB
         have HX := Lib.hid hx
         have HAC := Lib.hid hac
         have HBC := Lib.hid hbc
         obtain ⟨hx1, hx2⟩ := hx
         obtain ⟨_, hp⟩ := hf
         obtain ⟨_, hq⟩ := ht
         obtain ⟨ha0, ha3⟩ := hac
         obtain ⟨hb0, hb3⟩ := hbc
         clear hE0 KA KB hat hbt ha hb hft
         by_cases hab : ac = bc
         · subst hab
           have HE : Hid (moveE zs (p : Int) (q : Int) x = 0) := Lib.hid (by rw [HE0.out, if_pos rfl])
           clear HE0
           go_enter Tryz.func141, Tryz.ntmps141
           go_wp2_with (first
             | (go_at_call 162; first | (refine (exists_yes _ _ _ _ _ (by omega)).mono ?_; rintro e w1 ⟨rfl, rfl⟩) | (refine (exists_no _ _ _ _ _ (by omega)).mono ?_; rintro e w1 ⟨rfl, rfl⟩))
             | (go_at_call 98; refine (EM.out _).mono ?_; rintro e w1 ⟨rfl, rfl⟩))
           go_quiet (fail)
           go_wp2
           go_ret2
           refine moveRes_ok (l := [⟨p, -x⟩, ⟨q, x⟩]) HE.out (by rw [HKA.out, HKB.out, moveOk, if_pos rfl]) (own_lit_ent _ [⟨p, -x⟩, ⟨q, x⟩] _ (by simp [maxLen]) (by simp)) ?_
           exact (below_drewN (Below.refl _ _) _).alloc (by simp) _
         · have f2 := eqF hab
           have hE1 : moveE zs (p : Int) (q : Int) x = convE ac bc x := by rw [HE0.out, if_neg hab]
           have HO : Hid (moveOk ac bc (p : Int) (q : Int) x = [⟨p, -x⟩, ⟨exch ac, x⟩, ⟨exch bc, -(conv ac bc x)⟩, ⟨q, conv ac bc x⟩]) := Lib.hid (by rw [moveOk, if_neg hab])
           have hcv0 : convE ac bc x = 0 → 1 ≤ conv ac bc x ∧ conv ac bc x ≤ 1099511627776 := by
            intro h
            unfold convE at h
            obtain ⟨p1, p2, q1, q2⟩ := rate_ok HAC.out HBC.out
            have h0 : 0 ≤ conv ac bc x := (div_facts (x * rateN ac bc) (rateD ac bc) (mul_bounds x _ hx1 hx2 p1 p2).1 q1).2.2.2.2.2
            split at h
            · omega
            · split at h
              · omega
              · omega
           have HCV := Lib.hid (fun W => convert_any ac bc x W HAC.out HBC.out hx1 hx2)
           obtain ⟨E, hEE⟩ : ∃ E, convE ac bc x = E := ⟨_, rfl⟩
           obtain ⟨c, hc⟩ : ∃ c, conv ac bc x = c := ⟨_, rfl⟩
           rw [hEE, hc] at HCV
           rw [hEE, hc] at hcv0
           rw [hEE] at hE1
           rw [hc] at HO
           have HE := Lib.hid hE1
           clear hE1 HE0 hEE hc hab
           by_cases hE0 : E = 0
           · subst hE0
             obtain ⟨v1, v2⟩ := hcv0 rfl
             clear hcv0
             rw [if_pos rfl, errV, if_pos rfl] at HCV
             go_enter Tryz.func141, Tryz.ntmps141
             go_wp2_with (first
               | (go_at_call 162; first | (refine (exists_yes _ _ _ _ _ (by omega)).mono ?_; rintro e w1 ⟨rfl, rfl⟩) | (refine (exists_no _ _ _ _ _ (by omega)).mono ?_; rintro e w1 ⟨rfl, rfl⟩))
               | (go_at_call 98; refine (EM.out _).mono ?_; rintro e w1 ⟨rfl, rfl⟩))
             go_quiet (fail)
             go_wp2_with (first
               | (go_at_call 163; refine (HCV.out _).mono ?_; rintro e w2 ⟨rfl, hb2⟩)
               | (go_at_call 155; refine (exch_any _ _ (by omega)).mono ?_; rintro e w3 ⟨rfl, rfl⟩))
             go_ret2
             have hb3 := below_drewN (Below.refl w.heap.size w) _ |>.trans (hb2.mono (by simp))
             refine moveRes_ok (l := [⟨p, -x⟩, ⟨exch ac, x⟩, ⟨exch bc, -c⟩, ⟨q, c⟩]) HE.out (by rw [HKA.out, HKB.out]; exact HO.out) (own_lit_ent _ [⟨p, -x⟩, ⟨exch ac, x⟩, ⟨exch bc, -c⟩, ⟨q, c⟩] _ (by simp [maxLen]) hb3.size) ?_
             exact hb3.alloc hb3.size _
           · rw [if_neg hE0, errV, if_neg hE0] at HCV
             clear hcv0 HO
             go_enter Tryz.func141, Tryz.ntmps141
             go_wp2_with (first
               | (go_at_call 162; first | (refine (exists_yes _ _ _ _ _ (by omega)).mono ?_; rintro e w1 ⟨rfl, rfl⟩) | (refine (exists_no _ _ _ _ _ (by omega)).mono ?_; rintro e w1 ⟨rfl, rfl⟩))
               | (go_at_call 98; refine (EM.out _).mono ?_; rintro e w1 ⟨rfl, rfl⟩))
             go_quiet (fail)
             go_wp2_with (first
               | (go_at_call 163; refine (HCV.out _).mono ?_; rintro e w2 ⟨rfl, hb2⟩))
             go_ret2
             exact moveRes_no HE.out hE0 (below_drewN (Below.refl w.heap.size w) _ |>.trans (hb2.mono (by simp)))
       · rw [decide_eq_false hx] at EM
         have hE : moveE zs f t x = 1 := by unfold moveE; rw [if_neg (by rw [HL.out]; omega), if_pos (.inr hx)]
         have HE := Lib.hid hE
         clear hE hx
         go_enter Tryz.func141, Tryz.ntmps141
         go_wp2_with (first
           | (go_at_call 162; first | (refine (exists_yes _ _ _ _ _ (by omega)).mono ?_; rintro e w1 ⟨rfl, rfl⟩) | (refine (exists_no _ _ _ _ _ (by omega)).mono ?_; rintro e w1 ⟨rfl, rfl⟩))
           | (go_at_call 98; refine (EM.out _).mono ?_; rintro e w1 ⟨rfl, rfl⟩))
         go_ret2
         exact moveRes_no HE.out (by omega) (Below.refl _ _)
   · have hE : moveE zs f t x = 2 := by unfold moveE; rw [if_pos (.inr (by rw [HL.out]; exact ht))]
     have HE := Lib.hid hE
     clear hE
     go_enter Tryz.func141, Tryz.ntmps141
     go_wp2_with (first
       | (go_at_call 162; first | (refine (exists_yes _ _ _ _ _ (by omega)).mono ?_; rintro e w1 ⟨rfl, rfl⟩) | (refine (exists_no _ _ _ _ _ (by omega)).mono ?_; rintro e w1 ⟨rfl, rfl⟩)))
     go_ret2
     exact moveRes_no HE.out (by omega) (Below.refl _ _)
 · have hE : moveE zs f t x = 2 := by unfold moveE; rw [if_pos (.inl (by rw [HL.out]; exact hf))]
   have HE := Lib.hid hE
   clear hE
   go_enter Tryz.func141, Tryz.ntmps141
   go_wp2_with (first
     | (go_at_call 162; refine (exists_no _ _ _ _ _ (by omega)).mono ?_; rintro e w1 ⟨rfl, rfl⟩))
   go_ret2
   exact moveRes_no HE.out (by omega) (Below.refl _ _)
theorem isClient_any (A : Option Addr) (n cap : Nat) (k : Int) (w : World) : Calls Tryz.prog 97 #[.slice A n cap, .int .i64 k] w fun e w' => e = .returned (.bool (decide (9 ≤ k ∧ k < (n : Int)))) ∧ w = w' := by
 by_cases h : 0 ≤ k ∧ k < (n : Int)
 · by_cases h9 : 9 ≤ k
   · rw [decide_eq_true ⟨h9, h.2⟩]
     exact isClient_client A n cap k w h9 h.2
   · rw [decide_eq_false (by omega)]
     exact isClient_house A n cap k w h.1 (by omega) h.2
 · rw [decide_eq_false (by omega)]
   exact isClient_none A n cap k w h
theorem isClient_is (b : Bool) (A : Option Addr) (n cap : Nat) (k : Int) (w : World) (h : b = decide (9 ≤ k ∧ k < (n : Int))) : Calls Tryz.prog 97 #[.slice A n cap, .int .i64 k] w fun e w' => e = .returned (.bool b) ∧ w = w' := by
 subst h
 exact isClient_any A n cap k w
theorem amount_is (b : Bool) (x : Int) (w : World) (h : b = decide (1 ≤ x ∧ x ≤ 1099511627776)) : Calls Tryz.prog 98 #[.int .i64 x] w fun e w' => e = .returned (.bool b) ∧ w = w' := by
 subst h
 exact amount_any x w
set_option maxRecDepth 100000 in
theorem mayHold_any (A : Option Addr) (n cap : Nat) (k x : Int) (w : World) : Calls Tryz.prog 66 #[.slice A n cap, .int .i64 k, .int .i64 x] w fun e w' => e = .returned (errV (mayE n k x)) ∧ w = w' := by
 have HC := Lib.hid (fun b W h => isClient_is b A n cap k W h)
 have HA := Lib.hid (fun b W h => amount_is b x W h)
 by_cases h : 9 ≤ k ∧ k < (n : Int)
 · have h1 := decide_eq_true h
   by_cases hx : 1 ≤ x ∧ x ≤ 1099511627776
   · have h2 := decide_eq_true hx
     have hE : mayE n k x = 0 := by unfold mayE; rw [if_pos h, if_pos hx]
     rw [hE]
     have HC := Lib.hid (fun W => HC.out true W h1.symm)
     have HA := Lib.hid (fun W => HA.out true W h2.symm)
     clear h hx h1 h2 hE
     go_enter Tryz.func66, Tryz.ntmps66
     go_wp2_with (first
       | (go_at_call 97; refine (HC.out _).mono ?_; rintro e w1 ⟨rfl, rfl⟩)
       | (go_at_call 98; refine (HA.out _).mono ?_; rintro e w1 ⟨rfl, rfl⟩))
     go_ret
     exact ⟨rfl, rfl⟩
   · have h2 := decide_eq_false hx
     have hE : mayE n k x = 1 := by unfold mayE; rw [if_pos h, if_neg hx]
     rw [hE]
     have HC := Lib.hid (fun W => HC.out true W h1.symm)
     have HA := Lib.hid (fun W => HA.out false W h2.symm)
     clear h hx h1 h2 hE
     go_enter Tryz.func66, Tryz.ntmps66
     go_wp2_with (first
       | (go_at_call 97; refine (HC.out _).mono ?_; rintro e w1 ⟨rfl, rfl⟩)
       | (go_at_call 98; refine (HA.out _).mono ?_; rintro e w1 ⟨rfl, rfl⟩))
     go_ret
     exact ⟨rfl, rfl⟩
 · have h1 := decide_eq_false h
   have hE : mayE n k x = 2 := by unfold mayE; rw [if_neg h]
   rw [hE]
   have HC := Lib.hid (fun W => HC.out false W h1.symm)
   clear h h1 hE HA
   go_enter Tryz.func66, Tryz.ntmps66
   go_wp2_with (first
     | (go_at_call 97; refine (HC.out _).mono ?_; rintro e w1 ⟨rfl, rfl⟩))
   go_ret
   exact ⟨rfl, rfl⟩
set_option maxRecDepth 100000 in
set_option maxHeartbeats 4000000 in
theorem short_any (A : Option Addr) (n cap : Nat) (zs : List Ac) (w : World) (hl : zs.length = n) (hr : RdA w A zs) (hn : n ≤ 9223372036854775807) :
  Calls Tryz.prog 180 #[.slice A n cap] w fun e w' => e = .returned (.bool (shortB zs)) ∧ Below w.heap.size w w' := by
 have HR := Lib.hid hr
 have HL := Lib.hid hl
 obtain ⟨r, hres⟩ : ∃ r, shortB zs = r := ⟨_, rfl⟩
 rw [hres]
 have HRES := Lib.hid hres
 clear hr hl hres
 go_enter Tryz.func180, Tryz.ntmps180
 go_wp2
 go_loopw [7] (fun i wr => ∃ k : Nat, k ≤ n ∧ i = .int .i64 (k : Int) ∧ (9 ≤ k → shortGo (zs.drop k) = r) ∧ Below w.heap.size w wr) (fun i _ => n - (intOf i).toNat)
 case atStart => exact ⟨0, Nat.zero_le _, rfl, fun h => by omega, Below.refl _ _⟩
 case round =>
  obtain ⟨k, hk, rfl, hrest, hbel⟩ := hrel
  have HREST := Lib.hid hrest
  have HBEL := Lib.hid hbel
  have hsz := hbel.size
  clear hrest hbel
  by_cases hlt : k < n
  · obtain ⟨a, ha⟩ : ∃ a, zs[k]? = some a := ⟨_, List.getElem?_eq_getElem (by rw [HL.out]; exact hlt)⟩
    obtain ⟨ad, rfl, hat⟩ := (HR.out.below HBEL.out).at_ ha
    have HS := Lib.hid (shortGo_at ha)
    obtain ⟨c0, c1, c2⟩ := hat
    rw [add_next ad (k * 3) 1 (by omega)] at c1
    rw [add_next ad (k * 3) 2 (by omega)] at c2
    have HF := Lib.hid (fun W => free_any a W)
    obtain ⟨f, hf⟩ : ∃ f, wrap64 (a.bal - a.held) = f := ⟨_, rfl⟩
    rw [hf] at HF
    have hsa : shortA a = decide (f < 0) := by rw [← hf]; rfl
    rw [hsa] at HS
    obtain ⟨c, b, l⟩ := a
    dsimp only at c0 c1 c2 HF
    have HST := Lib.hid (fun h9 : k = 9 => (show shortGo (zs.drop k) = shortB zs by subst h9; rfl).trans HRES.out)
    clear ha hf hsa
    by_cases h9 : 9 ≤ k
    · have hcur : shortGo (zs.drop k) = r := HREST.out h9
      rw [HS.out] at hcur
      have HC := Lib.hid (fun W => isClient_is true (some ad) n cap (k : Int) W (decide_eq_true (by omega)).symm)
      by_cases hf : f < 0
      · rw [decide_eq_true hf] at hcur
        obtain rfl : r = true := by rw [← hcur]; rfl
        clear hcur
        go_wp2_with (first
          | (go_at_call 97; refine (HC.out _).mono ?_; rintro e w1 ⟨rfl, rfl⟩)
          | (go_at_call 67; refine (HF.out _).mono ?_; rintro e w1 ⟨rfl, hb1⟩))
        go_ret
        exact ⟨rfl, (HBEL.out.alloc hsz _).trans (hb1.mono (by simp; omega))⟩
      · rw [decide_eq_false hf, Bool.false_or] at hcur
        have HCUR := Lib.hid hcur
        clear hcur
        go_wp2_with (first
          | (go_at_call 97; refine (HC.out _).mono ?_; rintro e w1 ⟨rfl, rfl⟩)
          | (go_at_call 67; refine (HF.out _).mono ?_; rintro e w1 ⟨rfl, hb1⟩))
        go_roundw
        case rel => exact ⟨k + 1, by omega, by go_num, fun _ => HCUR.out, (HBEL.out.alloc hsz _).trans (hb1.mono (by simp; omega))⟩
        case measure => simp [intOf]; omega
    · have HC := Lib.hid (fun W => isClient_is false (some ad) n cap (k : Int) W (decide_eq_false (by omega)).symm)
      go_wp2_with (first
        | (go_at_call 97; refine (HC.out _).mono ?_; rintro e w1 ⟨rfl, rfl⟩))
      go_roundw
      case rel =>
       refine ⟨k + 1, by omega, by go_num, fun h => ?_, HBEL.out.alloc hsz _⟩
       rw [show k + 1 = 9 by omega]
       exact HRES.out
      case measure => simp [intOf]; omega
  · obtain rfl : k = n := by omega
    obtain rfl : r = false := by
     by_cases h9 : 9 ≤ k
     · rw [← HREST.out h9, shortGo_end (by rw [HL.out]; exact Nat.le_refl _)]
     · rw [← HRES.out]
       unfold shortB
       exact shortGo_end (by rw [HL.out]; omega)
    go_wp2
    go_ret
    exact ⟨rfl, HBEL.out⟩
theorem OwnA.nil {w : World} {base : Nat} : OwnA w base (.slice none 0 0) [] := World.ownsRow_nil w base _ 3
theorem OwnA.form {w : World} {base : Nat} {v : Value} {zs : List Ac} (h : OwnA w base v zs) : ∃ A cap, v = .slice A zs.length cap ∧ RdA w A zs ∧ zs.length ≤ cap ∧ cap ≤ maxLen ∧ (A = none → zs.length = 0 ∧ cap = 0) := by
 have h0 := h
 rcases h.2 with ⟨hv, h0⟩ | ⟨g, cap, cur, hv, hb, hg, hnc, hcm, _⟩
 · have hl : zs.length = 0 := h0
   refine ⟨none, 0, by rw [hv, hl], fun hn => by omega, by omega, Nat.zero_le _, fun _ => ⟨hl, rfl⟩⟩
 · rw [hv] at h0
   exact ⟨some ⟨g, 0, none⟩, cap, hv, h0.rd, hnc, hcm, fun h => by cases h⟩
/-- What a function of ledger hands back: accounts, and an error by its number. -/
def LedRes (E : Int) (L : List Ac) (w : World) (e : Ending) (w' : World) : Prop :=
 ∃ v, e = .returned (.tuple #[v, errV E]) ∧ OwnA w' w.heap.size v L ∧ Below w.heap.size w w'
theorem ledRes_no {E F : Int} {L : List Ac} {w w' : World} (hE : E = F) (h0 : F ≠ 0) (hL : L = []) (hb : Below w.heap.size w w') : LedRes E L w (.returned (.tuple #[.slice none 0 0, eno F])) w' := by
 subst hL hE
 refine ⟨.slice none 0 0, ?_, OwnA.nil, hb⟩
 rw [errV, if_neg h0]
theorem ledRes_ok {E : Int} {L : List Ac} {w w' : World} {v : Value} (hE : E = 0) (ho : OwnA w' w.heap.size v L) (hb : Below w.heap.size w w') : LedRes E L w (.returned (.tuple #[v, .nilIface])) w' := by
 subst hE
 exact ⟨v, rfl, ho, hb⟩
set_option maxRecDepth 100000 in
set_option maxHeartbeats 4000000 in
theorem hold_any (A : Option Addr) (n cap : Nat) (zs : List Ac) (k x : Int) (w : World) (hl : zs.length = n) (hr : RdA w A zs) (hn : n ≤ 5864062014805) (hnil : A = none → n = 0 ∧ cap = 0) :
  Calls Tryz.prog 34 #[.slice A n cap, .int .i64 k, .int .i64 x] w (LedRes (holdE zs k x) (holdL zs k x) w) := by
 have HM := Lib.hid (fun W => mayHold_any A n cap k x W)
 have HL := Lib.hid hl
 have hEd : holdE zs k x = if mayE n k x = 0 then (if wrap64 ((acOf zs k).bal - (acOf zs k).held) < x then 3 else 0) else mayE n k x := by unfold holdE; rw [hl]
 have HED := Lib.hid hEd
 by_cases hm : mayE n k x = 0
 · rw [hm, show errV 0 = .nilIface from rfl] at HM
   have hk : 9 ≤ k ∧ k < (n : Int) := by
    unfold mayE at hm
    split at hm
    · assumption
    · omega
   obtain ⟨q, rfl⟩ : ∃ q : Nat, k = (q : Int) := ⟨k.toNat, by omega⟩
   obtain ⟨k9, kn⟩ := hk
   obtain ⟨a, ha⟩ : ∃ a, zs[q]? = some a := ⟨_, List.getElem?_eq_getElem (by omega)⟩
   obtain ⟨ad, rfl, hat⟩ := hr.at_ ha
   obtain ⟨c0, c1, c2⟩ := hat
   rw [add_next ad (q * 3) 1 (by omega)] at c1
   rw [add_next ad (q * 3) 2 (by omega)] at c2
   have HF := Lib.hid (fun W => free_any a W)
   have hao := acOf_at ha
   rw [hao] at HED
   have HAO := Lib.hid hao
   have HCL := Lib.hid (fun W (hb : Below w.heap.size w W) => clone_acc (some ad) n cap zs W hl (hr.below hb) hn hnil)
   have HA := Lib.hid ha
   obtain ⟨f, hf⟩ : ∃ f, wrap64 (a.bal - a.held) = f := ⟨_, rfl⟩
   rw [hf, if_pos hm] at HED
   rw [hf] at HF
   have hqn : q < n := by omega
   have hset := fun (W : World) (g : Nat) (h : OwnA W w.heap.size (.slice (some ⟨g, 0, none⟩) n n) zs) => h.at_ ha
   have hst := fun (W : World) (g : Nat) (h : OwnA W w.heap.size (.slice (some ⟨g, 0, none⟩) n n) zs) (y : Int) => (h.set hl.symm ha y).2.2
   have HSET := Lib.hid hset
   have HST := Lib.hid hst
   have hHL : holdE zs (q : Int) x = 0 → holdL zs (q : Int) x = zs.set q ⟨a.cur, a.bal, wrap64 (a.held + x)⟩ := fun h => by unfold holdL heldAs; rw [if_pos h, hao, Int.toNat_natCast]
   have HHL := Lib.hid hHL
   have hHN : holdE zs (q : Int) x ≠ 0 → holdL zs (q : Int) x = [] := fun h => by unfold holdL; rw [if_neg h]
   have HHN := Lib.hid hHN
   obtain ⟨c, b, l⟩ := a
   dsimp only at c0 c1 c2 HF HSET HST HHL
   clear ha hao hr hl hm hnil hset hst hHL hHN hEd
   by_cases hx : f < x
   · rw [if_pos hx] at HED
     go_enter Tryz.func34, Tryz.ntmps34
     go_wp2_with (first
       | (go_at_call 66; refine (HM.out _).mono ?_; rintro e w1 ⟨rfl, rfl⟩)
       | (go_at_call 67; refine (HF.out _).mono ?_; rintro e w1 ⟨rfl, hb1⟩))
     go_ret2
     exact ledRes_no HED.out (by omega) (HHN.out (by rw [HED.out]; omega)) hb1
   · rw [if_neg hx] at HED
     obtain ⟨y, hy⟩ : ∃ y, wrap64 (l + x) = y := ⟨_, rfl⟩
     go_enter Tryz.func34, Tryz.ntmps34
     go_wp2_with (first
       | (go_at_call 66; refine (HM.out _).mono ?_; rintro e w1 ⟨rfl, rfl⟩)
       | (go_at_call 67; refine (HF.out _).mono ?_; rintro e w1 ⟨rfl, hb1⟩))
     have HB1 := Lib.hid hb1
     clear hb1
     refine (HCL.out _ HB1.out).mono ?_
     rintro e w2 ⟨rfl, ho, hb2⟩
     obtain ⟨g, hg⟩ : ∃ g, w1.heap.size = g := ⟨_, rfl⟩
     have hgw : w.heap.size ≤ g := by rw [← hg]; exact HB1.out.size
     rw [hg] at ho ⊢
     have ho2 : OwnA w2 w.heap.size (.slice (some ⟨g, 0, none⟩) n n) zs := ho.less hgw
     obtain ⟨d0, d1, d2⟩ := HSET.out _ _ ho2
     have hf2 := ho2.unfrozen HL.out.symm (q * 3 + 2)
     have HO := Lib.hid (HST.out _ _ ho2 y)
     have HB2 := Lib.hid (HB1.out.trans (hb2.mono HB1.out.size))
     clear ho ho2 hb2 hg c0 c1 c2
     go_wp2
     go_ret2
     refine ledRes_ok HED.out ?_ (HB2.out.setCell (by simpa using hgw) _)
     rw [HHL.out HED.out, hy]
     exact HO.out
 · have HHN : Hid (holdL zs k x = []) := Lib.hid (by unfold holdL; rw [hEd, if_neg hm, if_neg hm])
   rw [if_neg hm] at HED
   obtain ⟨E, hE⟩ : ∃ E, mayE n k x = E := ⟨_, rfl⟩
   rw [hE] at HM HED hm
   rw [errV, if_neg hm] at HM
   have hen : Hid (E ≠ 0) := Lib.hid hm
   clear hr hl hnil hEd hE hm
   go_enter Tryz.func34, Tryz.ntmps34
   go_wp2_with (first
     | (go_at_call 66; refine (HM.out _).mono ?_; rintro e w1 ⟨rfl, rfl⟩))
   go_ret2
   exact ledRes_no HED.out hen.out HHN.out (Below.refl _ _)
set_option maxRecDepth 100000 in
set_option maxHeartbeats 4000000 in
theorem release_any (A : Option Addr) (n cap : Nat) (zs : List Ac) (k x : Int) (w : World) (hl : zs.length = n) (hr : RdA w A zs) (hn : n ≤ 5864062014805) (hnil : A = none → n = 0 ∧ cap = 0) :
  Calls Tryz.prog 164 #[.slice A n cap, .int .i64 k, .int .i64 x] w (LedRes (relE zs k x) (relL zs k x) w) := by
 have HM := Lib.hid (fun W => mayHold_any A n cap k x W)
 have HL := Lib.hid hl
 have hEd : relE zs k x = if mayE n k x = 0 then (if (acOf zs k).held < x then 6 else 0) else mayE n k x := by unfold relE; rw [hl]
 have HED := Lib.hid hEd
 by_cases hm : mayE n k x = 0
 · rw [hm, show errV 0 = .nilIface from rfl] at HM
   have hk : 9 ≤ k ∧ k < (n : Int) := by
    unfold mayE at hm
    split at hm
    · assumption
    · omega
   obtain ⟨q, rfl⟩ : ∃ q : Nat, k = (q : Int) := ⟨k.toNat, by omega⟩
   obtain ⟨k9, kn⟩ := hk
   obtain ⟨a, ha⟩ : ∃ a, zs[q]? = some a := ⟨_, List.getElem?_eq_getElem (by omega)⟩
   obtain ⟨ad, rfl, hat⟩ := hr.at_ ha
   obtain ⟨c0, c1, c2⟩ := hat
   rw [add_next ad (q * 3) 1 (by omega)] at c1
   rw [add_next ad (q * 3) 2 (by omega)] at c2
   have hao := acOf_at ha
   rw [hao] at HED
   have HAO := Lib.hid hao
   have HCL := Lib.hid (fun W (hb : Below w.heap.size w W) => clone_acc (some ad) n cap zs W hl (hr.below hb) hn hnil)
   have HA := Lib.hid ha
   rw [if_pos hm] at HED
   have hqn : q < n := by omega
   have hset := fun (W : World) (g : Nat) (h : OwnA W w.heap.size (.slice (some ⟨g, 0, none⟩) n n) zs) => h.at_ ha
   have hst := fun (W : World) (g : Nat) (h : OwnA W w.heap.size (.slice (some ⟨g, 0, none⟩) n n) zs) (y : Int) => (h.set hl.symm ha y).2.2
   have HSET := Lib.hid hset
   have HST := Lib.hid hst
   have hHL : relE zs (q : Int) x = 0 → relL zs (q : Int) x = zs.set q ⟨a.cur, a.bal, wrap64 (a.held - x)⟩ := fun h => by unfold relL heldAs; rw [if_pos h, hao, Int.toNat_natCast]
   have HHL := Lib.hid hHL
   have hHN : relE zs (q : Int) x ≠ 0 → relL zs (q : Int) x = [] := fun h => by unfold relL; rw [if_neg h]
   have HHN := Lib.hid hHN
   obtain ⟨c, b, l⟩ := a
   dsimp only at c0 c1 c2 HED HSET HST HHL
   clear ha hao hr hl hm hnil hset hst hHL hHN hEd
   by_cases hx : l < x
   · rw [if_pos hx] at HED
     go_enter Tryz.func164, Tryz.ntmps164
     go_wp2_with (first
       | (go_at_call 66; refine (HM.out _).mono ?_; rintro e w1 ⟨rfl, rfl⟩))
     go_ret2
     exact ledRes_no HED.out (by omega) (HHN.out (by rw [HED.out]; omega)) (Below.refl _ _)
   · rw [if_neg hx] at HED
     obtain ⟨y, hy⟩ : ∃ y, wrap64 (l - x) = y := ⟨_, rfl⟩
     go_enter Tryz.func164, Tryz.ntmps164
     go_wp2_with (first
       | (go_at_call 66; refine (HM.out _).mono ?_; rintro e w1 ⟨rfl, rfl⟩))
     have HB1 := Lib.hid (Below.refl w.heap.size w)
     go_wp2_with fail
     refine (HCL.out _ HB1.out).mono ?_
     rintro e w2 ⟨rfl, ho, hb2⟩
     obtain ⟨g, hg⟩ : ∃ g, w.heap.size = g := ⟨_, rfl⟩
     have hgw : w.heap.size ≤ g := by rw [← hg]; exact HB1.out.size
     rw [hg] at ho ⊢
     have ho2 : OwnA w2 w.heap.size (.slice (some ⟨g, 0, none⟩) n n) zs := ho.less hgw
     obtain ⟨d0, d1, d2⟩ := HSET.out _ _ ho2
     have hf2 := ho2.unfrozen HL.out.symm (q * 3 + 2)
     have HO := Lib.hid (HST.out _ _ ho2 y)
     have HB2 := Lib.hid (HB1.out.trans (hb2.mono HB1.out.size))
     clear ho ho2 hb2 hg c0 c1 c2
     go_wp2
     go_ret2
     refine ledRes_ok HED.out ?_ (HB2.out.setCell (by simpa using hgw) _)
     rw [HHL.out HED.out, hy]
     exact HO.out
 · have HHN : Hid (relL zs k x = []) := Lib.hid (by unfold relL; rw [hEd, if_neg hm, if_neg hm])
   rw [if_neg hm] at HED
   obtain ⟨E, hE⟩ : ∃ E, mayE n k x = E := ⟨_, rfl⟩
   rw [hE] at HM HED hm
   rw [errV, if_neg hm] at HM
   have hen : Hid (E ≠ 0) := Lib.hid hm
   clear hr hl hnil hEd hE hm
   go_enter Tryz.func164, Tryz.ntmps164
   go_wp2_with (first
     | (go_at_call 66; refine (HM.out _).mono ?_; rintro e w1 ⟨rfl, rfl⟩))
   go_ret2
   exact ledRes_no HED.out hen.out HHN.out (Below.refl _ _)
/-- An array of three ints compared with zeros. -/
theorem arr_zero_d (d : Nat) (x y z : Int) (W : World) (e : ∀ a b : Int, (Op.equalIn d 3 (.int .i64 a) (.int .i64 b)).run Tryz.prog W = .ok (a == b) W) :
  (Op.equalIn (d + 1) 61 (.agg #[.int .i64 x, .int .i64 y, .int .i64 z]) (.agg #[.int .i64 0, .int .i64 0, .int .i64 0])).run Tryz.prog W = .ok (decide (x = 0 ∧ y = 0 ∧ z = 0)) W := by
 have hs : (sizeOf 3).run Tryz.prog W = .ok 1 W := by kernel_rfl
 have p0 : (part 3 #[.int .i64 x, .int .i64 y, .int .i64 z] 0).run Tryz.prog W = .ok (.int .i64 x) W := by kernel_rfl
 have p1 : (part 3 #[.int .i64 x, .int .i64 y, .int .i64 z] 1).run Tryz.prog W = .ok (.int .i64 y) W := by kernel_rfl
 have p2 : (part 3 #[.int .i64 x, .int .i64 y, .int .i64 z] 2).run Tryz.prog W = .ok (.int .i64 z) W := by kernel_rfl
 have q0 : (part 3 #[.int .i64 0, .int .i64 0, .int .i64 0] 0).run Tryz.prog W = .ok (.int .i64 0) W := by kernel_rfl
 have q1 : (part 3 #[.int .i64 0, .int .i64 0, .int .i64 0] 1).run Tryz.prog W = .ok (.int .i64 0) W := by kernel_rfl
 have q2 : (part 3 #[.int .i64 0, .int .i64 0, .int .i64 0] 2).run Tryz.prog W = .ok (.int .i64 0) W := by kernel_rfl
 simp only [Op.equalIn, Sem.run_bind, run_underlying Tryz.underlying61, Result.andThen_ok, hs]
 by_cases h0 : x = 0
 · subst h0
   by_cases h1 : y = 0
   · subst h1
     by_cases h2 : z = 0
     · subst h2
       simp [Std.Legacy.Range.forIn_eq_forIn_range', Std.Legacy.Range.size, List.range', p0, p1, p2, e]
     · simp [Std.Legacy.Range.forIn_eq_forIn_range', Std.Legacy.Range.size, List.range', p0, p1, p2, q0, q1, q2, e, h2]
   · simp [Std.Legacy.Range.forIn_eq_forIn_range', Std.Legacy.Range.size, List.range', p0, p1, q0, q1, e, h1]
 · simp [Std.Legacy.Range.forIn_eq_forIn_range', Std.Legacy.Range.size, List.range', p0, q0, e, h0]
theorem arr_cmp (x y z : Int) (W : World) : (Op.equalIn 10000 61 (.agg #[.int .i64 x, .int .i64 y, .int .i64 z]) (.agg #[.int .i64 0, .int .i64 0, .int .i64 0])).run Tryz.prog W = .ok (decide (x = 0 ∧ y = 0 ∧ z = 0)) W :=
 arr_zero_d 9999 x y z W fun a b => run_equalIn_int (P := Tryz.prog) W 9998 3 .i64 .i64 a b Tryz.underlying3
theorem may_yes (n : Int) (w : World) (h : -1125899906842624 ≤ n ∧ n ≤ 1125899906842624) : Calls Tryz.prog 185 #[.int .i64 n] w fun e w' => e = .returned (.bool true) ∧ w = w' := by
 have := may_any n w
 rw [decide_eq_true h] at this
 exact this
theorem may_no (n : Int) (w : World) (h : ¬ (-1125899906842624 ≤ n ∧ n ≤ 1125899906842624)) : Calls Tryz.prog 185 #[.int .i64 n] w fun e w' => e = .returned (.bool false) ∧ w = w' := by
 have := may_any n w
 rw [decide_eq_false h] at this
 exact this
theorem entCur_no (c : Int) (w : World) (h : ¬ (0 ≤ c ∧ c < 3)) : Calls Tryz.prog 175 #[.int .i64 c] w fun e w' => e = .returned (.bool false) ∧ w = w' := by
 have := entCur_any c w
 rw [decide_eq_false h] at this
 exact this
theorem add_okS (a b : Int) (w : World) (h1 : -1125899906842624 ≤ a) (h2 : a ≤ 1125899906842624) (h3 : -1125899906842624 ≤ b) (h4 : b ≤ 1125899906842624) (h5 : -1125899906842624 ≤ a + b) (h6 : a + b ≤ 1125899906842624) :
  Calls Tryz.prog 179 #[.int .i64 a, .int .i64 b] w fun e w' => e = .returned (.tuple #[.int .i64 (a + b), .nilIface]) ∧ w = w' :=
 (add_ok a b w h1 h2 h3 h4 h5 h6).mono fun _ _ ⟨h, k⟩ => ⟨h, k.symm⟩
theorem add_noS (a b : Int) (w : World) (h : ¬ (-1125899906842624 ≤ a ∧ a ≤ 1125899906842624 ∧ -1125899906842624 ≤ b ∧ b ≤ 1125899906842624 ∧ -1125899906842624 ≤ a + b ∧ a + b ≤ 1125899906842624)) :
  Calls Tryz.prog 179 #[.int .i64 a, .int .i64 b] w fun e w' => e = .returned (.tuple #[.int .i64 0, eno 4]) ∧ w = w' :=
 (add_no a b w h).mono fun _ _ ⟨h, k⟩ => ⟨h, k.symm⟩
set_option maxRecDepth 100000 in
set_option maxHeartbeats 8000000 in
theorem balanced_any (A B : Option Addr) (n m cap capb : Nat) (zs : List Ac) (es : List En) (w : World) (hl : zs.length = n) (hr : RdA w A zs) (hle : es.length = m) (hre : RdE w B es) (hn : n ≤ 9223372036854775807) (hm : m ≤ 9223372036854775807) :
  Calls Tryz.prog 178 #[.slice A n cap, .slice B m capb] w fun e w' => e = .returned (.bool (balB zs es)) ∧ Below w.heap.size w w' := by
 have HR := Lib.hid hr
 have HL := Lib.hid hl
 have HRE := Lib.hid hre
 have HLE := Lib.hid hle
 obtain ⟨r, hres⟩ : ∃ r, balB zs es = r := ⟨_, rfl⟩
 rw [hres]
 have HRES : Hid (balGo zs ⟨0, 0, 0⟩ (es.drop 0) = r) := Lib.hid (by rw [List.drop_zero]; exact hres)
 clear hr hl hre hle hres
 have HEQ := Lib.hid arr_cmp
 go_enter Tryz.func178, Tryz.ntmps178
 go_wp2
 have h1 := heap_alloc_new w (.cells #[.int .i64 0, .int .i64 0, .int .i64 0] 61)
 have H1 := Lib.hid h1
 have HB := Lib.hid ((Below.refl w.heap.size w).alloc (Nat.le_refl _) (.cells #[.int .i64 0, .int .i64 0, .int .i64 0] 61))
 clear h1
 go_loopw [13] (fun i wr => ∃ (k : Nat) (s : S3), k ≤ m ∧ i = .int .i64 (k : Int) ∧ wr.heap[w.heap.size]? = some (.cells #[.int .i64 s.a, .int .i64 s.b, .int .i64 s.c] 61 (0, 0)) ∧
   isMay s.a ∧ isMay s.b ∧ isMay s.c ∧ balGo zs s (es.drop k) = r ∧ Below w.heap.size w wr) (fun i _ => m - (intOf i).toNat)
 case atStart => exact ⟨0, ⟨0, 0, 0⟩, Nat.zero_le _, rfl, H1.out, by dsimp only [isMay]; omega, by dsimp only [isMay]; omega, by dsimp only [isMay]; omega, HRES.out, HB.out⟩
 case round =>
  obtain ⟨k, ⟨sa, sb, sc⟩, hk, rfl, h1, ma, mb, mc, hrest, hbel⟩ := hrel
  dsimp only at h1 ma mb mc
  unfold isMay at ma mb mc
  obtain ⟨ma1, ma2⟩ := ma
  obtain ⟨mb1, mb2⟩ := mb
  obtain ⟨mc1, mc2⟩ := mc
  have H1 := Lib.hid h1
  have HREST := Lib.hid hrest
  have HBEL := Lib.hid hbel
  have hsz := hbel.size
  have hlt1 : w.heap.size < wr.heap.size := (Array.getElem?_eq_some_iff.1 h1).1
  have hne1 : ¬ w.heap.size = wr.heap.size := by omega
  clear h1 hrest hbel
  have hcc : ∀ j (u : Value), (#[.int .i64 sa, .int .i64 sb, .int .i64 sc] : Array Value)[j]? = some u → wr.cell? ⟨w.heap.size, j, none⟩ = some u := fun j u hu => by
   rw [cell_of_row wr w.heap.size j _ _ (0, 0) H1.out]; exact hu
  have hff : ∀ j, wr.frozen? ⟨w.heap.size, j, none⟩ = false := fun j => frozen_of_row wr w.heap.size j _ _ H1.out
  by_cases hlt : k < m
  · obtain ⟨⟨P, x⟩, he⟩ : ∃ e, es[k]? = some e := ⟨_, List.getElem?_eq_getElem (by rw [HLE.out]; exact hlt)⟩
    obtain ⟨ae, rfl, hae⟩ := (HRE.out.below HBEL.out).at_ he
    obtain ⟨e0, e1⟩ := hae
    rw [add_next ae (k * 2) 1 (by omega)] at e1
    dsimp only at e0 e1
    have HYES := Lib.hid (fun (hg : goes zs ⟨sa, sb, sc⟩ ⟨P, x⟩) => balGo_yes he hg)
    have HNO1 := Lib.hid (fun (hg : ¬ goes zs ⟨sa, sb, sc⟩ ⟨P, x⟩) => balGo_no he hg)
    clear he
    by_cases hP : 0 ≤ P ∧ P < (n : Int)
    rotate_left
    · obtain rfl : r = false := by
       rw [← HREST.out]
       refine HNO1.out fun h => ?_
       have := h.1
       dsimp only at this
       rw [curOf_out (by rw [HL.out]; exact hP)] at this
       omega
      clear hcc hff
      go_wp2_with (first | (go_at_call 162; refine (exists_no _ _ _ _ _ (by omega)).mono ?_; rintro e w1 ⟨rfl, rfl⟩))
      go_ret
      exact ⟨rfl, HBEL.out.alloc hsz _⟩
    obtain ⟨p, rfl⟩ : ∃ p : Nat, P = (p : Int) := ⟨P.toNat, by omega⟩
    obtain ⟨_, hp⟩ := hP
    obtain ⟨⟨c, ab, al⟩, ha⟩ : ∃ a, zs[p]? = some a := ⟨_, List.getElem?_eq_getElem (by rw [HL.out]; omega)⟩
    obtain ⟨ad, rfl, hat⟩ := (HR.out.below HBEL.out).at_ ha
    have c0 := hat.c0
    have HCO := Lib.hid (curOf_at ha)
    dsimp only at c0 HCO
    have hab1 := World.block_lt_of_cell? _ _ c0
    have hab2 : ad.block < wr.heap.size := by rw [add_block] at hab1; exact hab1
    clear hat ha
    by_cases hx : -1125899906842624 ≤ x ∧ x ≤ 1125899906842624
    rotate_left
    · obtain rfl : r = false := by
       rw [← HREST.out]
       refine HNO1.out fun h => hx h.2.1
      clear hcc hff
      go_wp2_with (first
        | (go_at_call 162; refine (exists_yes _ _ _ _ _ (by omega)).mono ?_; rintro e w1 ⟨rfl, rfl⟩)
        | (go_at_call 185; refine (may_no _ _ (by omega)).mono ?_; rintro e w1 ⟨rfl, rfl⟩))
      go_ret
      exact ⟨rfl, HBEL.out.alloc hsz _⟩
    obtain ⟨hx1, hx2⟩ := hx
    by_cases hin : 0 ≤ c ∧ c < 3
    rotate_left
    · obtain rfl : r = false := by
       rw [← HREST.out]
       refine HNO1.out fun h => hin ?_
       have := h.1
       dsimp only at this
       rw [HCO.out] at this
       exact this
      clear hcc hff
      go_wp2_with (first
        | (go_at_call 162; refine (exists_yes _ _ _ _ _ (by omega)).mono ?_; rintro e w1 ⟨rfl, rfl⟩)
        | (go_at_call 185; refine (may_yes _ _ (by omega)).mono ?_; rintro e w1 ⟨rfl, rfl⟩)
        | (go_at_call 175; refine (entCur_no _ _ (by omega)).mono ?_; rintro e w1 ⟨rfl, rfl⟩))
      go_ret
      exact ⟨rfl, HBEL.out.alloc hsz _⟩
    have h3 : c = 0 ∨ c = 1 ∨ c = 2 := by omega
    clear hin
    rcases h3 with rfl | rfl | rfl
    · by_cases hmay : -1125899906842624 ≤ x ∧ x ≤ 1125899906842624 ∧ isMay (sa + x)
      · obtain ⟨a1, a2, a3⟩ := hmay
        have HGY := Lib.hid (HYES.out ⟨⟨by simp only [HCO.out]; omega, by simp only [HCO.out]; omega⟩, ⟨a1, a2⟩, by simp only [HCO.out]; exact a3⟩)
        have hgo : gone zs ⟨sa, sb, sc⟩ ⟨(p : Int), x⟩ = ⟨sa + x, sb, sc⟩ := by simp [gone, HCO.out, S3.get, S3.put]
        rw [hgo] at HGY
        have HADD := Lib.hid (fun W => add_okS sa x W (by omega) (by omega) a1 a2 a3.1 a3.2)
        have d0 := hcc 0 _ rfl
        have f0 := hff 0
        obtain ⟨a31, a32⟩ := a3
        clear hcc hff hgo
        go_wp2_with (first
          | (go_at_call 162; refine (exists_yes _ _ _ _ _ (by omega)).mono ?_; rintro e w1 ⟨rfl, rfl⟩)
          | (go_at_call 185; refine (may_yes _ _ (by omega)).mono ?_; rintro e w1 ⟨rfl, rfl⟩)
          | (go_at_call 175; refine (entCur_yes _ _ (by omega)).mono ?_; rintro e w1 ⟨rfl, rfl⟩))
        go_quiet (first | (go_at_call 179; exact quiet_same (HADD.out _)))
        go_wp2
        go_roundw
        case rel =>
         refine ⟨k + 1, ⟨sa + x, sb, sc⟩, by omega, by go_num, ?_, by dsimp only [isMay]; omega, by dsimp only [isMay]; omega, by dsimp only [isMay]; omega, (HGY.out.symm.trans HREST.out), ?_⟩
         · exact heap_setCell_same _ w.heap.size 0 _ _ _ ((Below.heap_alloc _ _ _ (by omega)).trans H1.out)
         · exact ((below_drewN (HBEL.out.alloc hsz _) _).setCell (by simp) _)
        case measure => simp [intOf]; omega
      · have HNO := Lib.hid (HNO1.out (fun h => hmay (by have h2 := h.2; simp only [HCO.out] at h2; exact ⟨h2.1.1, h2.1.2, by simpa [S3.get] using h2.2⟩)))
        obtain rfl : r = false := by rw [← HREST.out]; exact HNO.out
        have HADD := Lib.hid (fun W => add_noS sa x W (fun h => hmay ⟨h.2.2.1, h.2.2.2.1, h.2.2.2.2⟩))
        have d0 := hcc 0 _ rfl
        clear hcc hff
        go_wp2_with (first
          | (go_at_call 162; refine (exists_yes _ _ _ _ _ (by omega)).mono ?_; rintro e w1 ⟨rfl, rfl⟩)
          | (go_at_call 185; refine (may_yes _ _ (by omega)).mono ?_; rintro e w1 ⟨rfl, rfl⟩)
          | (go_at_call 175; refine (entCur_yes _ _ (by omega)).mono ?_; rintro e w1 ⟨rfl, rfl⟩))
        go_quiet (first | (go_at_call 179; exact quiet_same (HADD.out _)))
        go_wp2
        go_ret
        exact ⟨rfl, below_drewN (HBEL.out.alloc hsz _) _⟩
    · by_cases hmay : -1125899906842624 ≤ x ∧ x ≤ 1125899906842624 ∧ isMay (sb + x)
      · obtain ⟨a1, a2, a3⟩ := hmay
        have HGY := Lib.hid (HYES.out ⟨⟨by simp only [HCO.out]; omega, by simp only [HCO.out]; omega⟩, ⟨a1, a2⟩, by simp only [HCO.out]; exact a3⟩)
        have hgo : gone zs ⟨sa, sb, sc⟩ ⟨(p : Int), x⟩ = ⟨sa, sb + x, sc⟩ := by simp [gone, HCO.out, S3.get, S3.put]
        rw [hgo] at HGY
        have HADD := Lib.hid (fun W => add_okS sb x W (by omega) (by omega) a1 a2 a3.1 a3.2)
        have d0 := hcc 1 _ rfl
        have f0 := hff 1
        obtain ⟨a31, a32⟩ := a3
        clear hcc hff hgo
        go_wp2_with (first
          | (go_at_call 162; refine (exists_yes _ _ _ _ _ (by omega)).mono ?_; rintro e w1 ⟨rfl, rfl⟩)
          | (go_at_call 185; refine (may_yes _ _ (by omega)).mono ?_; rintro e w1 ⟨rfl, rfl⟩)
          | (go_at_call 175; refine (entCur_yes _ _ (by omega)).mono ?_; rintro e w1 ⟨rfl, rfl⟩))
        go_quiet (first | (go_at_call 179; exact quiet_same (HADD.out _)))
        go_wp2
        go_roundw
        case rel =>
         refine ⟨k + 1, ⟨sa, sb + x, sc⟩, by omega, by go_num, ?_, by dsimp only [isMay]; omega, by dsimp only [isMay]; omega, by dsimp only [isMay]; omega, (HGY.out.symm.trans HREST.out), ?_⟩
         · exact heap_setCell_same _ w.heap.size 1 _ _ _ ((Below.heap_alloc _ _ _ (by omega)).trans H1.out)
         · exact ((below_drewN (HBEL.out.alloc hsz _) _).setCell (by simp) _)
        case measure => simp [intOf]; omega
      · have HNO := Lib.hid (HNO1.out (fun h => hmay (by have h2 := h.2; simp only [HCO.out] at h2; exact ⟨h2.1.1, h2.1.2, by simpa [S3.get] using h2.2⟩)))
        obtain rfl : r = false := by rw [← HREST.out]; exact HNO.out
        have HADD := Lib.hid (fun W => add_noS sb x W (fun h => hmay ⟨h.2.2.1, h.2.2.2.1, h.2.2.2.2⟩))
        have d0 := hcc 1 _ rfl
        clear hcc hff
        go_wp2_with (first
          | (go_at_call 162; refine (exists_yes _ _ _ _ _ (by omega)).mono ?_; rintro e w1 ⟨rfl, rfl⟩)
          | (go_at_call 185; refine (may_yes _ _ (by omega)).mono ?_; rintro e w1 ⟨rfl, rfl⟩)
          | (go_at_call 175; refine (entCur_yes _ _ (by omega)).mono ?_; rintro e w1 ⟨rfl, rfl⟩))
        go_quiet (first | (go_at_call 179; exact quiet_same (HADD.out _)))
        go_wp2
        go_ret
        exact ⟨rfl, below_drewN (HBEL.out.alloc hsz _) _⟩
    · by_cases hmay : -1125899906842624 ≤ x ∧ x ≤ 1125899906842624 ∧ isMay (sc + x)
      · obtain ⟨a1, a2, a3⟩ := hmay
        have HGY := Lib.hid (HYES.out ⟨⟨by simp only [HCO.out]; omega, by simp only [HCO.out]; omega⟩, ⟨a1, a2⟩, by simp only [HCO.out]; exact a3⟩)
        have hgo : gone zs ⟨sa, sb, sc⟩ ⟨(p : Int), x⟩ = ⟨sa, sb, sc + x⟩ := by simp [gone, HCO.out, S3.get, S3.put]
        rw [hgo] at HGY
        have HADD := Lib.hid (fun W => add_okS sc x W (by omega) (by omega) a1 a2 a3.1 a3.2)
        have d0 := hcc 2 _ rfl
        have f0 := hff 2
        obtain ⟨a31, a32⟩ := a3
        clear hcc hff hgo
        go_wp2_with (first
          | (go_at_call 162; refine (exists_yes _ _ _ _ _ (by omega)).mono ?_; rintro e w1 ⟨rfl, rfl⟩)
          | (go_at_call 185; refine (may_yes _ _ (by omega)).mono ?_; rintro e w1 ⟨rfl, rfl⟩)
          | (go_at_call 175; refine (entCur_yes _ _ (by omega)).mono ?_; rintro e w1 ⟨rfl, rfl⟩))
        go_quiet (first | (go_at_call 179; exact quiet_same (HADD.out _)))
        go_wp2
        go_roundw
        case rel =>
         refine ⟨k + 1, ⟨sa, sb, sc + x⟩, by omega, by go_num, ?_, by dsimp only [isMay]; omega, by dsimp only [isMay]; omega, by dsimp only [isMay]; omega, (HGY.out.symm.trans HREST.out), ?_⟩
         · exact heap_setCell_same _ w.heap.size 2 _ _ _ ((Below.heap_alloc _ _ _ (by omega)).trans H1.out)
         · exact ((below_drewN (HBEL.out.alloc hsz _) _).setCell (by simp) _)
        case measure => simp [intOf]; omega
      · have HNO := Lib.hid (HNO1.out (fun h => hmay (by have h2 := h.2; simp only [HCO.out] at h2; exact ⟨h2.1.1, h2.1.2, by simpa [S3.get] using h2.2⟩)))
        obtain rfl : r = false := by rw [← HREST.out]; exact HNO.out
        have HADD := Lib.hid (fun W => add_noS sc x W (fun h => hmay ⟨h.2.2.1, h.2.2.2.1, h.2.2.2.2⟩))
        have d0 := hcc 2 _ rfl
        clear hcc hff
        go_wp2_with (first
          | (go_at_call 162; refine (exists_yes _ _ _ _ _ (by omega)).mono ?_; rintro e w1 ⟨rfl, rfl⟩)
          | (go_at_call 185; refine (may_yes _ _ (by omega)).mono ?_; rintro e w1 ⟨rfl, rfl⟩)
          | (go_at_call 175; refine (entCur_yes _ _ (by omega)).mono ?_; rintro e w1 ⟨rfl, rfl⟩))
        go_quiet (first | (go_at_call 179; exact quiet_same (HADD.out _)))
        go_wp2
        go_ret
        exact ⟨rfl, below_drewN (HBEL.out.alloc hsz _) _⟩
  · obtain rfl : k = m := by omega
    have HR2 := HREST.out
    rw [balGo_end (by rw [HLE.out]; omega)] at HR2
    dsimp only at HR2
    have g0 := hcc 0 _ rfl
    have g1 := hcc 1 _ rfl
    have g2 := hcc 2 _ rfl
    have hq := HEQ.out sa sb sc
    rw [HR2] at hq
    clear hcc hff HR2
    go_wp2
    go_ret
    exact ⟨rfl, HBEL.out⟩
theorem led_no1 {zs : List Ac} {es : List En} (h : balB zs es = false) : postE zs es = 13 ∧ postL zs es = [] := by
 simp [postE, postL, h]
theorem led_no2 {zs : List Ac} {es : List En} (h : balB zs es = true) (hg : postGo zs es = none) : postE zs es = 4 ∧ postL zs es = [] := by
 simp [postE, postL, h, hg, postE1, postL1]
theorem led_no3 {zs ys : List Ac} {es : List En} (h : balB zs es = true) (hg : postGo zs es = some ys) (hs : shortB ys = true) : postE zs es = 3 ∧ postL zs es = [] := by
 simp [postE, postL, h, hg, postE1, postL1, hs]
set_option maxRecDepth 100000 in
set_option maxHeartbeats 8000000 in
theorem post_any (A B : Option Addr) (n m cap capb : Nat) (zs : List Ac) (es : List En) (w : World) (hl : zs.length = n) (hr : RdA w A zs) (hle : es.length = m) (hre : RdE w B es) (hn : n ≤ 5864062014805) (hm : m ≤ 9223372036854775807) (hnil : A = none → n = 0 ∧ cap = 0) :
  Calls Tryz.prog 165 #[.slice A n cap, .slice B m capb] w (LedRes (postE zs es) (postL zs es) w) := by
 have HR := Lib.hid hr
 have HL := Lib.hid hl
 have HRE := Lib.hid hre
 have HLE := Lib.hid hle
 have HNIL := Lib.hid hnil
 have HBAL := Lib.hid (balanced_any A B n m cap capb zs es w hl hr hle hre (by omega) hm)
 clear hr hl hre hle hnil
 cases hb : balB zs es with
 | false =>
   rw [hb] at HBAL
   obtain ⟨h1, h2⟩ := led_no1 hb
   have H1 := Lib.hid h1
   have H2 := Lib.hid h2
   clear h1 h2 hb
   go_enter Tryz.func165, Tryz.ntmps165
   go_wp2_with (first
     | (go_at_call 178; refine HBAL.out.mono ?_; rintro e w1 ⟨rfl, hb1⟩))
   go_ret2
   exact ledRes_no H1.out (by omega) H2.out hb1
 | true =>
   rw [hb] at HBAL
   have HB := Lib.hid hb
   obtain ⟨R, hR⟩ : ∃ R, postGo zs es = R := ⟨_, rfl⟩
   have HRES := Lib.hid hR
   clear hb hR
   go_enter Tryz.func165, Tryz.ntmps165
   go_wp2_with (first
     | (go_at_call 178; refine HBAL.out.mono ?_; rintro e w1 ⟨rfl, hb1⟩))
   have HB1 := Lib.hid hb1
   clear hb1 HBAL
   refine (clone_acc A n cap zs w1 HL.out (HR.out.below HB1.out) hn HNIL.out).mono ?_
   rintro e w2 ⟨rfl, ho, hb2⟩
   obtain ⟨g, hg⟩ : ∃ g, w1.heap.size = g := ⟨_, rfl⟩
   have hgw : w.heap.size ≤ g := by rw [← hg]; exact HB1.out.size
   rw [hg] at ho ⊢
   have HO : Hid (OwnA w2 w.heap.size (.slice (some ⟨g, 0, none⟩) n n) zs) := Lib.hid (ho.less hgw)
   have HB2 := Lib.hid (HB1.out.trans (hb2.mono HB1.out.size))
   clear ho hb2 hg
   go_wp2
   go_loopw [20] (fun i wr => ∃ (k : Nat) (ys : List Ac), k ≤ m ∧ i = .int .i64 (k : Int) ∧ OwnA wr w.heap.size (.slice (some ⟨g, 0, none⟩) n n) ys ∧ ys.length = n ∧ postGo ys (es.drop k) = R ∧ Below w.heap.size w wr) (fun i _ => m - (intOf i).toNat)
   case atStart => exact ⟨0, zs, Nat.zero_le _, rfl, HO.out, HL.out, by rw [List.drop_zero]; exact HRES.out, HB2.out⟩
   case round =>
    clear HO HB2
    obtain ⟨k, ys, hk, rfl, hown, hyl, hrest, hbel⟩ := hrel
    have hsz := hbel.size
    by_cases hlt : k < m
    · obtain ⟨⟨P, x⟩, he⟩ : ∃ e, es[k]? = some e := ⟨_, List.getElem?_eq_getElem (by rw [HLE.out]; exact hlt)⟩
      obtain ⟨ae, rfl, hae⟩ := (HRE.out.below hbel).at_ he
      obtain ⟨e0, e1⟩ := hae
      rw [add_next ae (k * 2) 1 (by omega)] at e1
      dsimp only at e0 e1
      obtain ⟨⟨hP0, hP1⟩, _⟩ := bal_in HB.out _ (List.mem_of_getElem? he)
      dsimp only at hP0 hP1
      rw [HL.out] at hP1
      obtain ⟨p, rfl⟩ : ∃ p : Nat, P = (p : Int) := ⟨P.toNat, by omega⟩
      have hpn : p < n := by omega
      obtain ⟨⟨c, b, l⟩, ha⟩ : ∃ a, ys[p]? = some a := ⟨_, List.getElem?_eq_getElem (by omega)⟩
      obtain ⟨_, d1, _⟩ := hown.at_ ha
      have hf := hown.unfrozen hyl.symm (p * 3 + 1)
      have hgs := World.block_lt_of_cell? _ _ d1
      have hgne : ¬ g = wr.heap.size := by dsimp only at hgs; omega
      dsimp only at d1 hgs
      have HREST := Lib.hid hrest
      have HYL := Lib.hid hyl
      by_cases hok : addOk b x
      · have HNX := Lib.hid ((postGo_yes he (putE_yes ha hok)).symm.trans hrest)
        have HADD := Lib.hid (fun W => add_okS b x W hok.1 hok.2.1 hok.2.2.1 hok.2.2.2.1 hok.2.2.2.2.1 hok.2.2.2.2.2)
        have HSET := Lib.hid ((((hown.alloc (.cells #[.int .i64 (p : Int), .int .i64 x] 243)).drewN 0).set hyl.symm ha (b + x)).2.1)
        have HSETF := Lib.hid (fun j => ((((hown.alloc (.cells #[.int .i64 (p : Int), .int .i64 x] 243)).drewN j).set hyl.symm ha (b + x)).2.1))
        have HBEL := Lib.hid hbel
        clear hown hyl hrest hbel he ha hok HSET
        go_wp2
        go_quiet (first | (go_at_call 179; exact quiet_same (HADD.out _)))
        go_wp2
        go_roundw
        case rel => exact ⟨k + 1, _, by omega, by go_num, HSETF.out _, by rw [List.length_set]; exact HYL.out, HNX.out, (below_drewN (HBEL.out.alloc hsz _) _).setCell (by simpa using hgw) _⟩
        case measure => simp [intOf]; omega
      · have hnone : R = none := by rw [← hrest]; exact postGo_no he (putE_no ha hok)
        obtain ⟨h1, h2⟩ := led_no2 HB.out (HRES.out.trans hnone)
        have H1 := Lib.hid h1
        have H2 := Lib.hid h2
        have HADD := Lib.hid (fun W => add_noS b x W hok)
        have HBEL := Lib.hid hbel
        clear hown hyl hrest hbel he ha hok h1 h2 hnone
        go_wp2
        go_quiet (first | (go_at_call 179; exact quiet_same (HADD.out _)))
        go_wp2
        go_ret2
        exact ledRes_no H1.out (by omega) H2.out (below_drewN (HBEL.out.alloc hsz _) _)
    · obtain rfl : k = m := by omega
      rw [postGo_end (by rw [HLE.out]; exact Nat.le_refl _)] at hrest
      have HS := Lib.hid (short_any (some ⟨g, 0, none⟩) n n ys wr hyl hown.rd (by omega))
      have HOWN := Lib.hid hown
      have HG := Lib.hid (HRES.out.trans hrest.symm)
      have HBEL := Lib.hid hbel
      clear hown hyl hrest hbel
      cases hs : shortB ys with
      | true =>
        rw [hs] at HS
        obtain ⟨h1, h2⟩ := led_no3 HB.out HG.out hs
        have H1 := Lib.hid h1
        have H2 := Lib.hid h2
        clear h1 h2 hs
        go_wp2_with (first | (go_at_call 180; refine HS.out.mono ?_; rintro e w3 ⟨rfl, hb3⟩))
        go_ret2
        exact ledRes_no H1.out (by omega) H2.out (HBEL.out.trans (hb3.mono HBEL.out.size))
      | false =>
        rw [hs] at HS
        obtain ⟨h1, h2⟩ := postE_of HB.out HG.out hs
        have H1 := Lib.hid h1
        have H2 := Lib.hid h2
        clear h1 h2 hs
        go_wp2_with (first | (go_at_call 180; refine HS.out.mono ?_; rintro e w3 ⟨rfl, hb3⟩))
        go_ret2
        refine ledRes_ok H1.out ?_ (HBEL.out.trans (hb3.mono HBEL.out.size))
        rw [H2.out]
        exact HOWN.out.below hb3
set_option maxRecDepth 100000 in
set_option maxHeartbeats 4000000 in
theorem spend_any (A B : Option Addr) (n m cap capb : Nat) (zs : List Ac) (x : Int) (es : List En) (w : World) (hl : zs.length = n) (hr : RdA w A zs) (hle : es.length = m) (hre : RdE w B es) (hn : n ≤ 5864062014805) (hm : m ≤ 9223372036854775807) (hnil : A = none → n = 0 ∧ cap = 0) :
  Calls Tryz.prog 144 #[.slice A n cap, .int .i64 x, .slice B m capb] w (LedRes (spendE zs x es) (spendL zs x es) w) := by
 cases es with
 | nil =>
   obtain rfl : m = 0 := by simpa using hle.symm
   clear hl hr hle hre hnil
   go_enter Tryz.func144, Tryz.ntmps144
   go_wp2
   go_ret2
   exact ledRes_no rfl (by omega) rfl (Below.refl _ _)
 | cons e0 r =>
   obtain ⟨ae, rfl, hae⟩ := hre.at_ (j := 0) (a := e0) rfl
   obtain ⟨c0, c1⟩ := hae
   rw [Nat.zero_mul, show ae.add 0 = ae by simp [Addr.add]] at c0
   have hm0 : 0 < m := by rw [← hle]; simp
   have hmz : ((m : Int) == 0) = false := by simp; omega
   have HREL := Lib.hid (release_any A n cap zs e0.acct x w hl hr hn hnil)
   have HRE := Lib.hid hre
   have HLE := Lib.hid hle
   have hsE : spendE zs x (e0 :: r) = if relE zs e0.acct x = 0 then postE (relL zs e0.acct x) (e0 :: r) else relE zs e0.acct x := rfl
   have hsL : spendL zs x (e0 :: r) = if relE zs e0.acct x = 0 then postL (relL zs e0.acct x) (e0 :: r) else [] := rfl
   obtain ⟨E, hE⟩ : ∃ E, relE zs e0.acct x = E := ⟨_, rfl⟩
   obtain ⟨ys, hys⟩ : ∃ ys, relL zs e0.acct x = ys := ⟨_, rfl⟩
   have hyl : E = 0 → ys.length = n := fun h => by
    rw [h] at hE
    rw [← hys]
    unfold relL
    rw [if_pos hE, heldAs_len, hl]
   rw [hE, hys] at HREL hsE hsL
   obtain ⟨SE, hSE⟩ : ∃ SE, spendE zs x (e0 :: r) = SE := ⟨_, rfl⟩
   obtain ⟨SL, hSL⟩ : ∃ SL, spendL zs x (e0 :: r) = SL := ⟨_, rfl⟩
   rw [hSE] at hsE ⊢
   rw [hSL] at hsL ⊢
   obtain ⟨es, hes⟩ : ∃ es, (e0 :: r) = es := ⟨_, rfl⟩
   rw [hes] at hsE hsL HRE HLE
   obtain ⟨P, y⟩ := e0
   dsimp only at c0 HREL
   have HYL := Lib.hid hyl
   have HSE := Lib.hid hsE
   have HSL := Lib.hid hsL
   clear hl hr hle hre hnil hsE hsL hE hys hyl hSE hSL hes c1
   go_enter Tryz.func144, Tryz.ntmps144
   go_wp2_with fail
   refine HREL.out.mono ?_
   rintro e w1 ⟨v, rfl, ho, hb1⟩
   have HB1 := Lib.hid hb1
   clear hb1 HREL
   by_cases h0 : E = 0
   · have hyl := HYL.out h0
     rw [if_pos h0] at HSE HSL
     subst h0
     rw [show errV 0 = .nilIface from rfl]
     obtain ⟨A1, cap1, rfl, hr1, hc1, hcm1, hnil1⟩ := ho.form
     rw [hyl] at hc1 hnil1 ⊢
     have HP := Lib.hid (post_any A1 (some ae) n m cap1 capb ys es w1 hyl hr1 HLE.out (HRE.out.below HB1.out) hn hm hnil1)
     clear ho hyl hr1 hc1 hcm1 hnil1
     go_wp2_with fail
     refine HP.out.mono ?_
     rintro e w2 ⟨v2, rfl, ho2, hb2⟩
     have HO2 := Lib.hid ho2
     have HB2 := Lib.hid hb2
     clear ho2 hb2
     go_wp2
     go_ret2
     rw [HSE.out, HSL.out]
     exact ⟨v2, rfl, HO2.out.less HB1.out.size, HB1.out.trans (HB2.out.mono HB1.out.size)⟩
   · rw [if_neg h0] at HSE HSL
     rw [errV, if_neg h0]
     have HEN : Hid (E ≠ 0) := Lib.hid h0
     clear ho h0
     go_wp2
     go_ret2
     exact ledRes_no HSE.out HEN.out HSL.out HB1.out
/-- What is there behind k rounds. -/
def backTo (m k : Nat) (es : List En) : List En := List.replicate (m - k) ⟨0, 0⟩ ++ backE (es.take k)
theorem backTo_len {m k : Nat} {es : List En} (hk : k ≤ m) (hl : es.length = m) : (backTo m k es).length = m := by
 simp [backTo, backE_len, hl]; omega
theorem backTo_next {m k j : Nat} {es : List En} {e : En} (he : es[k]? = some e) (hj : j + k + 1 = m) : (backTo m k es).set j (negE e) = backTo m (k + 1) es := by
 obtain ⟨hk, rfl⟩ := List.getElem?_eq_some_iff.1 he
 unfold backTo
 rw [List.take_succ_eq_append_getElem hk, backE_snoc, show m - k = j + 1 by omega, show m - (k + 1) = j by omega, List.replicate_succ', List.append_assoc]
 rw [List.set_append_right _ _ (by simp)]
 simp
set_option maxRecDepth 100000 in
set_option maxHeartbeats 4000000 in
theorem back_any (B : Option Addr) (m capb : Nat) (es : List En) (w : World) (hle : es.length = m) (hre : RdE w B es) (hm : m ≤ 8796093022207) :
  Calls Tryz.prog 173 #[.slice B m capb] w fun e w' => e = .returned (.slice (some ⟨w.heap.size, 0, none⟩) m m) ∧ OwnE w' w.heap.size (.slice (some ⟨w.heap.size, 0, none⟩) m m) (backE es) ∧ Below w.heap.size w w' := by
 have hmk := run_make_ent m hm
 have HRE := Lib.hid hre
 have HLE := Lib.hid hle
 have HO := Lib.hid (own_made_ent w m w.heap.size (by simp only [maxLen]; omega) (Nat.le_refl _))
 have HB := Lib.hid ((Below.refl w.heap.size w).alloc (Nat.le_refl _) (.cells (madeCells #[.int .i64 0, .int .i64 0] (m * 2)) 243))
 have hz : (w.alloc (.cells (madeCells #[.int .i64 0, .int .i64 0] (m * 2)) 243)).heap.size = w.heap.size + 1 := by simp
 clear hre hle
 go_enter Tryz.func173, Tryz.ntmps173
 go_wp2
 clear hmk
 generalize (w.alloc (.cells (madeCells #[.int .i64 0, .int .i64 0] (m * 2)) 243)) = w0 at *
 go_loopw [4, 11] (fun _ i wr => ∃ k : Nat, k ≤ m ∧ i = .int .i64 (k : Int) ∧ OwnE wr w.heap.size (.slice (some ⟨w.heap.size, 0, none⟩) m m) (backTo m k es) ∧ Below w.heap.size w wr) (fun _ i _ => m - (intOf i).toNat)
 case atStart => exact ⟨0, Nat.zero_le _, rfl, by simpa [backTo, backE] using HO.out, HB.out⟩
 case round =>
  obtain ⟨k, hk, rfl, hown, hbel⟩ := hrel
  by_cases hlt : k < m
  · have hsz := hbel.size
    have hlen := backTo_len hk HLE.out
    obtain ⟨e, he⟩ : ∃ e, es[k]? = some e := ⟨_, List.getElem?_eq_getElem (by rw [HLE.out]; exact hlt)⟩
    obtain ⟨ae, rfl, hae⟩ := (HRE.out.below hbel).at_ he
    obtain ⟨j, hj⟩ : ∃ j : Nat, (m : Int) - 1 - (k : Int) = (j : Int) := ⟨m - 1 - k, by omega⟩
    have hjm : j < m := by omega
    obtain ⟨y, hy⟩ : ∃ y, (backTo m k es)[j]? = some y := ⟨_, List.getElem?_eq_getElem (by omega)⟩
    obtain ⟨c0, c1⟩ := hown.at_ hy
    have f0 := hown.unfrozen hlen.symm (j * 2)
    have f1 := hown.unfrozen hlen.symm (j * 2 + 1)
    have hg : w.heap.size < wr.heap.size := World.block_lt_of_cell? _ _ c0
    have hg2 : ¬ w.heap.size = wr.heap.size := by omega
    obtain ⟨q, hq⟩ : ∃ q, wrap64 (-e.amt) = q := ⟨_, rfl⟩
    have hset := hown.put hlen.symm hjm e.acct q
    rw [show (⟨e.acct, q⟩ : En) = negE e by rw [negE, hq], backTo_next he (by omega)] at hset
    obtain ⟨e0, e1⟩ := hae
    rw [add_next ae (k * 2) 1 (by omega)] at e1
    obtain ⟨P, x⟩ := e
    dsimp only at e0 e1 hq hset
    have HSET := Lib.hid hset
    have HBEL := Lib.hid hbel
    clear hown hbel hset he hy hlen
    go_wp2
    go_roundw
    case rel => exact ⟨k + 1, by omega, by go_num, HSET.out.alloc _, ((HBEL.out.setCell (Nat.le_refl _) _).setCell (Nat.le_refl _) _).alloc (by simp; omega) _⟩
    case measure => simp [intOf]; omega
  · obtain rfl : k = m := by omega
    have HOWN := Lib.hid hown
    have HBEL := Lib.hid hbel
    clear hown hbel
    go_wp2
    go_ret
    refine ⟨rfl, ?_, HBEL.out⟩
    have := HOWN.out
    unfold backTo at this
    rw [Nat.sub_self, List.replicate_zero, List.nil_append, List.take_of_length_le (by rw [HLE.out]; omega)] at this
    exact this
theorem moveL_len (zs : List Ac) (f t x : Int) : (moveL zs f t x).length ≤ 4 := by
 unfold moveL
 split
 · unfold moveOk
   split <;> simp
 · simp
end Go.Proofs.YteifgmdaggiaaaaGreatDoor
