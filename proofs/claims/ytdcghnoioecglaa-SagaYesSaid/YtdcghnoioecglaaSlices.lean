/-
  Slices of integers in memory: one that reads as a list, one that the call owns; what append makes of them, up to the very bound at which Go's own growslice refuses; bytes as a string. Of any program.
-/
import Derived.Below
import Derived.Laws.OwnMore
import Derived.OwnWalk
import Derived.Laws.BytesString
import Derived.Laws.BytesArg
import Derived.Deep.Draws
namespace Go.Proofs.Ytdcghnoioecglaa
open Go Go.RowKit

/-- The slice of n elements at A reads as zs (nil, empty or not). -/
def Rd (k : IntKind) (w : World) (A : Option Addr) (n : Nat) (zs : List Int) : Prop :=
  zs.length = n ∧ (0 < n → ∃ ad, A = some ad ∧ ∀ j, j < n → w.cell? (ad.add j) = some (.int k (zs.getD j 0)))

/-- The slice v of n elements is the call's own (its block is from 'base' on), and holds zs. -/
def Own (e : TypeId) (k : IntKind) (w : World) (base : Nat) (v : Value) (n : Nat) (zs : List Int) : Prop := w.ownsRow base e 1 v n (zs.map (Value.int k))

section
variable {k : IntKind} {w w' : World} {A : Option Addr} {n base : Nat} {zs : List Int} {e : TypeId} {v : Value}

theorem add_block (a : Addr) (j : Nat) : (a.add j).block = a.block := by unfold Addr.add; split <;> rfl
theorem add_add (a : Addr) (i j : Nat) : (a.add i).add j = a.add (i + j) := by
  by_cases hi : i = 0 <;> by_cases hj : j = 0 <;> simp [Addr.add, hi, hj, Nat.add_assoc]

theorem Rd.nil : Rd k w A 0 [] := ⟨rfl, fun h => absurd h (by omega)⟩
theorem Rd.at_ {j : Nat} (h : Rd k w A n zs) (hj : j < n) : ∃ ad, A = some ad ∧ w.cell? (ad.add j) = some (.int k (zs.getD j 0)) := by
  obtain ⟨ad, he, hc⟩ := h.2 (by omega)
  exact ⟨ad, he, hc j hj⟩
theorem Rd.keep (h : Rd k w A n zs) (hk : ∀ p : Addr, p.block < w.heap.size → w'.cell? p = w.cell? p) : Rd k w' A n zs :=
  ⟨h.1, fun hn => by
    obtain ⟨ad, he, hc⟩ := h.2 hn
    exact ⟨ad, he, fun j hj => by
      have := hc j hj
      rw [hk _ (World.block_lt_of_cell? w _ this)]; exact this⟩⟩
theorem Rd.below (h : Rd k w A n zs) (hb : Below w.heap.size w w') : Rd k w' A n zs := h.keep fun _ hp => hb.cell hp
theorem Rd.drewN (h : Rd k w A n zs) (m : Nat) : Rd k (w.drewN m) A n zs := h
theorem Rd.drew (h : Rd k w A n zs) : Rd k w.drew A n zs := h
theorem Rd.alloc (h : Rd k w A n zs) (o : Obj) : Rd k (w.alloc o) A n zs := h.keep fun p hp => World.cell?_alloc_lt w o p hp
theorem Rd.cut (h : Rd k w A n zs) {j cap : Nat} (hj : j ≤ n) (hc : n ≤ cap) :
    Rd k w (if cap = j then A else A.map (·.add j)) (n - j) (zs.drop j) := by
  refine ⟨by rw [List.length_drop, h.1], fun hn => ?_⟩
  obtain ⟨ad, rfl, hcell⟩ := h.2 (by omega)
  rw [if_neg (by omega)]
  refine ⟨ad.add j, rfl, fun i hi => ?_⟩
  rw [add_add, hcell (j + i) (by omega)]
  simp [List.getD, List.getElem?_drop]
theorem Rd.front (h : Rd k w A n zs) {j : Nat} (hj : j ≤ n) : Rd k w A j (zs.take j) := by
  refine ⟨by rw [List.length_take, h.1]; omega, fun hn => ?_⟩
  obtain ⟨ad, rfl, hcell⟩ := h.2 (by omega)
  refine ⟨ad, rfl, fun i hi => ?_⟩
  rw [hcell i (by omega)]
  simp [List.getD, hi]

theorem Own.len (h : Own e k w base v n zs) : zs.length = n := by have := h.1; simpa using this
theorem Own.nil : Own e k w base (.slice none 0 0) 0 [] := World.ownsRow_nil w base e 1
theorem Own.alloc (h : Own e k w base v n zs) (o : Obj) : Own e k (w.alloc o) base v n zs := World.ownsRow.alloc h o
theorem Own.drew (h : Own e k w base v n zs) : Own e k w.drew base v n zs := h
theorem Own.drewN (h : Own e k w base v n zs) (m : Nat) : Own e k (w.drewN m) base v n zs := h
theorem Own.less {b : Nat} (h : Own e k w base v n zs) (hb : b ≤ base) : Own e k w b v n zs := by
  refine ⟨h.1, ?_⟩
  rcases h.2 with h | ⟨g, cap, cur, hv, hg, r⟩
  · exact .inl h
  · exact .inr ⟨g, cap, cur, hv, by omega, r⟩
/-- The slice's own form: its address, its capacity; and that it reads. -/
theorem Own.form (h : Own e k w base v n zs) : ∃ A cap, v = .slice A n cap ∧ n ≤ cap ∧ cap ≤ maxLen ∧ Rd k w A n zs ∧ (A = none → n = 0 ∧ cap = 0) := by
  have hl := h.len
  rcases h.2 with ⟨rfl, rfl⟩ | ⟨g, cap, cur, rfl, _, hg, hnc, hcm, _, htake⟩
  · exact ⟨none, 0, rfl, Nat.le_refl _, Nat.zero_le _, ⟨hl, fun h => absurd h (by omega)⟩, fun _ => ⟨rfl, rfl⟩⟩
  · refine ⟨some ⟨g, 0, none⟩, cap, rfl, hnc, hcm, ⟨hl, fun _ => ⟨_, rfl, fun j hj => ?_⟩⟩, fun h => by cases h⟩
    have := World.ownsRow.cells h (g := g) rfl j (.int k (zs.getD j 0)) (by
      have hj' : j < zs.length := by omega
      simp [List.getElem?_map, List.getElem?_eq_getElem hj', List.getD])
    exact this
theorem Own.below (h : Own e k w base v n zs) (hb : Below w.heap.size w w') : Own e k w' base v n zs := by
  refine ⟨h.1, ?_⟩
  rcases h.2 with h | ⟨g, cap, cur, hv, hg, hh, r⟩
  · exact .inl h
  · exact .inr ⟨g, cap, cur, hv, hg, by rw [hb.block g (Array.getElem?_eq_some_iff.1 hh).1]; exact hh, r⟩
theorem Own.rowLt (h : Own e k w base v n zs) : ∀ g, v.ownBlock = some g → base ≤ g := fun g hg => (World.ownsRow.lt h g hg).1
end

/-- How far growslice goes. -/
theorem next_le {need old : Nat} (h : old < need) : 4 * Builtin.nextslicecap need old ≤ 5 * need + 768 := by
  unfold Builtin.nextslicecap
  split
  · omega
  · split
    · omega
    · rw [growBy_four]
      split
      · omega
      · split
        · omega
        · split
          · omega
          · split
            · omega
            · omega

section
variable {P : Program} (w : World)

theorem run_append_ints (k : IntKind) (bytes base : Nat) (t ty e : TypeId) (ht : P.underlying t = some (.slice e))
    (hinfo : (P.info? e).map (fun i => (i.zero, i.size, i.bytes)) = some (some (.int k 0), 1, bytes))
    (v : Value) (n : Nat) (xs : List Int) (hown : Own e k w base v n xs) (A : Option Addr) (m c : Nat) (zs : List Int) (hr : Rd k w A m zs)
    (h63 : n + m ≤ 9223372036854775807) (hfit : (5 * (n + m) + 768) * bytes ≤ 1125899906842624) (hbase : base ≤ w.heap.size) :
    ∃ v' w', (Builtin.append_ #[t, t] ty #[v, .slice A m c]).run P w = .ok v' w' ∧ Own e k w' base v' (n + m) (xs ++ zs) ∧ w.grownBy w' v.ownBlock := by
  obtain ⟨i, hi, hz, hsize, hby⟩ := info_parts hinfo
  have hxl := hown.len
  have hzl := hr.1
  rcases Nat.eq_zero_or_pos m with rfl | hm
  · have hzn : zs = [] := List.eq_nil_of_length_eq_zero hzl
    subst hzn
    refine ⟨v, w, ?_, by simpa using hown, World.grownBy.refl w _⟩
    rcases hown.2 with ⟨rfl, rfl⟩ | ⟨g, cap, cur, rfl, _, _, hnc, _⟩
    · cases A <;> simp [Builtin.append_, run_underlying ht, sizeOf, typeInfo, hi, Builtin.lenOf, Builtin.firstCells, loadCells, loadCellsFrom]
    · cases A <;> simp [Builtin.append_, run_underlying ht, sizeOf, typeInfo, hi, Builtin.lenOf, Builtin.firstCells, loadCells, loadCellsFrom, hnc, storeCells]
  · obtain ⟨ad, rfl, hcell⟩ := hr.2 hm
    have hnews : ∀ j u, (zs.map (Value.int k))[j]? = some u → w.cell? (ad.add j) = some u := by
      intro j u hu
      have hj : j < zs.length := by have := (List.getElem?_eq_some_iff.1 hu).1; simpa using this
      rw [hcell j (by omega)]
      rw [List.getElem?_map, List.getElem?_eq_getElem hj] at hu
      simp [List.getD, List.getElem?_eq_getElem hj] at hu ⊢
      exact hu
    have hl : (zs.map (Value.int k)).length = m * i.size := by rw [hsize, List.length_map]; omega
    have h1 : ∀ u ∈ zs.map (Value.int k), u.oneCell' = true := ints_oneCell k zs
    have hcap : ∀ old, old < n + m → Builtin.nextslicecap (n + m) old * i.bytes ≤ 281474976710656 := by
      intro old ho
      rw [hby]
      have h2 := Nat.mul_le_mul_right bytes (next_le ho)
      rw [Nat.mul_assoc] at h2
      omega
    have hnew : ∀ (olds : List Int), olds.length = n → ∀ c', n + m ≤ c' → c' ≤ maxLen → ∀ wd : World, base ≤ wd.heap.size →
        Own e k (wd.alloc (.cells ((olds.map (Value.int k)).toArray ++ (zs.map (Value.int k)).toArray ++ Builtin.zeroCells (Value.int k 0).cells (c' - (n + m))) e)) base
          (.slice (some ⟨wd.heap.size, 0, none⟩) (n + m) c') (n + m) (olds ++ zs) := by
      intro olds ho c' hc1 hc2 wd hwd
      refine ⟨by simp [ho, hzl], .inr ⟨wd.heap.size, c', _, rfl, hwd, heap_alloc_new wd _, hc1, hc2, ?_, ?_⟩⟩
      · simp only [Array.size_append, List.size_toArray, List.length_map, size_zeroCells, Value.cells, ho, hzl]
        simp
        omega
      · simp only [Array.toList_append, List.map_append]
        rw [List.take_left']
        simp [ho, hzl]
    have hgr : ∀ (o : Obj) (row : Option Nat), w.grownBy (w.drew.alloc o) row := fun o row => ⟨rfl, rfl, rfl, by simp, fun j hj _ => by first | exact heap_alloc_old w.drew _ j hj | exact heap_alloc_old w.drew _ hj⟩
    rcases hown.2 with ⟨rfl, rfl⟩ | ⟨g, cap, cur, rfl, hbg, hg, hnc, hcm, hcs, htake⟩
    · have hxn : xs = [] := List.eq_nil_of_length_eq_zero hxl
      subst hxn
      have hcap0 := hcap 0 (by omega)
      rw [nextslicecap_zero (by omega)] at hcap0
      have hrun := run_append_nil (P := P) w t ty e i _ ht hi hz ad m c _ hl hnews hm (by omega) (by simpa using hcap0)
      have hge := grownCap_ge w m 0 e
      have hle := grownCap_le_maxLen w m 0 e (by simp only [maxLen]; omega)
      have hN := hnew [] rfl (grownCap w m 0 e) (by omega) hle w.drew hbase
      simp only [Nat.zero_add, List.map_nil, List.nil_append, Array.empty_append] at hN ⊢
      exact ⟨_, _, hrun, hN, hgr _ _⟩
    · by_cases hroom : n + m ≤ cap
      · have hfit' : n * i.size + (zs.map (Value.int k)).length ≤ cur.size := by rw [hsize, hcs, List.length_map]; omega
        have hrun := run_append_room (P := P) w t ty e i ht hi g n cap cur hg ad m c _ hl hnews h1 hroom hfit'
        refine ⟨_, _, hrun, ⟨by simp [hxl, hzl], .inr ⟨g, cap, _, rfl, hbg, setRow_heap w g cur _ e _ hg, hroom, hcm, ?_, ?_⟩⟩, ⟨rfl, rfl, rfl, by simp, fun j _ hj => setRow_other w g j _ (fun he => hj (by simp [Value.ownBlock, he]))⟩⟩
        · simp only [List.size_toArray, List.length_append, List.length_take, List.length_drop, Array.length_toList]
          omega
        · rw [hsize, htake, List.map_append]
          show List.take ((n + m) * 1) ((xs.map (Value.int k) ++ zs.map (Value.int k)) ++ _) = _
          rw [List.take_left']
          simp [hxl, hzl]
      · have holds : ∀ j u, (xs.map (Value.int k))[j]? = some u → w.cell? ((⟨g, 0, none⟩ : Addr).add j) = some u := World.ownsRow.cells hown (g := g) rfl
        have hrun := run_append_grow (P := P) w t ty e i _ ht hi hz ⟨g, 0, none⟩ n cap (xs.map (Value.int k)) (by rw [hsize, List.length_map]; omega) holds ad m c _ hl hnews (by omega) (by omega) (hcap cap (by omega))
        have hge := grownCap_ge w (n + m) cap e
        have hle := grownCap_le_maxLen w (n + m) cap e (by simp only [maxLen]; omega)
        exact ⟨_, _, hrun, hnew xs hxl _ hge hle w.drew hbase, hgr _ _⟩

theorem wp_append_ints {o : Oper} {a : Act} {K : Act → World → Prop} {Q : Exit → Act → World → Prop} (s x : Operand) (t : TypeId)
    (ho : o.op = .call { callee := .builtin .append, args := #[s, x], argTypes := #[t, t] })
    (k : IntKind) (bytes base : Nat) (e : TypeId) (ht : P.underlying t = some (.slice e))
    (hinfo : (P.info? e).map (fun i => (i.zero, i.size, i.bytes)) = some (some (.int k 0), 1, bytes))
    (v : Value) (n : Nat) (xs : List Int) (hs : a.eval s = v) (hown : Own e k w base v n xs) (A : Option Addr) (m c : Nat) (zs : List Int) (hx : a.eval x = .slice A m c) (hr : Rd k w A m zs)
    (h63 : n + m ≤ 9223372036854775807) (hfit : (5 * (n + m) + 768) * bytes ≤ 1125899906842624) (hbase : base ≤ w.heap.size)
    (h : ∀ v' w', Own e k w' base v' (n + m) (xs ++ zs) → w.grownBy w' v.ownBlock → K (a.put o.dst v') w') : o.wp P a w K Q := by
  obtain ⟨v', w', hrun, h2, h3⟩ := run_append_ints (P := P) w k bytes base t o.type e ht hinfo v n xs hown A m c zs hr h63 hfit hbase
  unfold Oper.wp execOp
  simp only [ho, resolve, invoke, builtin, Sem.run_bind, Sem.run_pure, Result.andThen_ok, List.map_toArray, List.map_cons, List.map_nil, hs, hx, hrun]
  exact h v' w' h2 h3

theorem wpList_append_ints {ops : Array Oper} {rest : List Oper} {o : Oper} {a : Act} {Q : Exit → Act → World → Prop} (hgd : o.guard = none) (s x : Operand) (t : TypeId)
    (ho : o.op = .call { callee := .builtin .append, args := #[s, x], argTypes := #[t, t] })
    (k : IntKind) (bytes base : Nat) (e : TypeId) (ht : P.underlying t = some (.slice e))
    (hinfo : (P.info? e).map (fun i => (i.zero, i.size, i.bytes)) = some (some (.int k 0), 1, bytes))
    (v : Value) (n : Nat) (xs : List Int) (hs : a.eval s = v) (hown : Own e k w base v n xs) (A : Option Addr) (m c : Nat) (zs : List Int) (hx : a.eval x = .slice A m c) (hr : Rd k w A m zs)
    (h63 : n + m ≤ 9223372036854775807) (hfit : (5 * (n + m) + 768) * bytes ≤ 1125899906842624) (hbase : base ≤ w.heap.size)
    (h : ∀ v' w', Own e k w' base v' (n + m) (xs ++ zs) → w.grownBy w' v.ownBlock → wpList P ops Q rest (a.put o.dst v') w') : wpList P ops Q (o :: rest) a w :=
  wpList_plain hgd fun _ hK => wp_append_ints w s x t ho k bytes base e ht hinfo v n xs hs hown A m c zs hx hr h63 hfit hbase fun v' w' h2 h3 => hK _ _ (h v' w' h2 h3)

/-- A slice of bytes as a string. -/
theorem run_str (src dst e : TypeId) (hs : P.underlying src = some (.slice e)) (he : P.underlying e = some (.int .u8)) (hd : P.underlying dst = some .string)
    (A : Option Addr) (n c : Nat) (zs : List Int) (hr : Rd .u8 w A n zs) : (convert src dst (.slice A n c)).run P w = .ok (.string (strOfNums zs)) w := by
  rw [run_convert_bytes_string w src dst e A n c hs he hd]
  rcases A with _ | ad
  · have hn : n = 0 := by
      rcases Nat.eq_zero_or_pos n with h | h
      · exact h
      · obtain ⟨_, h', _⟩ := hr.2 h; cases h'
    subst hn
    have hz : zs = [] := List.eq_nil_of_length_eq_zero hr.1
    subst hz
    simp [Conv.bytesToString]
    rfl
  · have hl : (loadCells ad n).run P w = .ok (zs.map (Value.int .u8)).toArray w := by
      have := run_loadCells_list (P := P) w ad (zs.map (Value.int .u8)) (fun j u hu => by
        have hj : j < zs.length := by have := (List.getElem?_eq_some_iff.1 hu).1; simpa using this
        have hn := hr.1
        obtain ⟨ad', h', hcell⟩ := hr.2 (by omega)
        injection h' with h'
        subst h'
        rw [hcell j (by omega)]
        rw [List.getElem?_map, List.getElem?_eq_getElem hj] at hu
        simp [List.getD, List.getElem?_eq_getElem hj] at hu ⊢
        exact hu)
      rw [List.length_map, hr.1] at this
      exact this
    rw [run_bytesToString w ad n c zs hl, foldl_push_bytes]
    simp [strOfNums, ByteArray.empty, ByteArray.emptyWithCapacity]
    rfl
end
end Go.Proofs.Ytdcghnoioecglaa
