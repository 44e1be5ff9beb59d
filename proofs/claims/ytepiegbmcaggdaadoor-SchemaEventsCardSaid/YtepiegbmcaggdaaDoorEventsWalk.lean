/- The walk of the law on events. -/
import Derived.Test.YtepiegbmcaggdaaDoorEventsSpec
import Derived.Test.YtepiegbmcaggdaaDoorTyped
import Derived.Test.YtepiegbmcaggdaaDoorCat2
import Derived.Deep.DeepMust
import Derived.Laws.AppendOwnNone
namespace Go.Proofs.YtepiegbmcaggdaaDoor
open Go Go.RowKit Go.Maps

theorem Tryd.infoVal : (Tryd.prog.info? 35).map (fun i => (i.zero, i.size, i.bytes)) = some (some (.agg #[.int .i64 0, .int .i64 0, .string ⟨#[]⟩, .bool false]), 4, 40) := by kernel_rfl

theorem ownsRow_grown2 {w w' : World} {base : Nat} {e : TypeId} {size n m : Nat} {v : Value} {xs : List Value} (h : w.ownsRow base e size v n xs) (hg : w.grownBy w' (some m)) (hm : m < base) : w'.ownsRow base e size v n xs := by
  obtain ⟨h1, h2⟩ := h
  refine ⟨h1, ?_⟩
  rcases h2 with h2 | ⟨g', cap', cur, hv, hg', hh, r⟩
  · exact Or.inl h2
  · exact Or.inr ⟨g', cap', cur, hv, hg', (hg.block g' (Array.getElem?_eq_some_iff.1 hh).1 (by intro e; cases e; omega)).trans hh, r⟩

/-- The event in the making: its block, its type and time, its values so far. -/
structure EvAt (wE w : World) (E : Nat) (ty : ByteArray) (tm : Int) (va : Option Addr) (k cp : Nat) (vs : List Val) : Prop where
  below : Below E wE w
  lt : E < w.heap.size
  c0 : w.cell? ⟨E, 0, none⟩ = some (.string ty)
  c1 : w.cell? ⟨E, 1, none⟩ = some (.int .i64 tm)
  c2 : w.cell? ⟨E, 2, none⟩ = some (.slice va k cp)
  f1 : w.frozen? ⟨E, 1, none⟩ = false
  f2 : w.frozen? ⟨E, 2, none⟩ = false
  own : w.ownsRow (E + 1) 35 4 (.slice va k cp) k (valCells vs)
theorem EvAt.step {wE w w2 : World} {E k cp : Nat} {ty : ByteArray} {tm : Int} {va : Option Addr} {vs : List Val} (h : EvAt wE w E ty tm va k cp vs) (hb : Below w.heap.size w w2) : EvAt wE w2 E ty tm va k cp vs :=
  ⟨h.below.trans (hb.mono (Nat.le_of_lt h.lt)), Nat.lt_of_lt_of_le h.lt hb.size, (hb.cell (p := ⟨E, 0, none⟩) h.lt).trans h.c0, (hb.cell (p := ⟨E, 1, none⟩) h.lt).trans h.c1, (hb.cell (p := ⟨E, 2, none⟩) h.lt).trans h.c2, (hb.frozen (p := ⟨E, 1, none⟩) h.lt).trans h.f1, (hb.frozen (p := ⟨E, 2, none⟩) h.lt).trans h.f2, ownsRow_below h.own hb⟩

theorem EvAt.far {wE w w7 : World} {E k cp : Nat} {ty : ByteArray} {tm : Int} {va : Option Addr} {vs : List Val} (h : EvAt wE w E ty tm va k cp vs) (hg : w.grownBy w7 (Value.slice va k cp).ownBlock) :
    w7.cell? ⟨E, 0, none⟩ = some (.string ty) ∧ w7.cell? ⟨E, 1, none⟩ = some (.int .i64 tm) ∧ w7.cell? ⟨E, 2, none⟩ = some (.slice va k cp) ∧ w7.frozen? ⟨E, 1, none⟩ = false ∧ w7.frozen? ⟨E, 2, none⟩ = false ∧ Below E wE w7 ∧ E < w7.heap.size := by
  have hne := ownBlock_ne h.own (Nat.lt_succ_self E)
  have blk := hg.block E h.lt hne
  exact ⟨(World.cell?_of_block (a := ⟨E, 0, none⟩) blk).trans h.c0, (World.cell?_of_block (a := ⟨E, 1, none⟩) blk).trans h.c1, (World.cell?_of_block (a := ⟨E, 2, none⟩) blk).trans h.c2, (World.frozen?_of_block (a := ⟨E, 1, none⟩) blk).trans h.f1, (World.frozen?_of_block (a := ⟨E, 2, none⟩) blk).trans h.f2,
    h.below.grown hg (Nat.le_of_lt h.lt) (fun k hk => Nat.le_of_lt (ownBlock_lo h.own k hk)), Nat.lt_of_lt_of_le h.lt hg.size⟩
theorem EvAt.next {wE w7 : World} {E g k cp : Nat} {ty : ByteArray} {tm : Int} {v : Value} {vs : List Val} (c0 : w7.cell? ⟨E, 0, none⟩ = some (.string ty)) (c1 : w7.cell? ⟨E, 1, none⟩ = some (.int .i64 tm)) (c2 : w7.cell? ⟨E, 2, none⟩ = some v) (f1 : w7.frozen? ⟨E, 1, none⟩ = false) (f2 : w7.frozen? ⟨E, 2, none⟩ = false) (hb : Below E wE w7) (hlt : E < w7.heap.size)
    (ho : w7.ownsRow (E + 1) 35 4 (.slice (some ⟨g, 0, none⟩) k cp) k (valCells vs)) : EvAt wE (w7.setCell ⟨E, 2, none⟩ (.slice (some ⟨g, 0, none⟩) k cp)) E ty tm (some ⟨g, 0, none⟩) k cp vs :=
  ⟨hb.setCell (Nat.le_refl _) _, by simpa [World.setCell] using hlt, (World.cell?_setCell_other _ _ _ _ (by intro e; cases e)).trans c0, (World.cell?_setCell_other _ _ _ _ (by intro e; cases e)).trans c1, World.cell?_setCell_same _ _ _ c2, (World.frozen?_setCell _ _ _ _).trans f1, (World.frozen?_setCell _ _ _ _).trans f2, ownsRow_setCell_below ho (Nat.lt_succ_self E) _⟩
/-- Another time. -/
theorem EvAt.time {wE w : World} {E k cp : Nat} {ty : ByteArray} {tm : Int} {va : Option Addr} {vs : List Val} (h : EvAt wE w E ty tm va k cp vs) (tm' : Int) : EvAt wE (w.setCell ⟨E, 1, none⟩ (.int .i64 tm')) E ty tm' va k cp vs :=
  ⟨h.below.setCell (Nat.le_refl _) _, by simpa [World.setCell] using h.lt, (World.cell?_setCell_other _ _ _ _ (by intro e; cases e)).trans h.c0, World.cell?_setCell_same _ _ _ h.c1, (World.cell?_setCell_other _ _ _ _ (by intro e; cases e)).trans h.c2, (World.frozen?_setCell _ _ _ _).trans h.f1, (World.frozen?_setCell _ _ _ _).trans h.f2, ownsRow_setCell_below h.own (Nat.lt_succ_self E) _⟩

theorem heap_alloc_new2 (w : World) (a b : Obj) : ((w.alloc a).alloc b).heap[w.heap.size + 1]? = some b := by
  have := heap_alloc_new (w.alloc a) b
  rwa [World.size_alloc] at this

theorem owned_vals {w : World} {base : Nat} {va : Option Addr} {k cap : Nat} {vs : List Val} (hk : vs.length = k) (h : w.ownsRow base 35 4 (.slice va k cap) k (valCells vs)) : ValsAt w va vs ∧ k ≤ cap := by
  subst hk
  rcases h.2 with ⟨e, h0⟩ | ⟨g, cap', cur, e, hb, hh, hn, hc, hs, ht⟩
  · refine ⟨Or.inl (List.eq_nil_of_length_eq_zero h0), ?_⟩
    rw [h0]
    exact Nat.zero_le _
  · cases e
    refine ⟨Or.inr ⟨g, 0, rfl, fun i hi => ?_⟩, hn⟩
    have hg := valCells_get vs i hi
    rw [← ht] at hg
    rw [List.getElem?_take, List.getElem?_take, List.getElem?_take, List.getElem?_take, if_pos (by omega), if_pos (by omega), if_pos (by omega), if_pos (by omega)] at hg
    simp only [World.cell?, hh, Nat.zero_add]
    simpa using hg
theorem owned_news {w : World} {base g k cap e size : Nat} {xs : List Value} (h : w.ownsRow base e size (.slice (some ⟨g, 0, none⟩) k cap) k xs) (j : Nat) (u : Value) (hj : xs[j]? = some u) : w.cell? ((⟨g, 0, none⟩ : Addr).add j) = some u := by
  rcases h.2 with ⟨e, h0⟩ | ⟨g, cap', cur, e, hb, hh, hn, hc, hs, ht⟩
  · cases e
  · cases e
    rw [← ht, List.getElem?_take] at hj
    split at hj
    · have hj : cur[j]? = some u := by simpa using hj
      by_cases h0 : j = 0
      · subst h0; simp [World.cell?, Addr.add, hh, hj]
      · simp [World.cell?, Addr.add, hh, hj, h0]
    · cases hj
theorem vals_one (vs : List Val) : ∀ u ∈ valCells vs, u.oneCell' = true := by
  intro u hu
  simp only [valCells, List.mem_flatMap, Val.cells] at hu
  obtain ⟨a, _, hu⟩ := hu
  simp at hu
  rcases hu with rfl | rfl | rfl | rfl <;> rfl
theorem owned_cell {w : World} {base g k cap e size : Nat} {xs : List Value} (h : w.ownsRow base e size (.slice (some ⟨g, 0, none⟩) k cap) k xs) (j : Nat) (u : Value) (hj : xs[j]? = some u) : w.cell? ⟨g, j, none⟩ = some u := by
  have h := owned_news h j u hj
  by_cases h0 : j = 0
  · subst h0; exact h
  · simpa [Addr.add, h0] using h
theorem owned_free {w : World} {base g k cap e size : Nat} {xs : List Value} (h : w.ownsRow base e size (.slice (some ⟨g, 0, none⟩) k cap) k xs) (j : Nat) : w.frozen? ⟨g, j, none⟩ = false := by
  rcases h.2 with ⟨e, h0⟩ | ⟨g, cap', cur, e, hb, hh, hn, hc, hs, ht⟩
  · cases e
  · cases e
    simp [World.frozen?, hh]
theorem vals_set {w w' : World} {base g k cap : Nat} {vs : List Val} (hk : vs.length = k) (h : w.ownsRow base 35 4 (.slice (some ⟨g, 0, none⟩) k cap) k (valCells vs)) (j : Nat) (v' : Val) (ho : ∀ q, (q < j * 4 ∨ j * 4 + 4 ≤ q) → w'.cell? ⟨g, q, none⟩ = w.cell? ⟨g, q, none⟩)
    (h0 : w'.cell? ⟨g, j * 4, none⟩ = some (.int .i64 v'.kind)) (h1 : w'.cell? ⟨g, j * 4 + 1, none⟩ = some (.int .i64 v'.int)) (h2 : w'.cell? ⟨g, j * 4 + 2, none⟩ = some (.string v'.str)) (h3 : w'.cell? ⟨g, j * 4 + 3, none⟩ = some (.bool v'.bool)) : ValsAt w' (some ⟨g, 0, none⟩) (vs.set j v') := by
  subst hk
  refine Or.inr ⟨g, 0, rfl, fun i hi => ?_⟩
  have hi' : i < vs.length := by simpa using hi
  simp only [Nat.zero_add]
  by_cases e : i = j
  · subst e
    simp only [List.getElem_set_self]
    exact ⟨h0, h1, h2, h3⟩
  · simp only [List.getElem_set_ne (Ne.symm e)]
    have hc := valCells_get vs i hi'
    exact ⟨(ho _ (by omega)).trans (owned_cell h _ _ hc.1), (ho _ (by omega)).trans (owned_cell h _ _ hc.2.1), (ho _ (by omega)).trans (owned_cell h _ _ hc.2.2.1), (ho _ (by omega)).trans (owned_cell h _ _ hc.2.2.2)⟩
theorem addr_ne {g p q : Nat} (h : p ≠ q) : (⟨g, p, none⟩ : Addr) ≠ ⟨g, q, none⟩ := by intro e; injection e; omega
theorem addr_ne2 {g g' p q : Nat} (h : g ≠ g') : (⟨g, p, none⟩ : Addr) ≠ ⟨g', q, none⟩ := by intro e; injection e; omega
theorem set_str {vs : List Val} {j : Nat} {v' : Val} (h : ∀ v ∈ vs, v.str.size ≤ 256) (h' : v'.str.size ≤ 256) : ∀ v ∈ vs.set j v', v.str.size ≤ 256 := by
  intro v hv
  rcases List.mem_or_eq_of_mem_set hv with hv | rfl
  · exact h v hv
  · exact h'
theorem other_kind (b kj : Int) (h1 : 0 ≤ b) (h2 : b ≤ 255) (h3 : 1 ≤ kj) (h4 : kj ≤ 3) : 1 ≤ IntKind.i64.wrap (1 + (IntKind.i64.wrap (kj + (IntKind.i64.wrap ((IntKind.i64.wrap b).tdiv 2)).tmod 2)).tmod 3) ∧ IntKind.i64.wrap (1 + (IntKind.i64.wrap (kj + (IntKind.i64.wrap ((IntKind.i64.wrap b).tdiv 2)).tmod 2)).tmod 3) ≤ 3 ∧ IntKind.i64.wrap (1 + (IntKind.i64.wrap (kj + (IntKind.i64.wrap ((IntKind.i64.wrap b).tdiv 2)).tmod 2)).tmod 3) ≠ kj := by
  have e0 : IntKind.i64.wrap b = b := IntWalk.i64_in _ (by omega)
  have e1 : b.tdiv 2 = b / 2 := Int.tdiv_eq_ediv_of_nonneg h1
  have e2 : IntKind.i64.wrap (b / 2) = b / 2 := IntWalk.i64_in _ (by omega)
  have e3 : (b / 2).tmod 2 = b / 2 % 2 := Int.tmod_eq_emod_of_nonneg (by omega)
  have e4 : IntKind.i64.wrap (kj + b / 2 % 2) = kj + b / 2 % 2 := IntWalk.i64_in _ (by omega)
  have e5 : (kj + b / 2 % 2).tmod 3 = (kj + b / 2 % 2) % 3 := Int.tmod_eq_emod_of_nonneg (by omega)
  have e6 : IntKind.i64.wrap (1 + (kj + b / 2 % 2) % 3) = 1 + (kj + b / 2 % 2) % 3 := IntWalk.i64_in _ (by omega)
  rw [e0, e1, e2, e3, e4, e5, e6]
  omega
/-- A value stored over another one. -/
def storeV (w : World) (g j : Nat) (v : Val) : World := (((w.setCell ⟨g, j * 4, none⟩ (.int .i64 v.kind)).setCell ⟨g, j * 4 + 1, none⟩ (.int .i64 v.int)).setCell ⟨g, j * 4 + 2, none⟩ (.string v.str)).setCell ⟨g, j * 4 + 3, none⟩ (.bool v.bool)
theorem storeV_vals {w : World} {base g k cap : Nat} {vs : List Val} (hk : vs.length = k) (h : w.ownsRow base 35 4 (.slice (some ⟨g, 0, none⟩) k cap) k (valCells vs)) (j : Nat) (v' : Val) (hj : j < vs.length) : ValsAt (storeV w g j v') (some ⟨g, 0, none⟩) (vs.set j v') := by
  have o : ∀ {w : World} {p q : Nat} {v : Value}, p ≠ q → (w.setCell ⟨g, p, none⟩ v).cell? ⟨g, q, none⟩ = w.cell? ⟨g, q, none⟩ := fun hpq => World.cell?_setCell_other _ _ _ _ (addr_ne hpq)
  have hc := valCells_get vs j hj
  have k0 := owned_cell h _ _ hc.1
  have k1 := owned_cell h _ _ hc.2.1
  have k2 := owned_cell h _ _ hc.2.2.1
  have k3 := owned_cell h _ _ hc.2.2.2
  unfold storeV
  refine vals_set hk h j v' (fun q hq => ?_) ?_ ?_ ?_ ?_
  · rw [o (by omega), o (by omega), o (by omega), o (by omega)]
  · rw [o (by omega), o (by omega), o (by omega)]
    exact World.cell?_setCell_same _ _ _ k0
  · rw [o (by omega), o (by omega)]
    exact World.cell?_setCell_same _ _ _ ((o (by omega)).trans k1)
  · rw [o (by omega)]
    exact World.cell?_setCell_same _ _ _ ((o (by omega)).trans ((o (by omega)).trans k2))
  · exact World.cell?_setCell_same _ _ _ ((o (by omega)).trans ((o (by omega)).trans ((o (by omega)).trans k3)))
theorem storeV_cell {w : World} {g j E q : Nat} {v : Val} (h : g ≠ E) : (storeV w g j v).cell? ⟨E, q, none⟩ = w.cell? ⟨E, q, none⟩ := by
  unfold storeV
  rw [World.cell?_setCell_other _ _ _ _ (addr_ne2 h), World.cell?_setCell_other _ _ _ _ (addr_ne2 h), World.cell?_setCell_other _ _ _ _ (addr_ne2 h), World.cell?_setCell_other _ _ _ _ (addr_ne2 h)]
theorem storeV_below {w wE : World} {g j E : Nat} {v : Val} (hb : Below E wE w) (h : E ≤ g) : Below E wE (storeV w g j v) :=
  (((hb.setCell h _).setCell h _).setCell h _).setCell h _
theorem owned_case {w : World} {base k cap e size : Nat} {va : Option Addr} {xs : List Value} (h : w.ownsRow base e size (.slice va k cap) k xs) : (k = 0 ∧ va = none ∧ cap = 0) ∨ ∃ g, va = some ⟨g, 0, none⟩ := by
  rcases h.2 with ⟨e, h0⟩ | ⟨g, cap', cur, e, hb, hh, hn, hc, hs, ht⟩
  · cases e; exact Or.inl ⟨rfl, rfl, rfl⟩
  · cases e; exact Or.inr ⟨g, rfl⟩
theorem ValsAt.take {w : World} {ao : Option Addr} {l : List Val} (h : ValsAt w ao l) (k : Nat) : ValsAt w ao (l.take k) := by
  rcases h with h | ⟨b, o, rfl, h⟩
  · exact Or.inl (by rw [h]; simp)
  · exact Or.inr ⟨b, o, rfl, fun i hi => by
      have hi' : i < l.length := by simp at hi; omega
      simpa using h i hi'⟩

theorem tname : nameB ⟨#[84]⟩ = true := by decide +kernel

set_option maxRecDepth 100000 in
set_option maxHeartbeats 8000000 in
theorem events_walk (zs : List Int) (ka : Option Addr) (kc : Nat) (n : Int) (s : ByteArray) (tm at' : Int) (wrong : UInt8) (w : World) (hr : ResAt w) (hk : KindAt w) (hz : IntsAt w ka zs) (hzl : zs.length ≤ 9223372036854775807) (hs : s.size ≤ maxLen)
    (ht1 : -9223372036854775808 ≤ tm) (ht2 : tm ≤ 9223372036854775807) :
    Calls Tryd.prog 3 #[.slice ka zs.length kc, .int .i64 n, .string s, .int .i64 tm, .int .i64 at', .int .u8 wrong.toNat] w fun e w' => e = .returned (.bool true) ∧ Below w.heap.size w w' := by
  have HR := Lib.hid hr
  have HK := Lib.hid hk
  have HZ := Lib.hid hz
  clear hr hk hz
  go_enter Tryd.func3, Tryd.ntmps3
  go_wp2_with fail
  refine (new_any _).mono ?_
  rintro e w1 ⟨rfl, hcat1, hb1⟩
  have hg1 := HR.out.lt
  have hg2 := HK.out.lt
  have hz1 : w.heap.size + 1 < w1.heap.size := hcat1.lt.1
  have HR1 := Lib.hid (HR.out.below hb1)
  have HK1 := Lib.hid (HK.out.below hb1 (Nat.le_refl _))
  have HC1 := Lib.hid hcat1
  have HB1 := Lib.hid hb1
  have HZ1 := Lib.hid (show IntsAt w1 ka zs by
    rcases HZ.out with h | ⟨b, o, e, h⟩
    · exact Or.inl h
    · exact Or.inr ⟨b, o, e, fun i hi => (hb1.cell (p := ⟨b, o + i, none⟩) (World.block_lt_of_cell? w _ (h i hi))).trans (h i hi)⟩)
  clear hcat1 hb1
  go_wp2_with fail
  have hty := typed_any ⟨#[84]⟩ [] zs none ka 0 kc w1 HR1.out (Or.inl rfl) HZ1.out hzl
  rw [if_pos tname] at hty
  refine hty.mono ?_
  clear hty
  rintro e w2 ⟨⟨va, m, cp, hm16, hm, rfl, hown⟩, hb2⟩
  obtain ⟨l, hl⟩ : ∃ l, l = typedL [] zs m := ⟨_, rfl⟩
  have hll : l.length = m := by rw [hl, typedL_length]
  have HF := Lib.hid (show faultB ⟨#[84]⟩ l = 0 by rw [hl]; exact typed_ok _ _ _ _ hm16 tname)
  have HKI := Lib.hid (show ∀ a ∈ l, 1 ≤ a.2 ∧ a.2 ≤ 3 by rw [hl]; exact typed_kinds _ _ _)
  have HSI := Lib.hid (show ∀ a ∈ l, a.1.size ≤ 32 by rw [hl]; exact typed_sizes _ _ _ hm16)
  rw [← hl] at hown
  have HO2 := Lib.hid hown
  have HR2 := Lib.hid (HR1.out.below hb2)
  have HK2 := Lib.hid (HK1.out.below hb2 (Nat.le_refl _))
  have HC2 := Lib.hid (HC1.out.below hb2)
  have HB2 := Lib.hid (HB1.out.trans (hb2.mono (by omega)))
  have hz2 := hb2.size
  have hcp := (owned_attrs hll hown).2
  have HLL := Lib.hid hll
  have hll1 : l.length ≤ m := by omega
  have hll2 : m ≤ l.length := by omega
  clear hl hown hb2 hll
  go_wp2_with fail
  have hb3 : Below w2.heap.size w2 (w2.alloc (Obj.cells #[Value.string { data := #[84] }, Value.slice va m cp] 27)) := (Below.refl _ _).alloc (Nat.le_refl _) _
  have hd := declare_ok ⟨#[84]⟩ l va cp (w.heap.size + 1) w.heap.size 0 (.map []) (w2.alloc (Obj.cells #[Value.string { data := #[84] }, Value.slice va m cp] 27)) (HR2.out.alloc _) (HK2.out.alloc _) (by omega) ((owned_attrs HLL.out HO2.out).1.below' hb3) (HC2.out.below hb3) (by decide) (by omega) HSI.out HF.out rfl (by decide) (by decide)
  rw [HLL.out] at hd
  refine hd.mono ?_
  clear hd
  rintro e w4 ⟨rfl, hg4, g, cp4, hcat4, hat4, hcp4, _⟩
  have hz4 := hg4.size
  simp only [World.size_alloc] at hz4
  have HB4 := Lib.hid ((HB2.out.trans (hb3.mono (by omega))).grown hg4 (by simp; omega) (fun k hk => by injection hk with hk; omega))
  have HC4 := Lib.hid hcat4
  have HAT4 := Lib.hid hat4
  have q1 : w4.cell? ⟨w2.heap.size, 1, none⟩ = some (.slice va m cp) := (World.cell?_of_block (a := ⟨w2.heap.size, 1, none⟩) (hg4.block w2.heap.size (by simp) (by intro e; injection e; omega))).trans (by simp)
  have HO4 := Lib.hid (ownsRow_grown2 (ownsRow_below HO2.out hb3) hg4 (by omega))
  have hva4 := (owned_attrs HLL.out HO4.out).1
  have HVA4 := Lib.hid hva4
  clear hcat4 hat4 hg4 hb3 hva4
  obtain ⟨D, hD⟩ : ∃ D, D = ((DataW.map []).put (keyL ⟨#[84]⟩) (DataW.held (typeV ⟨#[84]⟩ (some ⟨g, 0, none⟩) m cp4)) : DataW Value) := ⟨_, rfl⟩
  have hDh : Maps.has D (keyL ⟨#[84]⟩) = true := by rw [hD]; exact has_put_same isMap_empty (keyL_ok _) _
  have hDk : D.atKey (keyL ⟨#[84]⟩) (.held zeroT) = .held (typeV ⟨#[84]⟩ (some ⟨g, 0, none⟩) l.length cp4) := by rw [hD, HLL.out]; exact atKey_put_same isMap_empty (keyL_ok _) _ _
  have hDn : Maps.has D (keyL ⟨#[116]⟩) = false := by rw [hD]; exact (has_put_other (by intro e; simp [keyL] at e) _).trans rfl
  have HCK := Lib.hid (show ∀ (tmx : Int) (vx : List Val) (vax : Option Addr) (nx vcx : Nat) (W : World), Below w4.heap.size w4 W → ValsAt W vax vx → vx.length = nx → (∀ v ∈ vx, v.str.size ≤ 256) →
      Calls Tryd.prog 10 #[.pointer (some ⟨w.heap.size + 1, 0, none⟩), .agg #[.string ⟨#[84]⟩, .int .i64 tmx, .slice vax nx vcx]] W fun e w' => e = .returned (.int .i64 (eventFault l tmx vx)) ∧ Below W.heap.size W w' by
    intro tmx vx vax nx vcx W hW hv hn hst
    subst hn
    exact check_any ⟨#[84]⟩ tmx vx vax vcx _ _ _ D ⟨#[84]⟩ (some ⟨g, 0, none⟩) cp4 l W (hD ▸ HC4.out.below hW) (by decide) hDh hDk (HAT4.out.below' hW) hv (by omega) (fun v hv => Nat.le_trans (hst v hv) (by decide)))
  have HNO := Lib.hid (show ∀ (tmx : Int) (vax : Option Addr) (nx vcx : Nat) (W : World), Below w4.heap.size w4 W →
      Calls Tryd.prog 10 #[.pointer (some ⟨w.heap.size + 1, 0, none⟩), .agg #[.string ⟨#[116]⟩, .int .i64 tmx, .slice vax nx vcx]] W fun e w' => e = .returned (.int .i64 21) ∧ Below W.heap.size W w' from
    fun tmx vax nx vcx W hW => check_none ⟨#[116]⟩ tmx vax nx vcx _ _ _ D W (hD ▸ HC4.out.below hW) (by decide) hDn)
  clear hDh hDk hDn hD
  obtain ⟨ta, hta⟩ : ∃ ta : Int, ta = if tm < 0 then -1 - tm else tm := ⟨_, rfl⟩
  have ht3 : 0 ≤ ta := by rw [hta]; split <;> omega
  have ht4 : ta ≤ 9223372036854775807 := by rw [hta]; split <;> omega
  have HTA := Lib.hid hta
  clear hta
  go_upto_if 32 with fail
  go_cut [3] (fun s3 wx => s3 = .int .i64 ta ∧ w4 = wx)
  case first =>
    by_cases htm : tm < 0
    · have HE := Lib.hid (show ta = -1 - tm by rw [HTA.out, if_pos htm])
      go_wp2_with fail
      go_meet
      exact ⟨by rw [HE.out], rfl⟩
    · have HE := Lib.hid (show ta = tm by rw [HTA.out, if_neg htm])
      go_wp2_with fail
      go_meet
      exact ⟨by rw [HE.out], rfl⟩
  case rest =>
    obtain ⟨rfl, rfl⟩ := hcut
    go_wp2_with fail
    obtain ⟨tv, htv⟩ : ∃ tv : Int, tv = ta % 4611686018427387905 := ⟨_, rfl⟩
    rw [← htv]
    have htv0 : 0 ≤ tv := by omega
    have htv1 : tv ≤ 4611686018427387904 := by omega
    clear htv
    obtain ⟨E, hE⟩ : ∃ E, E = w4.heap.size := ⟨_, rfl⟩
    have h0 := heap_alloc_new w4 (Obj.cells #[Value.string ⟨#[84]⟩, Value.int IntKind.i64 tv, Value.slice none 0 0] 33)
    rw [← hE] at h0
    have HV0 := Lib.hid (show EvAt w4 (w4.alloc (Obj.cells #[Value.string ⟨#[84]⟩, Value.int IntKind.i64 tv, Value.slice none 0 0] 33)) E ⟨#[84]⟩ tv none 0 0 [] from
      ⟨by rw [hE]; exact (Below.refl _ _).alloc (Nat.le_refl _) _, by rw [hE]; simp, by simp [World.cell?, h0], by simp [World.cell?, h0], by simp [World.cell?, h0], by simp [World.frozen?, h0], by simp [World.frozen?, h0], ⟨rfl, Or.inl ⟨rfl, rfl⟩⟩⟩)
    clear h0
    rw [← hE]
    have hE1 : E ≤ w4.heap.size := by omega
    have hE2 : w4.heap.size ≤ E := by omega
    have HEE := Lib.hid hE
    clear hE
    obtain ⟨i0, hi0, hz0, hzs1, hzs2⟩ := info_parts Tryd.infoVal
    go_loopw [16] (fun i wr => ∃ (k cq : Nat) (vv : Option Addr), k ≤ m ∧ (k = 0 → vv = none) ∧ i = .int .i64 k ∧ EvAt w4 wr E ⟨#[84]⟩ tv vv k cq (valsL l n s k)) (fun i _ => m - (intOf i).toNat)
    case atStart => exact ⟨0, 0, none, Nat.zero_le _, fun _ => rfl, rfl, HV0.out⟩
    case round =>
      obtain ⟨k, cq, vv, hk, hnz, rfl, hev⟩ := hrel
      have HNZ := Lib.hid hnz
      clear hnz
      have HV := Lib.hid hev
      have hzE := hev.lt
      have u1 := (hev.below.cell (p := ⟨w2.heap.size, 1, none⟩) (by simp; omega)).trans q1
      by_cases hlt : k < m
      · have hkl : k < l.length := by omega
        obtain ⟨b, o, rfl, hac⟩ : ∃ b o, va = some ⟨b, o, none⟩ ∧ ∀ i (h : i < l.length), w4.cell? ⟨b, o + i * 2, none⟩ = some (.string l[i].1) ∧ w4.cell? ⟨b, o + i * 2 + 1, none⟩ = some (.int .i64 l[i].2) := by
          rcases HVA4.out with h | h
          · rw [h] at hkl; simp at hkl
          · exact h
        have a1 := (hac k hkl).2
        have hba := World.block_lt_of_cell? w4 _ a1
        simp only at hba
        have a1 := (hev.below.cell (p := ⟨b, o + k * 2 + 1, none⟩) (by simp; omega)).trans a1
        have t2 := hev.c2
        obtain ⟨ak, hak⟩ : ∃ ak, ak = l[k].2 := ⟨_, rfl⟩
        rw [← hak] at a1
        have HL := Lib.hid (show valsL l n s (k + 1) = valsL l n s k ++ [valueB ak (wrap64 (n + k)) s] by rw [valsL, hak]; simp [List.getD, List.getElem?_eq_getElem hkl])
        clear hac hak hev
        go_wp2_with (first
          | (go_at_call 9; refine (value_any ak _ s _ hs).mono ?_; rintro e w5 ⟨rfl, hb5⟩; obtain ⟨⟨yk, yi, ys, yb⟩, hy⟩ : ∃ x : Val, x = valueB ak (wrap64 (n + k)) s := ⟨_, rfl⟩; rw [← hy]; have HY := Lib.hid hy; clear hy; simp only [Val.v]; have HV5 := Lib.hid ((HV.out.step hb5).step (((Below.refl _ w5).alloc (Nat.le_refl _) (Obj.cells #[Value.int IntKind.i64 yk, Value.int IntKind.i64 yi, Value.string ys, Value.bool yb] 35)).alloc (by simp) (Obj.cells #[Value.int IntKind.i64 yk, Value.int IntKind.i64 yi, Value.string ys, Value.bool yb] 35))); have k5 := ((HV.out.step hb5).step ((Below.refl _ w5).alloc (Nat.le_refl _) (Obj.cells #[Value.int IntKind.i64 yk, Value.int IntKind.i64 yi, Value.string ys, Value.bool yb] 35))).c2; have hz5 := hb5.size)
          | (at_builtin; go_must ((refine wpList_append_lies _ rfl _ _ 31 rfl (E + 1) 35 i0 _ 4 40 Tryd.underlying31 hi0 hz0 hzs1 hzs2 rfl (by omega) (.slice vv k cq) k (valCells (valsL l n s k)) rfl HV5.out.own ⟨_, 0, none⟩ 1 1 [.int .i64 yk, .int .i64 yi, .string ys, .bool yb] rfl rfl (World.news_of_block (cs := #[.int .i64 yk, .int .i64 yi, .string ys, .bool yb]) (t := 35) (fr := (0, 0)) (heap_alloc_new2 _ _ _)) (by simp [Value.oneCell']) (by omega) (by unfold maxLen; omega) (by omega) (by simp; omega) _ rfl ?_; intro g2 cap2 w7 hown7 hgrow7 hat7 hlt7; obtain ⟨x0, x1, x2, y1, y2, hbw7, hlw7⟩ := HV5.out.far hgrow7; have HBW7 := Lib.hid hbw7; clear hbw7))))
        go_roundw
        case rel =>
          refine ⟨k + 1, cap2, some ⟨g2, 0, none⟩, by omega, fun h => absurd h (Nat.succ_ne_zero k), by go_num, ?_⟩
          refine EvAt.next x0 x1 x2 y1 y2 HBW7.out hlw7 ?_
          rw [HL.out, ← HY.out]
          simpa [valCells, Val.cells] using hown7
        case measure => simp [intOf]; omega
      · obtain rfl : m = k := by omega
        obtain ⟨vs, hvs⟩ : ∃ vs, vs = valsL l n s m := ⟨_, rfl⟩
        rw [← hvs] at hev
        have HVL := Lib.hid (show vs.length = m by rw [hvs, valsL_length])
        have HST := Lib.hid (show ∀ v ∈ vs, v.str.size ≤ 256 by rw [hvs]; exact vals_str _ _ _ _)
        have HFV := Lib.hid (show valsFault l vs = 0 by
          rw [hvs]
          refine valsFault_all l _ (fun i h1 h2 => ?_)
          have := vals_fine l n s HKI.out i h1 (by rw [valsL_length]; exact h1)
          simp only [HLL.out] at this
          exact this)
        have HVS := Lib.hid hvs
        have HEV := Lib.hid hev
        have t0 := hev.c0
        have t1 := hev.c1
        have t2 := hev.c2
        have hvv := (owned_vals HVL.out hev.own).2
        clear HV hvs hev
        have HXE := Lib.hid (fun (W : World) (h : Below E w4 W) => (show Below w4.heap.size w4 W from h.mono hE2))
        go_wp2_with fail
        refine (HCK.out tv vs vv m cq _ (HXE.out _ HEV.out.below) (owned_vals HVL.out HEV.out.own).1 HVL.out HST.out).mono ?_
        rintro e w5 ⟨rfl, hb5⟩
        rw [show eventFault l tv vs = 0 from by rw [eventFault, if_neg (by omega), if_pos (by rw [HVL.out, HLL.out]), HFV.out]]
        have HEV5 := Lib.hid (HEV.out.step hb5)
        have t1 := HEV5.out.c1
        have t2 := HEV5.out.c2
        clear hb5
        go_wp2_with fail
        refine (HNO.out tv vv m cq _ (HXE.out _ HEV5.out.below)).mono ?_
        rintro e w6 ⟨rfl, hb6⟩
        have HEV6 := Lib.hid (HEV5.out.step hb6)
        have t0 := HEV6.out.c0
        have t1 := HEV6.out.c1
        have t2 := HEV6.out.c2
        have f1 := HEV6.out.f1
        clear hb6
        go_wp2_with fail
        have HEV7 := Lib.hid (HEV6.out.time (-1 - tv))
        refine (HCK.out (-1 - tv) vs vv m cq _ (HXE.out _ HEV7.out.below) (owned_vals HVL.out HEV7.out.own).1 HVL.out HST.out).mono ?_
        rintro e w7 ⟨rfl, hb7⟩
        rw [show eventFault l (-1 - tv) vs = 23 from by rw [eventFault, if_pos (Or.inl (by omega))]]
        have HEV8 := Lib.hid (HEV7.out.step hb7)
        have t1 := HEV8.out.c1
        have t2 := HEV8.out.c2
        have t0 := HEV8.out.c0
        have f1 := HEV8.out.f1
        clear hb7
        go_wp2_with fail
        have HEV9 := Lib.hid (HEV8.out.time 4611686018427387905)
        refine (HCK.out 4611686018427387905 vs vv m cq _ (HXE.out _ HEV9.out.below) (owned_vals HVL.out HEV9.out.own).1 HVL.out HST.out).mono ?_
        rintro e w8 ⟨rfl, hb8⟩
        rw [show eventFault l 4611686018427387905 vs = 23 from by rw [eventFault, if_pos (Or.inr (by omega))]]
        have HEV10 := Lib.hid (HEV9.out.step hb8)
        have t1 := HEV10.out.c1
        have t2 := HEV10.out.c2
        have t0 := HEV10.out.c0
        have f1 := HEV10.out.f1
        clear hb8
        obtain ⟨W9, hW9⟩ : ∃ W9, W9 = w8.setCell ⟨E, 1, none⟩ (.int .i64 0) := ⟨_, rfl⟩
        have HEV11 := HEV10.out.time 0
        rw [← hW9] at HEV11
        have HEV11 := Lib.hid HEV11
        have HW9 := Lib.hid hW9
        clear hW9
        have HFIN := Lib.hid (fun (W : World) (h : Below E w4 W) => (show Below w.heap.size w W from HB4.out.trans ((HXE.out W h).mono (by omega))))
        rcases owned_case HEV11.out.own with ⟨rfl, rfl, rfl⟩ | ⟨g0, rfl⟩
        · go_wp2_with (first | (at_builtin; rw [← HW9.out]; go_must (refine wpList_append_own_none rfl _ _ 31 rfl W9.heap.size 35 i0 4 Tryd.underlying31 hi0 (.slice none 0 0) 0 [] rfl (World.ownsRow_nil _ _ _ _) rfl ?_)))
          refine (HCK.out 0 [⟨1, 0, ⟨#[]⟩, false⟩] _ 1 _ _ (HXE.out _ (HEV11.out.below.trans (((((Below.refl W9.heap.size W9).alloc (Nat.le_refl _) _).alloc (by simp) _).drew).mono (Nat.le_of_lt HEV11.out.lt)))) (Or.inr ⟨_, 0, rfl, ?_⟩) rfl ?_).mono ?_
          · intro i hi
            have hi0 : i = 0 := by simpa using hi
            subst hi0
            have hn := heap_alloc_new2 W9 (Obj.cells #[Value.int IntKind.i64 1, Value.int IntKind.i64 0, Value.string { data := #[] }, Value.bool false] 35) (Obj.cells (#[Value.int IntKind.i64 1, Value.int IntKind.i64 0, Value.string { data := #[] }, Value.bool false] ++ Builtin.zeroCells #[Value.int IntKind.i64 0, Value.int IntKind.i64 0, Value.string { data := #[] }, Value.bool false] ((Question.appendCap 1 0 35).cut (W9.tape W9.drawn (Question.appendCap 1 0 35)) - 1)) 35)
            simp only [World.cell?, heap_drew, hn]
            simp
            refine ⟨?_, ?_, ?_, ?_⟩ <;> (rw [Array.getElem?_append_left (by simp)]; rfl)
          · intro v hv
            have hv0 : v = ⟨1, 0, ⟨#[]⟩, false⟩ := by simpa using hv
            subst hv0
            exact Nat.zero_le _
          rintro e w12 ⟨rfl, hb12⟩
          rw [show eventFault l 0 [⟨1, 0, ⟨#[]⟩, false⟩] = 22 from by rw [eventFault, if_neg (by omega), if_neg (by rw [HLL.out]; decide)]]
          have HEV12 := Lib.hid ((HEV11.out.step ((((Below.refl W9.heap.size W9).alloc (Nat.le_refl _) _).alloc (by simp) _).drew)).step hb12)
          have t2 := HEV12.out.c2
          clear hb12
          go_wp2_with fail
          go_ret
          exact ⟨rfl, HFIN.out _ HEV12.out.below⟩
        · have HM0 := Lib.hid (show 0 < m by
            rcases Nat.eq_zero_or_pos m with h | h
            · exact absurd (HNZ.out h) (by simp)
            · exact h)
          have hm0 := HM0.out
          go_wp2_with (first
            | (at_builtin; rw [← HW9.out]; go_must (refine wpList_append_lies _ rfl _ _ 31 rfl W9.heap.size 35 i0 _ 4 40 Tryd.underlying31 hi0 hz0 hzs1 hzs2 rfl (by omega) (.slice none 0 0) 0 [] rfl (World.ownsRow_nil _ _ _ _) ⟨g0, 0, none⟩ m cq (valCells vs) rfl (by rw [valCells_length, HVL.out]) (owned_news HEV11.out.own) (vals_one _) HM0.out (by unfold maxLen; omega) (by omega) (Nat.le_refl _) _ rfl ?_; intro g2 cap2 w10 hown10 hgrow10 hat10 hlt10; rw [Nat.zero_add, List.nil_append] at hown10; have HB10 := Lib.hid ((Below.refl W9.heap.size W9).grown hgrow10 (Nat.le_refl _) (fun k hk => by cases hk)); have HO10 := Lib.hid hown10; clear hgrow10 hown10 hat10))
            | (at_builtin; go_must (have hz10 := HB10.out.size; have hown10 := ownsRow_below HO10.out ((Below.refl w10.heap.size w10).alloc (Nat.le_refl _) (Obj.cells #[Value.int IntKind.i64 1, Value.int IntKind.i64 0, Value.string { data := #[] }, Value.bool false] 35)); refine wpList_append_lies _ rfl _ _ 31 rfl W9.heap.size 35 i0 _ 4 40 Tryd.underlying31 hi0 hz0 hzs1 hzs2 rfl (by omega) (.slice (some ⟨g2, 0, none⟩) m cap2) m (valCells vs) rfl hown10 ⟨_, 0, none⟩ 1 1 [.int .i64 1, .int .i64 0, .string ⟨#[]⟩, .bool false] rfl rfl (World.news_of_block (cs := #[.int .i64 1, .int .i64 0, .string ⟨#[]⟩, .bool false]) (t := 35) (fr := (0, 0)) (heap_alloc_new _ _)) (by simp [Value.oneCell']) (by omega) (by unfold maxLen; omega) (by omega) (by simp; omega) _ rfl ?_; intro g3 cap3 w11 hown11 hgrow11 hat11 hlt11; have HB11 := Lib.hid ((HB10.out.alloc hz10 _).grown hgrow11 (by simp; omega) (fun k hk => by injection hk with hk; subst hk; exact ownsRow_lo HO10.out)); have HO11 := Lib.hid hown11; clear hgrow11 hown11 hat11 hown10)))
          rw [show valCells vs ++ [Value.int IntKind.i64 1, Value.int IntKind.i64 0, Value.string { data := #[] }, Value.bool false] = valCells (vs ++ [⟨1, 0, ⟨#[]⟩, false⟩]) from by simp [valCells, Val.cells]] at HO11
          have HML := Lib.hid (show (vs ++ [(⟨1, 0, ⟨#[]⟩, false⟩ : Val)]).length = m + 1 by rw [List.length_append, HVL.out]; rfl)
          obtain ⟨vm, hvm⟩ : ∃ vm, vm = vs ++ [(⟨1, 0, ⟨#[]⟩, false⟩ : Val)] := ⟨_, rfl⟩
          rw [← hvm] at HO11 HML
          have HMS := Lib.hid (show ∀ v ∈ vm, v.str.size ≤ 256 by
            intro v hv
            rw [hvm, List.mem_append] at hv
            rcases hv with hv | hv
            · exact HST.out v hv
            · have hv0 : v = ⟨1, 0, ⟨#[]⟩, false⟩ := by simpa using hv
              subst hv0
              exact Nat.zero_le _)
          clear hvm
          have HEV12 := Lib.hid (HEV11.out.step HB11.out)
          have hmv := owned_vals HML.out HO11.out
          have hcap3 := hmv.2
          refine (HCK.out 0 vm _ (m + 1) _ _ (HXE.out _ HEV12.out.below) hmv.1 HML.out HMS.out).mono ?_
          clear hmv
          rintro e w12 ⟨rfl, hb12⟩
          rw [show eventFault l 0 vm = 22 from by rw [eventFault, if_neg (by omega), if_neg (by rw [HML.out, HLL.out]; omega)]]
          have HEV13 := Lib.hid (HEV12.out.step hb12)
          have HO12 := Lib.hid (ownsRow_below HO11.out hb12)
          have t2 := HEV13.out.c2
          have t0 := HEV13.out.c0
          have t1 := HEV13.out.c1
          clear hb12
          go_wp2_with fail
          have htk := List.length_take (i := m - 1) (l := vm)
          have htk : (vm.take (m - 1)).length = m - 1 := by rw [htk, HML.out]; omega
          refine (HCK.out 0 (vm.take (m - 1)) _ (m - 1) _ _ (HXE.out _ HEV13.out.below) ((owned_vals HML.out HO12.out).1.take _) htk (fun v hv => HMS.out v (List.mem_of_mem_take hv))).mono ?_
          rintro e w13 ⟨rfl, hb13⟩
          rw [show eventFault l 0 (vm.take (m - 1)) = 22 from by rw [eventFault, if_neg (by omega), if_neg (by rw [htk, HLL.out]; omega)]]
          clear htk
          have HEV14 := Lib.hid (HEV13.out.step hb13)
          have t2 := HEV14.out.c2
          have t0 := HEV14.out.c0
          have t1 := HEV14.out.c1
          clear hb13
          go_wp2_with fail
          refine (part_any at' m w13 (by omega) (by omega)).mono ?_
          rintro e w14 ⟨rfl, rfl⟩
          obtain ⟨j, hj⟩ : ∃ j : Nat, j = (at' % (m : Int)).toNat := ⟨_, rfl⟩
          have hj1 := Int.emod_nonneg at' (b := (m : Int)) (by omega)
          have hj2 := Int.emod_lt_of_pos at' (b := (m : Int)) (by omega)
          rw [show at' % (m : Int) = (j : Int) from by omega]
          have hjm : j < m := by omega
          have hjl : j < l.length := by omega
          clear hj hj1 hj2
          obtain ⟨kj, hkj⟩ : ∃ kj, kj = l[j].2 := ⟨_, rfl⟩
          have HKJ := Lib.hid hkj
          have hk3 := HKI.out l[j] (List.getElem_mem hjl)
          rw [← hkj] at hk3
          have hjv : j < vs.length := by rw [HVL.out]; exact hjm
          have HVK := Lib.hid (show vs[j].kind = kj by
            have h := vals_kind l n s HKI.out j hjl (by rw [valsL_length]; exact hjl)
            simp only [HLL.out] at h
            rw [← hkj] at h
            rw [← h]
            congr 1
            simp only [HVS.out])
          clear hkj
          have hc := valCells_get vs j hjv
          have k0 := owned_cell HEV14.out.own (j * 4) _ hc.1
          rw [HVK.out] at k0
          cases hwr : ((wrong.toNat : Int) % 2 == 0)
          · cases hk1 : (kj == 1)
            · have k1 := owned_cell HEV14.out.own (j * 4 + 1) _ hc.2.1
              have q0 := owned_free HEV14.out.own (j * 4 + 1)
              obtain ⟨W15, hW15⟩ : ∃ W15, W15 = w13.setCell ⟨g0, j * 4 + 1, none⟩ (Value.int IntKind.i64 5) := ⟨_, rfl⟩
              have HW := Lib.hid hW15
              have hge := ownsRow_lo HEV14.out.own
              have u0 : (w13.setCell ⟨g0, j * 4 + 1, none⟩ (Value.int IntKind.i64 5)).cell? ⟨E, 0, none⟩ = _ := (World.cell?_setCell_other _ _ _ _ (addr_ne2 (by omega))).trans t0
              have u1 : (w13.setCell ⟨g0, j * 4 + 1, none⟩ (Value.int IntKind.i64 5)).cell? ⟨E, 1, none⟩ = _ := (World.cell?_setCell_other _ _ _ _ (addr_ne2 (by omega))).trans t1
              have u2 : (w13.setCell ⟨g0, j * 4 + 1, none⟩ (Value.int IntKind.i64 5)).cell? ⟨E, 2, none⟩ = _ := (World.cell?_setCell_other _ _ _ _ (addr_ne2 (by omega))).trans t2
              have HVA := Lib.hid (show ValsAt W15 (some ⟨g0, 0, none⟩) (vs.set j { vs[j] with int := 5 }) by
                rw [hW15]
                exact vals_set HVL.out HEV14.out.own j { vs[j] with int := 5 } (fun q hq => World.cell?_setCell_other _ _ _ _ (addr_ne (by omega))) ((World.cell?_setCell_other _ _ _ _ (addr_ne (by omega))).trans (owned_cell HEV14.out.own _ _ hc.1)) (World.cell?_setCell_same _ _ _ k1) ((World.cell?_setCell_other _ _ _ _ (addr_ne (by omega))).trans (owned_cell HEV14.out.own _ _ hc.2.2.1)) ((World.cell?_setCell_other _ _ _ _ (addr_ne (by omega))).trans (owned_cell HEV14.out.own _ _ hc.2.2.2)))
              have HBW := Lib.hid (show Below E w4 W15 by rw [hW15]; exact HEV14.out.below.setCell (by simp; omega) _)
              clear hc hW15
              go_wp2_with fail
              rw [← HW.out]
              refine (HCK.out 0 (vs.set j { vs[j] with int := 5 }) _ m cq _ (HXE.out _ HBW.out) HVA.out (by rw [List.length_set, HVL.out]) (set_str HST.out (by first | exact HST.out vs[j] (List.getElem_mem hjv) | exact (show (⟨#[120]⟩ : ByteArray).size ≤ 256 from by decide)))).mono ?_
              rintro e w16 ⟨rfl, hb16⟩
              rw [show eventFault l 0 (vs.set j { vs[j] with int := 5 }) = 12 from by
                rw [eventFault, if_neg (by omega), if_pos (by rw [List.length_set, HVL.out, HLL.out])]
                have h := vals_spoilt l n s HKI.out j hjl { vs[j] with int := 5 } 12 (by decide) (by
                  rw [← HKJ.out]
                  unfold valFault
                  rw [if_pos HVK.out, if_neg ?_]
                  unfold validB
                  rw [HVK.out]
                  have hkk : kj ≠ 1 := by simpa using hk1
                  have h23 : kj = 2 ∨ kj = 3 := by omega
                  rcases h23 with h | h <;> simp [h])
                rw [HLL.out, ← HVS.out] at h
                exact h]
              have HB16 := Lib.hid (HFIN.out _ (HBW.out.trans (hb16.mono (by have := HBW.out.size; omega))))
              clear hb16
              go_wp2_with fail
              go_ret
              exact ⟨rfl, HB16.out⟩
            · have k1 := owned_cell HEV14.out.own (j * 4 + 2) _ hc.2.2.1
              have q0 := owned_free HEV14.out.own (j * 4 + 2)
              obtain ⟨W15, hW15⟩ : ∃ W15, W15 = w13.setCell ⟨g0, j * 4 + 2, none⟩ (Value.string ⟨#[120]⟩) := ⟨_, rfl⟩
              have HW := Lib.hid hW15
              have hge := ownsRow_lo HEV14.out.own
              have u0 : (w13.setCell ⟨g0, j * 4 + 2, none⟩ (Value.string ⟨#[120]⟩)).cell? ⟨E, 0, none⟩ = _ := (World.cell?_setCell_other _ _ _ _ (addr_ne2 (by omega))).trans t0
              have u1 : (w13.setCell ⟨g0, j * 4 + 2, none⟩ (Value.string ⟨#[120]⟩)).cell? ⟨E, 1, none⟩ = _ := (World.cell?_setCell_other _ _ _ _ (addr_ne2 (by omega))).trans t1
              have u2 : (w13.setCell ⟨g0, j * 4 + 2, none⟩ (Value.string ⟨#[120]⟩)).cell? ⟨E, 2, none⟩ = _ := (World.cell?_setCell_other _ _ _ _ (addr_ne2 (by omega))).trans t2
              have HVA := Lib.hid (show ValsAt W15 (some ⟨g0, 0, none⟩) (vs.set j { vs[j] with str := ⟨#[120]⟩ }) by
                rw [hW15]
                exact vals_set HVL.out HEV14.out.own j { vs[j] with str := ⟨#[120]⟩ } (fun q hq => World.cell?_setCell_other _ _ _ _ (addr_ne (by omega))) ((World.cell?_setCell_other _ _ _ _ (addr_ne (by omega))).trans (owned_cell HEV14.out.own _ _ hc.1)) ((World.cell?_setCell_other _ _ _ _ (addr_ne (by omega))).trans (owned_cell HEV14.out.own _ _ hc.2.1)) (World.cell?_setCell_same _ _ _ k1) ((World.cell?_setCell_other _ _ _ _ (addr_ne (by omega))).trans (owned_cell HEV14.out.own _ _ hc.2.2.2)))
              have HBW := Lib.hid (show Below E w4 W15 by rw [hW15]; exact HEV14.out.below.setCell (by simp; omega) _)
              clear hc hW15
              go_wp2_with fail
              rw [← HW.out]
              refine (HCK.out 0 (vs.set j { vs[j] with str := ⟨#[120]⟩ }) _ m cq _ (HXE.out _ HBW.out) HVA.out (by rw [List.length_set, HVL.out]) (set_str HST.out (by first | exact HST.out vs[j] (List.getElem_mem hjv) | exact (show (⟨#[120]⟩ : ByteArray).size ≤ 256 from by decide)))).mono ?_
              rintro e w16 ⟨rfl, hb16⟩
              rw [show eventFault l 0 (vs.set j { vs[j] with str := ⟨#[120]⟩ }) = 12 from by
                rw [eventFault, if_neg (by omega), if_pos (by rw [List.length_set, HVL.out, HLL.out])]
                have h := vals_spoilt l n s HKI.out j hjl { vs[j] with str := ⟨#[120]⟩ } 12 (by decide) (by
                  rw [← HKJ.out]
                  unfold valFault
                  rw [if_pos HVK.out, if_neg ?_]
                  unfold validB
                  rw [HVK.out]
                  have hkk : kj = 1 := by simpa using hk1
                  simp [hkk])
                rw [HLL.out, ← HVS.out] at h
                exact h]
              have HB16 := Lib.hid (HFIN.out _ (HBW.out.trans (hb16.mono (by have := HBW.out.size; omega))))
              clear hb16
              go_wp2_with fail
              go_ret
              exact ⟨rfl, HB16.out⟩
          · clear hc
            obtain ⟨kx, hkx⟩ : ∃ kx, kx = IntKind.i64.wrap (1 + (IntKind.i64.wrap (kj + (IntKind.i64.wrap ((IntKind.i64.wrap (wrong.toNat : Int)).tdiv 2)).tmod 2)).tmod 3) := ⟨_, rfl⟩
            have HX := Lib.hid (show 1 ≤ kx ∧ kx ≤ 3 ∧ kx ≠ kj by
              rw [hkx]
              have := wrong.toNat_lt
              exact other_kind _ _ (by omega) (by omega) hk3.1 hk3.2)
            have HKX := Lib.hid hkx
            clear hkx
            obtain ⟨⟨yk, yi, ys, yb⟩, hy⟩ : ∃ x : Val, x = valueB kx 0 ⟨#[]⟩ := ⟨_, rfl⟩
            have HYK := Lib.hid (show yk = kx by
              have h := valueB_kind kx 0 ⟨#[]⟩ HX.out.1 HX.out.2.1
              rw [← hy] at h
              exact h)
            have HYS := Lib.hid (show ys.size ≤ 256 by
              have h := valueB_str kx 0 ⟨#[]⟩
              rw [← hy] at h
              exact h)
            have HY := Lib.hid hy
            clear hy
            have hge := ownsRow_lo HEV14.out.own
            go_wp2_with fail
            go_region_with (go_at_call 9; go_must (refine (value_any _ 0 ⟨#[]⟩ _ (by decide)).mono ?_; rintro e w15 ⟨rfl, hb15⟩; rw [← HKX.out, ← HY.out]; simp only [Val.v]; have HEV15 := Lib.hid ((HEV14.out.step (Below.refl w13.heap.size w13).drew).step hb15); have t2 := HEV15.out.c2; have t1 := HEV15.out.c1; have t0 := HEV15.out.c0; have hc := valCells_get vs j hjv; have k0 := owned_cell HEV15.out.own (j * 4) _ hc.1; have k1 := owned_cell HEV15.out.own (j * 4 + 1) _ hc.2.1; have k2 := owned_cell HEV15.out.own (j * 4 + 2) _ hc.2.2.1; have k3 := owned_cell HEV15.out.own (j * 4 + 3) _ hc.2.2.2; have q0 := owned_free HEV15.out.own (j * 4); have q1 := owned_free HEV15.out.own (j * 4 + 1); have q2 := owned_free HEV15.out.own (j * 4 + 2); have q3 := owned_free HEV15.out.own (j * 4 + 3); clear hc))
            all_goals
              obtain ⟨W16, hW16⟩ : ∃ W16, W16 = storeV w15 g0 j ⟨yk, yi, ys, yb⟩ := ⟨_, rfl⟩
              have HVA := Lib.hid (show ValsAt W16 (some ⟨g0, 0, none⟩) (vs.set j ⟨yk, yi, ys, yb⟩) by
                rw [hW16]
                exact storeV_vals HVL.out HEV15.out.own j ⟨yk, yi, ys, yb⟩ hjv)
              have HBW := Lib.hid (show Below E w4 W16 by rw [hW16]; exact storeV_below HEV15.out.below (by omega))
              have u0 : W16.cell? ⟨E, 0, none⟩ = some (.string ⟨#[84]⟩) := by rw [hW16]; exact (storeV_cell (by omega)).trans t0
              have u1 : W16.cell? ⟨E, 1, none⟩ = some (.int .i64 0) := by rw [hW16]; exact (storeV_cell (by omega)).trans t1
              have u2 : W16.cell? ⟨E, 2, none⟩ = some (.slice (some ⟨g0, 0, none⟩) m cq) := by rw [hW16]; exact (storeV_cell (by omega)).trans t2
              unfold storeV at hW16
              simp only at hW16
              rw [← hW16]
              clear hW16 k0 k1 k2 k3 q0 q1 q2 q3
              go_wp2_with fail
              refine (HCK.out 0 (vs.set j ⟨yk, yi, ys, yb⟩) _ m cq _ (HXE.out _ HBW.out) HVA.out (by rw [List.length_set, HVL.out]) (set_str HST.out HYS.out)).mono ?_
              rintro e w16 ⟨rfl, hb16⟩
              rw [show eventFault l 0 (vs.set j ⟨yk, yi, ys, yb⟩) = 10 from by
                rw [eventFault, if_neg (by omega), if_pos (by rw [List.length_set, HVL.out, HLL.out])]
                have h := vals_spoilt l n s HKI.out j hjl ⟨yk, yi, ys, yb⟩ 10 (by decide) (by
                  rw [← HKJ.out]
                  unfold valFault
                  rw [if_neg (by simp only; rw [HYK.out]; exact HX.out.2.2)])
                rw [HLL.out, ← HVS.out] at h
                exact h]
              have HB16 := Lib.hid (HFIN.out _ (HBW.out.trans (hb16.mono (by have := HBW.out.size; omega))))
              clear hb16
              go_wp2_with fail
              go_ret
              exact ⟨rfl, HB16.out⟩
end Go.Proofs.YtepiegbmcaggdaaDoor
