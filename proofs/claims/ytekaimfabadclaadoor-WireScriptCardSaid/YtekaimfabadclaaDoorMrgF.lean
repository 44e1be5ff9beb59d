/- Texts put together: Shape, Ran, Alone, Copied, AloneWalk, Meant, Agree, Weight, EventW. -/
import Derived.Test.YtekaimfabadclaaDoorMrgA
import Derived.Test.YtekaimfabadclaaDoorMrgB
import Derived.Test.YtekaimfabadclaaDoorMrgC
import Derived.Test.YtekaimfabadclaaDoorMrgD
import Derived.Test.YtekaimfabadclaaDoorMrgE
/- A step of a script: its lists keep their shape, whatever is written over in place. -/
namespace Go.Proofs.YtekaimfabadclaaDoor
open Go Go.RowKit

def i64r (z : Int) : Prop := -9223372036854775808 ≤ z ∧ z ≤ 9223372036854775807
theorem i64r_wrap (z : Int) : i64r (IntKind.i64.wrap z) := by
  unfold i64r
  simp [IntKind.wrap, IntKind.bits, IntKind.signed]
  omega
def isU (v : Value) : Prop := ∃ c : UInt8, v = .int .u8 (c.toNat : Int)
def isI (v : Value) : Prop := ∃ z, v = .int .i64 z ∧ i64r z
def isS (M : Nat) (v : Value) : Prop := ∃ s : ByteArray, v = .string s ∧ s.size ≤ M
def isB (v : Value) : Prop := ∃ b, v = .bool b
/-- A cell that is another one, but of its kind. -/
def Alike (M : Nat) (v v' : Value) : Prop := v' = v ∨ (isU v ∧ isU v') ∨ (isI v ∧ isI v') ∨ ((∃ s, v = .string s) ∧ isS M v') ∨ (isB v ∧ isB v')
/-- What may have become of memory: what was there keeps its shape. -/
def WrOk (M : Nat) (w w' : World) : Prop := w.heap.size ≤ w'.heap.size ∧ ∀ b o, b < w.heap.size → w'.frozen? ⟨b, o, none⟩ = w.frozen? ⟨b, o, none⟩ ∧ ∀ v, w.cell? ⟨b, o, none⟩ = some v → ∃ v', w'.cell? ⟨b, o, none⟩ = some v' ∧ Alike M v v'
theorem Alike.trans {M : Nat} {a b c : Value} (h : Alike M a b) (k : Alike M b c) : Alike M a c := by
  rcases h with rfl | ⟨h1, h2⟩ | ⟨h1, h2⟩ | ⟨h1, h2⟩ | ⟨h1, h2⟩
  · exact k
  · obtain ⟨y, rfl⟩ := h2
    rcases k with rfl | ⟨_, k⟩ | ⟨⟨_, e, _⟩, _⟩ | ⟨⟨_, e⟩, _⟩ | ⟨⟨_, e⟩, _⟩
    · exact Or.inr (Or.inl ⟨h1, ⟨y, rfl⟩⟩)
    · exact Or.inr (Or.inl ⟨h1, k⟩)
    · cases e
    · cases e
    · cases e
  · obtain ⟨y, rfl, hy⟩ := h2
    rcases k with rfl | ⟨⟨_, e⟩, _⟩ | ⟨_, k⟩ | ⟨⟨_, e⟩, _⟩ | ⟨⟨_, e⟩, _⟩
    · exact Or.inr (Or.inr (Or.inl ⟨h1, ⟨y, rfl, hy⟩⟩))
    · cases e
    · exact Or.inr (Or.inr (Or.inl ⟨h1, k⟩))
    · cases e
    · cases e
  · obtain ⟨y, rfl, hy⟩ := h2
    rcases k with rfl | ⟨⟨_, e⟩, _⟩ | ⟨⟨_, e, _⟩, _⟩ | ⟨_, k⟩ | ⟨⟨_, e⟩, _⟩
    · exact Or.inr (Or.inr (Or.inr (Or.inl ⟨h1, ⟨y, rfl, hy⟩⟩)))
    · cases e
    · cases e
    · exact Or.inr (Or.inr (Or.inr (Or.inl ⟨h1, k⟩)))
    · cases e
  · obtain ⟨y, rfl⟩ := h2
    rcases k with rfl | ⟨⟨_, e⟩, _⟩ | ⟨⟨_, e, _⟩, _⟩ | ⟨⟨_, e⟩, _⟩ | ⟨_, k⟩
    · exact Or.inr (Or.inr (Or.inr (Or.inr ⟨h1, ⟨y, rfl⟩⟩)))
    · cases e
    · cases e
    · cases e
    · exact Or.inr (Or.inr (Or.inr (Or.inr ⟨h1, k⟩)))
theorem WrOk.refl (M : Nat) (w : World) : WrOk M w w := ⟨Nat.le_refl _, fun b o _ => ⟨rfl, fun v h => ⟨v, h, Or.inl rfl⟩⟩⟩
theorem WrOk.trans {M : Nat} {a b c : World} (h : WrOk M a b) (k : WrOk M b c) : WrOk M a c :=
  ⟨Nat.le_trans h.1 k.1, fun g o hg => ⟨((k.2 g o (Nat.lt_of_lt_of_le hg h.1)).1).trans (h.2 g o hg).1, fun v hv => by
    obtain ⟨v1, h1, h2⟩ := (h.2 g o hg).2 v hv
    obtain ⟨v2, k1, k2⟩ := (k.2 g o (Nat.lt_of_lt_of_le hg h.1)).2 v1 h1
    exact ⟨v2, k1, h2.trans k2⟩⟩⟩
theorem WrOk.below {M : Nat} {w w' : World} (h : Below w.heap.size w w') : WrOk M w w' :=
  ⟨h.size, fun b o hb => ⟨h.frozen (p := ⟨b, o, none⟩) hb, fun v hv => ⟨v, (h.cell (p := ⟨b, o, none⟩) hb).trans hv, Or.inl rfl⟩⟩⟩
theorem WrOk.set {M : Nat} {w : World} {b o : Nat} {u u' : Value} (hu : w.cell? ⟨b, o, none⟩ = some u) (ha : Alike M u u') : WrOk M w (w.setCell ⟨b, o, none⟩ u') := by
  refine ⟨by simp [World.setCell], fun b2 o2 hb2 => ⟨World.frozen?_setCell _ _ _ _, fun v hv => ?_⟩⟩
  by_cases e : (⟨b, o, none⟩ : Addr) = ⟨b2, o2, none⟩
  · rw [← e] at hv ⊢
    rw [hu] at hv
    cases hv
    exact ⟨u', World.cell?_setCell_same _ _ _ hu, ha⟩
  · exact ⟨v, (World.cell?_setCell_other _ _ _ _ e).trans hv, Or.inl rfl⟩
theorem WrOk.cell {M : Nat} {w w' : World} (h : WrOk M w w') {b o : Nat} {v : Value} (hv : w.cell? ⟨b, o, none⟩ = some v) : ∃ v', w'.cell? ⟨b, o, none⟩ = some v' ∧ Alike M v v' := (h.2 b o (World.block_lt_of_cell? w _ hv)).2 v hv
theorem alike_u {M : Nat} {v v' : Value} (h : Alike M v v') (hv : isU v) : isU v' := by
  rcases h with rfl | ⟨_, k⟩ | ⟨⟨_, e, _⟩, _⟩ | ⟨⟨_, e⟩, _⟩ | ⟨⟨_, e⟩, _⟩
  · exact hv
  · exact k
  all_goals (obtain ⟨c, rfl⟩ := hv; cases e)
theorem alike_i {M : Nat} {v v' : Value} (h : Alike M v v') (hv : isI v) : isI v' := by
  rcases h with rfl | ⟨⟨_, e⟩, _⟩ | ⟨_, k⟩ | ⟨⟨_, e⟩, _⟩ | ⟨⟨_, e⟩, _⟩
  · exact hv
  · obtain ⟨c, rfl, _⟩ := hv; cases e
  · exact k
  all_goals (obtain ⟨c, rfl, _⟩ := hv; cases e)
theorem alike_k {M : Nat} {v v' : Value} (h : Alike M v v') (hv : ∃ z, v = .int .i64 z) : ∃ z, v' = .int .i64 z := by
  rcases h with rfl | ⟨⟨_, e⟩, _⟩ | ⟨_, ⟨z, e, _⟩⟩ | ⟨⟨_, e⟩, _⟩ | ⟨⟨_, e⟩, _⟩
  · exact hv
  · obtain ⟨c, rfl⟩ := hv; cases e
  · exact ⟨z, e⟩
  all_goals (obtain ⟨c, rfl⟩ := hv; cases e)
theorem alike_s {M K : Nat} {v v' : Value} (h : Alike M v v') (hv : isS K v) (hK : K ≤ M) : isS M v' := by
  rcases h with rfl | ⟨⟨_, e⟩, _⟩ | ⟨⟨_, e, _⟩, _⟩ | ⟨_, k⟩ | ⟨⟨_, e⟩, _⟩
  · obtain ⟨s, e, hs⟩ := hv; exact ⟨s, e, Nat.le_trans hs hK⟩
  · obtain ⟨c, rfl, _⟩ := hv; cases e
  · obtain ⟨c, rfl, _⟩ := hv; cases e
  · exact k
  · obtain ⟨c, rfl, _⟩ := hv; cases e
theorem alike_b {M : Nat} {v v' : Value} (h : Alike M v v') (hv : isB v) : isB v' := by
  rcases h with rfl | ⟨⟨_, e⟩, _⟩ | ⟨⟨_, e, _⟩, _⟩ | ⟨⟨_, e⟩, _⟩ | ⟨_, k⟩
  · exact hv
  · obtain ⟨c, rfl⟩ := hv; cases e
  · obtain ⟨c, rfl⟩ := hv; cases e
  · obtain ⟨c, rfl⟩ := hv; cases e
  · exact k
theorem alike_slice {M : Nat} {a : Option Addr} {n c : Nat} {v' : Value} (h : Alike M (.slice a n c) v') : v' = .slice a n c := by
  rcases h with e | ⟨⟨_, e⟩, _⟩ | ⟨⟨_, e, _⟩, _⟩ | ⟨⟨_, e⟩, _⟩ | ⟨⟨_, e⟩, _⟩
  · exact e
  all_goals cases e

/-- Bytes, values, events that may be written over: their shape. -/
def BySh (P : Nat → Prop) (w : World) (ao : Option Addr) (n : Nat) : Prop :=
  n = 0 ∨ ∃ b o, ao = some ⟨b, o, none⟩ ∧ P b ∧ ∀ i, i < n → (∃ v, w.cell? ⟨b, o + i, none⟩ = some v ∧ isU v) ∧ w.frozen? ⟨b, o + i, none⟩ = false
structure ValSh (M : Nat) (w : World) (b o : Nat) : Prop where
  c0 : ∃ v, w.cell? ⟨b, o, none⟩ = some v ∧ ∃ z, v = .int .i64 z
  c1 : ∃ v, w.cell? ⟨b, o + 1, none⟩ = some v ∧ isI v
  c2 : ∃ v, w.cell? ⟨b, o + 2, none⟩ = some v ∧ isS M v
  c3 : ∃ v, w.cell? ⟨b, o + 3, none⟩ = some v ∧ isB v
  f : ∀ j, j < 4 → w.frozen? ⟨b, o + j, none⟩ = false
def VaSh (P : Nat → Prop) (M : Nat) (w : World) (ao : Option Addr) (n : Nat) : Prop :=
  n = 0 ∨ ∃ b o, ao = some ⟨b, o, none⟩ ∧ P b ∧ ∀ i, i < n → ValSh M w b (o + i * 4)
structure EvtSh (P : Nat → Prop) (M : Nat) (w : World) (b o : Nat) : Prop where
  c0 : ∃ v, w.cell? ⟨b, o, none⟩ = some v ∧ isS M v
  c1 : ∃ v, w.cell? ⟨b, o + 1, none⟩ = some v ∧ isI v
  c2 : ∃ va n c, w.cell? ⟨b, o + 2, none⟩ = some (.slice va n c) ∧ VaSh P M w va n ∧ n ≤ 3518437208780 ∧ (va = none → c = 0 ∧ n = 0)
  f : ∀ j, j < 3 → w.frozen? ⟨b, o + j, none⟩ = false
def EvSh (P : Nat → Prop) (M : Nat) (w : World) (ao : Option Addr) (n : Nat) : Prop :=
  n = 0 ∨ ∃ b o, ao = some ⟨b, o, none⟩ ∧ P b ∧ ∀ i, i < n → EvtSh (fun p => P p ∧ p ≠ b) M w b (o + i * 3)
theorem BySh.wr {P : Nat → Prop} {M : Nat} {w w' : World} {ao : Option Addr} {n : Nat} (h : BySh P w ao n) (hw : WrOk M w w') : BySh P w' ao n := by
  rcases h with h | ⟨b, o, e, hp, h⟩
  · exact Or.inl h
  · refine Or.inr ⟨b, o, e, hp, fun i hi => ?_⟩
    obtain ⟨⟨v, hv, hu⟩, hf⟩ := h i hi
    obtain ⟨v', hv', ha⟩ := hw.cell hv
    exact ⟨⟨v', hv', alike_u ha hu⟩, ((hw.2 b (o + i) (World.block_lt_of_cell? w _ hv)).1).trans hf⟩
theorem ValSh.wr {M K : Nat} {w w' : World} {b o : Nat} (h : ValSh K w b o) (hw : WrOk M w w') (hK : K ≤ M) : ValSh M w' b o := by
  obtain ⟨⟨v0, a0, b0⟩, ⟨v1, a1, b1⟩, ⟨v2, a2, b2⟩, ⟨v3, a3, b3⟩, f⟩ := h
  have hl := World.block_lt_of_cell? w _ a0
  simp only at hl
  obtain ⟨u0, d0, e0⟩ := hw.cell a0
  obtain ⟨u1, d1, e1⟩ := hw.cell a1
  obtain ⟨u2, d2, e2⟩ := hw.cell a2
  obtain ⟨u3, d3, e3⟩ := hw.cell a3
  exact ⟨⟨u0, d0, alike_k e0 b0⟩, ⟨u1, d1, alike_i e1 b1⟩, ⟨u2, d2, alike_s e2 b2 hK⟩, ⟨u3, d3, alike_b e3 b3⟩, fun j hj => ((hw.2 b (o + j) hl).1).trans (f j hj)⟩
theorem VaSh.wr {P : Nat → Prop} {M K : Nat} {w w' : World} {ao : Option Addr} {n : Nat} (h : VaSh P K w ao n) (hw : WrOk M w w') (hK : K ≤ M) : VaSh P M w' ao n := by
  rcases h with h | ⟨b, o, e, hp, h⟩
  · exact Or.inl h
  · exact Or.inr ⟨b, o, e, hp, fun i hi => (h i hi).wr hw hK⟩
theorem EvtSh.wr {P : Nat → Prop} {M K : Nat} {w w' : World} {b o : Nat} (h : EvtSh P K w b o) (hw : WrOk M w w') (hK : K ≤ M) : EvtSh P M w' b o := by
  obtain ⟨⟨v0, a0, b0⟩, ⟨v1, a1, b1⟩, ⟨va, n, c, a2, b2, b3⟩, f⟩ := h
  have hl := World.block_lt_of_cell? w _ a0
  simp only at hl
  obtain ⟨u0, d0, e0⟩ := hw.cell a0
  obtain ⟨u1, d1, e1⟩ := hw.cell a1
  obtain ⟨u2, d2, e2⟩ := hw.cell a2
  rw [alike_slice e2] at d2
  exact ⟨⟨u0, d0, alike_s e0 b0 hK⟩, ⟨u1, d1, alike_i e1 b1⟩, ⟨va, n, c, d2, b2.wr hw hK, b3⟩, fun j hj => ((hw.2 b (o + j) hl).1).trans (f j hj)⟩
theorem EvSh.wr {P : Nat → Prop} {M K : Nat} {w w' : World} {ao : Option Addr} {n : Nat} (h : EvSh P K w ao n) (hw : WrOk M w w') (hK : K ≤ M) : EvSh P M w' ao n := by
  rcases h with h | ⟨b, o, e, hp, h⟩
  · exact Or.inl h
  · exact Or.inr ⟨b, o, e, hp, fun i hi => (h i hi).wr hw hK⟩

/-- A step: its call and its arguments. -/
structure OpX where
  kind : Int
  n : Int
  ra : Option Addr
  rl : Nat
  rc : Nat
  ty : ByteArray
  tm : Int
  va : Option Addr
  vl : Nat
  vc : Nat
  ea : Option Addr
  el : Nat
  ec : Nat
def OpX.v (x : OpX) : Value := .agg #[.int .i64 x.kind, .int .i64 x.n, .slice x.ra x.rl x.rc, .string x.ty, .int .i64 x.tm, .slice x.va x.vl x.vc, .slice x.ea x.el x.ec]
/-- Its numbers may be, its lists are not too long. -/
structure OpFit (M : Nat) (x : OpX) : Prop where
  n : i64r x.n
  r : x.rl ≤ x.rc ∧ x.rc ≤ maxLen ∧ x.rl ≤ 150000000000000
  ty : x.ty.size ≤ M
  tm : i64r x.tm
  vl : x.vl ≤ 3518437208780
  el : x.el ≤ 2932031007317 ∧ x.el ≤ x.ec ∧ x.ec ≤ maxLen
  rn : x.ra = none → x.rc = 0 ∧ x.rl = 0
  vn : x.va = none → x.vc = 0 ∧ x.vl = 0
structure XAt (P : Nat → Prop) (M : Nat) (w : World) (x : OpX) : Prop where
  fit : OpFit M x
  by' : BySh P w x.ra x.rl
  va : VaSh P M w x.va x.vl
  ev : EvSh P M w x.ea x.el
theorem XAt.wr {P : Nat → Prop} {M K : Nat} {w w' : World} {x : OpX} (h : XAt P K w x) (hw : WrOk M w w') (hK : K ≤ M) : XAt P M w' x :=
  ⟨⟨h.fit.n, h.fit.r, Nat.le_trans h.fit.ty hK, h.fit.tm, h.fit.vl, h.fit.el, h.fit.rn, h.fit.vn⟩, h.by'.wr hw, h.va.wr hw hK, h.ev.wr hw hK⟩
/-- What is known of an event that is read. -/
structure EvFit (M : Nat) (y : EvX) : Prop where
  vi : ∀ a ∈ y.ev.vals, valIn a
  vl : y.ev.vals.length ≤ 3518437208780
  ty : y.ev.ty.size ≤ M
  tm : i64r y.ev.time
  vs : ∀ a ∈ y.ev.vals, a.str.size ≤ M
  vn : y.va = none → y.cap = 0 ∧ y.ev.vals = []
/-- What its lists hold. -/
structure Reads (M : Nat) (w : World) (x : OpX) (l : List UInt8) (vals : List Val) (es : List EvX) : Prop where
  rb : BytesAt w x.ra l
  rl : l.length = x.rl
  vb : ValsIn w.heap.size w x.va vals
  vl : vals.length = x.vl
  vi : ∀ a ∈ vals, valIn a
  vs : ∀ a ∈ vals, a.str.size ≤ M
  eb : EvsIn w.heap.size w x.ea es
  el : es.length = x.el
  ei : ∀ y ∈ es, EvFit M y
theorem by_read {P : Nat → Prop} {w : World} {ao : Option Addr} {n : Nat} (h : BySh P w ao n) : ∃ l : List UInt8, l.length = n ∧ BytesAt w ao l := by
  rcases h with rfl | ⟨b, o, rfl, _, h⟩
  · exact ⟨[], rfl, Or.inl rfl⟩
  · have each : ∀ i, i < n → ∃ c : UInt8, w.cell? ⟨b, o + i, none⟩ = some (.int .u8 (c.toNat : Int)) := fun i hi => by
      obtain ⟨⟨v, hv, c, rfl⟩, _⟩ := h i hi
      exact ⟨c, hv⟩
    obtain ⟨f, hf⟩ : ∃ f : Nat → UInt8, ∀ i, i < n → w.cell? ⟨b, o + i, none⟩ = some (.int .u8 ((f i).toNat : Int)) :=
      ⟨fun i => if h : i < n then (each i h).choose else 0, fun i hi => by simp only [hi, dif_pos]; exact (each i hi).choose_spec⟩
    refine ⟨(List.range n).map f, by simp, Or.inr ⟨b, o, rfl, fun i hi => ?_⟩⟩
    have hi' : i < n := by simpa using hi
    simpa using hf i hi'
theorem va_read {P : Nat → Prop} {M : Nat} {w : World} {ao : Option Addr} {n : Nat} (h : VaSh P M w ao n) (hM : M ≤ maxLen) : ∃ l : List Val, l.length = n ∧ ValsIn w.heap.size w ao l ∧ ∀ a ∈ l, valIn a ∧ a.str.size ≤ M := by
  rcases h with rfl | ⟨b, o, rfl, _, h⟩
  · exact ⟨[], rfl, Or.inl rfl, by simp⟩
  · have each : ∀ i, i < n → ∃ a : Val, (valIn a ∧ a.str.size ≤ M) ∧ w.cell? ⟨b, o + i * 4, none⟩ = some (.int .i64 a.kind) ∧ w.cell? ⟨b, o + i * 4 + 1, none⟩ = some (.int .i64 a.int) ∧ w.cell? ⟨b, o + i * 4 + 2, none⟩ = some (.string a.str) ∧ w.cell? ⟨b, o + i * 4 + 3, none⟩ = some (.bool a.bool) := fun i hi => by
      obtain ⟨⟨_, a0, z, rfl⟩, ⟨_, a1, z1, rfl, r1⟩, ⟨_, a2, s, rfl, hs⟩, ⟨_, a3, c, rfl⟩, _⟩ := h i hi
      exact ⟨⟨z, z1, s, c⟩, ⟨⟨Nat.le_trans hs hM, r1.1, r1.2⟩, hs⟩, a0, a1, a2, a3⟩
    obtain ⟨f, hf⟩ : ∃ f : Nat → Val, ∀ i, i < n → (valIn (f i) ∧ (f i).str.size ≤ M) ∧ w.cell? ⟨b, o + i * 4, none⟩ = some (.int .i64 (f i).kind) ∧ w.cell? ⟨b, o + i * 4 + 1, none⟩ = some (.int .i64 (f i).int) ∧ w.cell? ⟨b, o + i * 4 + 2, none⟩ = some (.string (f i).str) ∧ w.cell? ⟨b, o + i * 4 + 3, none⟩ = some (.bool (f i).bool) :=
      ⟨fun i => if h : i < n then (each i h).choose else zeroVal, fun i hi => by simp only [hi, dif_pos]; exact (each i hi).choose_spec⟩
    refine ⟨(List.range n).map f, by simp, ?_, ?_⟩
    · rcases Nat.eq_zero_or_pos n with h0 | h0
      · subst h0
        exact Or.inl rfl
      · refine Or.inr ⟨b, o, rfl, World.block_lt_of_cell? w _ (hf 0 h0).2.1, fun i hi => ?_⟩
        have hi' : i < n := by simpa using hi
        simpa using (hf i hi').2
    · intro a ha
      obtain ⟨i, hi, rfl⟩ := List.mem_map.1 ha
      exact (hf i (by simpa using hi)).1
theorem ev_read {P : Nat → Prop} {M : Nat} {w : World} {ao : Option Addr} {n : Nat} (h : EvSh P M w ao n) (hM : M ≤ maxLen) : ∃ l : List EvX, l.length = n ∧ EvsIn w.heap.size w ao l ∧ ∀ y ∈ l, EvFit M y := by
  rcases h with rfl | ⟨b, o, rfl, _, h⟩
  · exact ⟨[], rfl, Or.inl rfl, by simp⟩
  · have each : ∀ i, i < n → ∃ y : EvX, EvFit M y ∧ (w.cell? ⟨b, o + i * 3, none⟩ = some (.string y.ev.ty) ∧ w.cell? ⟨b, o + i * 3 + 1, none⟩ = some (.int .i64 y.ev.time) ∧ w.cell? ⟨b, o + i * 3 + 2, none⟩ = some (.slice y.va y.ev.vals.length y.cap)) ∧ ValsIn w.heap.size w y.va y.ev.vals := fun i hi => by
      obtain ⟨⟨_, a0, s, rfl, hs⟩, ⟨_, a1, z1, rfl, r1⟩, ⟨va, m, c, a2, b2, b3, b4⟩, _⟩ := h i hi
      obtain ⟨vals, rfl, hv, hvi⟩ := va_read b2 hM
      exact ⟨⟨⟨s, z1, vals⟩, va, c⟩, ⟨fun a ha => (hvi a ha).1, b3, hs, r1, fun a ha => (hvi a ha).2, fun e => ⟨(b4 e).1, List.eq_nil_of_length_eq_zero (b4 e).2⟩⟩, ⟨a0, a1, a2⟩, hv⟩
    obtain ⟨f, hf⟩ : ∃ f : Nat → EvX, ∀ i, i < n → EvFit M (f i) ∧ (w.cell? ⟨b, o + i * 3, none⟩ = some (.string (f i).ev.ty) ∧ w.cell? ⟨b, o + i * 3 + 1, none⟩ = some (.int .i64 (f i).ev.time) ∧ w.cell? ⟨b, o + i * 3 + 2, none⟩ = some (.slice (f i).va (f i).ev.vals.length (f i).cap)) ∧ ValsIn w.heap.size w (f i).va (f i).ev.vals :=
      ⟨fun i => if h : i < n then (each i h).choose else zeroX, fun i hi => by simp only [hi, dif_pos]; exact (each i hi).choose_spec⟩
    refine ⟨(List.range n).map f, by simp, ?_, ?_⟩
    · rcases Nat.eq_zero_or_pos n with h0 | h0
      · subst h0
        exact Or.inl rfl
      · refine Or.inr ⟨b, o, rfl, World.block_lt_of_cell? w _ (hf 0 h0).2.1.1, fun i hi => ?_⟩
        have hi' : i < n := by simpa using hi
        simpa using (hf i hi').2
    · intro a ha
      obtain ⟨i, hi, rfl⟩ := List.mem_map.1 ha
      exact (hf i (by simpa using hi)).1
theorem XAt.reads {P : Nat → Prop} {M : Nat} {w : World} {x : OpX} (h : XAt P M w x) (hM : M ≤ maxLen) : ∃ l vals es, Reads M w x l vals es := by
  obtain ⟨l, h1, h2⟩ := by_read h.by'
  obtain ⟨vals, h3, h4, h5⟩ := va_read h.va hM
  obtain ⟨es, h6, h7, h8⟩ := ev_read h.ev hM
  exact ⟨l, vals, es, h2, h1, h4, h3, fun a ha => (h5 a ha).1, fun a ha => (h5 a ha).2, h7, h6, h8⟩
theorem Reads.below {M : Nat} {w w' : World} {x : OpX} {l : List UInt8} {vals : List Val} {es : List EvX} (h : Reads M w x l vals es) (hb : Below w.heap.size w w') : Reads M w' x l vals es :=
  ⟨h.rb.below hb, h.rl, (h.vb.below hb (Nat.le_refl _)).mono hb.size, h.vl, h.vi, h.vs, (h.eb.below hb (Nat.le_refl _)).mono hb.size, h.el, h.ei⟩
end Go.Proofs.YtekaimfabadclaaDoor
/- What a step answers: the program's own call. -/
namespace Go.Proofs.YtekaimfabadclaaDoor
open Go Go.RowKit

/-- An answer. -/
structure TC where
  b : List UInt8
  n : Int
  k : Int
  f : Int
  es : List Ev
/-- What the document asks a step to answer. -/
def ansOf (kind n : Int) (l : List UInt8) (ev : Ev) (es : List Ev) : TC :=
  if kind = 1 then ⟨putB n, 0, 0, 0, []⟩
  else if kind = 2 then ⟨[], (intB l).1, ((intB l).2.1 : Int), (intB l).2.2, []⟩
  else if kind = 3 then ⟨if evFault ev = 0 then evE ev else [], 0, 0, evFault ev, []⟩
  else if kind = 4 then ⟨[], 0, decN l, (eventR ⟨l, 0⟩).2.fault, [decE l]⟩
  else if kind = 5 then ⟨if packF es = 0 then packB es else [], 0, 0, packF es, []⟩
  else if kind = 6 then ⟨[], 0, 0, unF l, if unF l = 0 then (batchR ⟨l.take (l.length - 4), 0⟩).1 else []⟩
  else ⟨[], 0, 0, 0, []⟩
def toldV (ba : Option Addr) (bl bc : Nat) (n k : Int) (ea : Option Addr) (el ec : Nat) (f : Int) : Value := .agg #[.slice ba bl bc, .int .i64 n, .int .i64 k, .slice ea el ec, .int .i64 f]
/-- The lists of an answer, as they lie. -/
structure TolAt (P : Nat → Prop) (w : World) (T : TC) (ba ea : Option Addr) (acc : List EvX) : Prop where
  b : BytesOn P w ba T.b
  bl : T.b.length ≤ maxLen
  e : EvsOn P w ea acc
  x : xs acc = T.es
  el : acc.length ≤ maxLen
  ev : ∀ y ∈ acc, y.ev.vals.length ≤ maxLen
theorem TolAt.keep {P : Nat → Prop} {w w' : World} {T : TC} {ba ea : Option Addr} {acc : List EvX} (h : TolAt P w T ba ea acc) (hk : ∀ b, P b → w'.heap[b]? = w.heap[b]?) : TolAt P w' T ba ea acc := ⟨h.b.keep hk, h.bl, h.e.keep hk, h.x, h.el, h.ev⟩
theorem BytesOn.mono {P Q : Nat → Prop} {w : World} {ao : Option Addr} {l : List UInt8} (h : BytesOn P w ao l) (hq : ∀ b, P b → Q b) : BytesOn Q w ao l := by
  rcases h with h | ⟨b, o, e, hp, h⟩
  · exact Or.inl h
  · exact Or.inr ⟨b, o, e, hq b hp, h⟩
theorem EvsOn.mono {P Q : Nat → Prop} {w : World} {ao : Option Addr} {l : List EvX} (h : EvsOn P w ao l) (hq : ∀ b, P b → Q b) : EvsOn Q w ao l := by
  rcases h with h | ⟨b, o, e, hp, h⟩
  · exact Or.inl h
  · exact Or.inr ⟨b, o, e, hq b hp, fun i hi => ⟨(h i hi).1, (h i hi).2.mono hq⟩⟩
theorem TolAt.mono {P Q : Nat → Prop} {w : World} {T : TC} {ba ea : Option Addr} {acc : List EvX} (h : TolAt P w T ba ea acc) (hq : ∀ b, P b → Q b) : TolAt Q w T ba ea acc := ⟨h.b.mono hq, h.bl, h.e.mono hq, h.x, h.el, h.ev⟩
/-- What a call answers. -/
def ToldTo (lo : Nat) (T : TC) (en : Ending) (w' : World) : Prop :=
  ∃ ba bc ea ec acc, en = .returned (toldV ba T.b.length bc T.n T.k ea acc.length ec T.f) ∧ TolAt (Span lo w'.heap.size) w' T ba ea acc
def set5 (w : World) (R : Nat) (v0 v1 v2 v3 v4 : Value) : World := ((((w.setCell ⟨R, 0, none⟩ v0).setCell ⟨R, 1, none⟩ v1).setCell ⟨R, 2, none⟩ v2).setCell ⟨R, 3, none⟩ v3).setCell ⟨R, 4, none⟩ v4
theorem set5_size (w : World) (R : Nat) (v0 v1 v2 v3 v4 : Value) : (set5 w R v0 v1 v2 v3 v4).heap.size = w.heap.size := by simp [set5, World.setCell]
theorem set5_block (w : World) (R : Nat) (v0 v1 v2 v3 v4 : Value) (b : Nat) (h : b ≠ R) : (set5 w R v0 v1 v2 v3 v4).heap[b]? = w.heap[b]? := by
  unfold set5
  rw [Below.heap_setCell _ _ _ _ (by simpa using h), Below.heap_setCell _ _ _ _ (by simpa using h), Below.heap_setCell _ _ _ _ (by simpa using h), Below.heap_setCell _ _ _ _ (by simpa using h), Below.heap_setCell _ _ _ _ (by simpa using h)]
theorem set5_below {a w : World} {B R : Nat} {v0 v1 v2 v3 v4 : Value} (h : Below B a w) (hR : B ≤ R) : Below B a (set5 w R v0 v1 v2 v3 v4) :=
  ((((h.setCell hR _).setCell hR _).setCell hR _).setCell hR _).setCell hR _
theorem told_mk {lo0 lo R : Nat} {w3 : World} (T : TC) (ba : Option Addr) (bc : Nat) (ea : Option Addr) (ec : Nat) (acc : List EvX) (h : TolAt (Span lo w3.heap.size) w3 T ba ea acc) (hR : R < lo) (h0 : lo0 ≤ lo) (v0 v1 v2 v3 v4 : Value) :
    ToldTo lo0 T (.returned (toldV ba T.b.length bc T.n T.k ea acc.length ec T.f)) (set5 w3 R v0 v1 v2 v3 v4) :=
  ⟨ba, bc, ea, ec, acc, rfl, (h.keep (fun b hb => set5_block _ _ _ _ _ _ _ b (by have := hb.1; omega))).mono (fun b hb => ⟨by have := hb.1; omega, by rw [set5_size]; exact hb.2⟩)⟩
structure Cells5 (w : World) (b : Nat) (v0 v1 v2 v3 v4 : Value) : Prop where
  c0 : w.cell? ⟨b, 0, none⟩ = some v0
  c1 : w.cell? ⟨b, 1, none⟩ = some v1
  c2 : w.cell? ⟨b, 2, none⟩ = some v2
  c3 : w.cell? ⟨b, 3, none⟩ = some v3
  c4 : w.cell? ⟨b, 4, none⟩ = some v4
  f : ∀ j, j < 5 → w.frozen? ⟨b, j, none⟩ = false
theorem Cells5.of {w : World} {b : Nat} {v0 v1 v2 v3 v4 : Value} {t : TypeId} (h : w.heap[b]? = some (Obj.cells #[v0, v1, v2, v3, v4] t (0, 0))) : Cells5 w b v0 v1 v2 v3 v4 :=
  ⟨by simp [World.cell?, h], by simp [World.cell?, h], by simp [World.cell?, h], by simp [World.cell?, h], by simp [World.cell?, h], fun j _ => by simp [World.frozen?, h]⟩
theorem Cells5.below {w w' : World} {b : Nat} {v0 v1 v2 v3 v4 : Value} (h : Cells5 w b v0 v1 v2 v3 v4) (hb : Below w.heap.size w w') : Cells5 w' b v0 v1 v2 v3 v4 := by
  have hl := World.block_lt_of_cell? w _ h.c0
  simp only at hl
  exact ⟨(hb.cell (p := ⟨b, 0, none⟩) hl).trans h.c0, (hb.cell (p := ⟨b, 1, none⟩) hl).trans h.c1, (hb.cell (p := ⟨b, 2, none⟩) hl).trans h.c2, (hb.cell (p := ⟨b, 3, none⟩) hl).trans h.c3, (hb.cell (p := ⟨b, 4, none⟩) hl).trans h.c4, fun j hj => (hb.frozen (p := ⟨b, j, none⟩) hl).trans (h.f j hj)⟩
/-- A step's box. -/
structure BoxO (w : World) (b : Nat) (x : OpX) : Prop where
  c0 : w.cell? ⟨b, 0, none⟩ = some (.int .i64 x.kind)
  c1 : w.cell? ⟨b, 1, none⟩ = some (.int .i64 x.n)
  c2 : w.cell? ⟨b, 2, none⟩ = some (.slice x.ra x.rl x.rc)
  c3 : w.cell? ⟨b, 3, none⟩ = some (.string x.ty)
  c4 : w.cell? ⟨b, 4, none⟩ = some (.int .i64 x.tm)
  c5 : w.cell? ⟨b, 5, none⟩ = some (.slice x.va x.vl x.vc)
  c6 : w.cell? ⟨b, 6, none⟩ = some (.slice x.ea x.el x.ec)
  f : ∀ j, j < 7 → w.frozen? ⟨b, j, none⟩ = false
def OpX.cells (x : OpX) : Array Value := #[.int .i64 x.kind, .int .i64 x.n, .slice x.ra x.rl x.rc, .string x.ty, .int .i64 x.tm, .slice x.va x.vl x.vc, .slice x.ea x.el x.ec]
theorem BoxO.of {w : World} {b : Nat} {x : OpX} {t : TypeId} (h : w.heap[b]? = some (Obj.cells x.cells t (0, 0))) : BoxO w b x :=
  ⟨by simp [World.cell?, h, OpX.cells], by simp [World.cell?, h, OpX.cells], by simp [World.cell?, h, OpX.cells], by simp [World.cell?, h, OpX.cells], by simp [World.cell?, h, OpX.cells], by simp [World.cell?, h, OpX.cells], by simp [World.cell?, h, OpX.cells], fun j _ => by simp [World.frozen?, h]⟩
theorem BoxO.lt {w : World} {b : Nat} {x : OpX} (h : BoxO w b x) : b < w.heap.size := World.block_lt_of_cell? w _ h.c0
theorem BoxO.keep {w w' : World} {b : Nat} {x : OpX} (h : BoxO w b x) (hk : w'.heap[b]? = w.heap[b]?) : BoxO w' b x := by
  have e : ∀ j : Nat, w'.cell? ⟨b, j, none⟩ = w.cell? ⟨b, j, none⟩ := fun j => World.cell?_of_block (w := w) hk
  exact ⟨(e 0).trans h.c0, (e 1).trans h.c1, (e 2).trans h.c2, (e 3).trans h.c3, (e 4).trans h.c4, (e 5).trans h.c5, (e 6).trans h.c6, fun j hj => (World.frozen?_of_block (w := w) (a := ⟨b, j, none⟩) hk).trans (h.f j hj)⟩
theorem BoxO.below {w w' : World} {b : Nat} {x : OpX} (h : BoxO w b x) (hb : Below w.heap.size w w') : BoxO w' b x := h.keep (hb.block b h.lt)
def zeroT : Array Value := #[.slice none 0 0, .int .i64 0, .int .i64 0, .slice none 0 0, .int .i64 0]
theorem ans_ev (x : OpX) (vals : List Val) (h : vals.length = x.vl) : Value.agg #[.string x.ty, .int .i64 x.tm, .slice x.va x.vl x.vc] = evV ⟨x.ty, x.tm, vals⟩ x.va x.vc := by rw [← h]; rfl
theorem evs_one {w : World} {g : Nat} {e : Ev} {va : Option Addr} {c lo : Nat} {t : TypeId} (h : w.heap[g]? = some (Obj.cells #[.string e.ty, .int .i64 e.time, .slice va e.vals.length c] t (0, 0))) (hg : lo ≤ g) (hv : ValsOn (Span lo w.heap.size) w va e.vals) : EvsOn (Span lo w.heap.size) w (some ⟨g, 0, none⟩) [⟨e, va, c⟩] := by
  refine Or.inr ⟨g, 0, rfl, ⟨hg, (Array.getElem?_eq_some_iff.1 h).1⟩, fun i hi => ?_⟩
  obtain rfl : i = 0 := by simpa using hi
  exact ⟨⟨by simp [World.cell?, h], by simp [World.cell?, h], by simp [World.cell?, h]⟩, hv⟩
theorem told_one {lo0 lo R : Nat} {W4 : World} (e : Ev) (va : Option Addr) (vc : Nat) (n k f : Int) (t : TypeId) (hv : ValsOn (Span lo W4.heap.size) W4 va e.vals) (hl : e.vals.length ≤ maxLen) (hR : R < lo) (h0 : lo0 ≤ lo) (hlo : lo ≤ W4.heap.size) (v0 v1 v2 v3 v4 : Value) :
    ToldTo lo0 ⟨[], n, k, f, [e]⟩ (.returned (toldV none 0 0 n k (some ⟨W4.heap.size, 0, none⟩) 1 1 f)) ((set5 W4 R v0 v1 v2 v3 v4).alloc (Obj.cells #[.string e.ty, .int .i64 e.time, .slice va e.vals.length vc] t)) := by
  have hz : (set5 W4 R v0 v1 v2 v3 v4).heap.size = W4.heap.size := set5_size _ _ _ _ _ _ _
  have hh := heap_alloc_new (set5 W4 R v0 v1 v2 v3 v4) (Obj.cells #[.string e.ty, .int .i64 e.time, .slice va e.vals.length vc] t)
  rw [hz] at hh
  refine ⟨none, 0, some ⟨W4.heap.size, 0, none⟩, 1, [⟨e, va, vc⟩], rfl, Or.inl rfl, by simp, ?_, rfl, by simp [maxLen], fun y hy => by rw [List.mem_singleton.1 hy]; exact hl⟩
  refine evs_one (t := t) hh (by omega) ((hv.keep (fun b hb => ?_)).mono (fun b hb => ⟨by have := hb.1; omega, by rw [World.size_alloc, hz]; have := hb.2; omega⟩))
  have h1 := hb.1
  have h2 := hb.2
  rw [Below.heap_alloc _ _ _ (by rw [hz]; exact h2)]
  exact set5_block _ _ _ _ _ _ _ b (by omega)
/-- Encode's, Pack's, Unpack's, Decode's answers, as they lie. -/
theorem enc_on {e : Ev} {w w' : World} {en : Ending} (h : EncTo e w en w') : ∃ ao cap l, en = .returned (.tuple #[.slice ao l.length cap, .int .i64 (evFault e)]) ∧ BytesOn (Span w.heap.size w'.heap.size) w' ao l ∧ l = (if evFault e = 0 then evE e else []) ∧ l.length ≤ maxLen := by
  rcases h with ⟨h0, v, rfl, ho⟩ | ⟨h0, rfl⟩
  · obtain ⟨ao, cap, rfl, hb, h1⟩ := bytes_own ho
    exact ⟨ao, cap, evE e, by rw [h0], hb, by rw [if_pos h0], h1⟩
  · exact ⟨none, 0, [], rfl, Or.inl rfl, by rw [if_neg h0], by simp⟩
theorem pack_on {l : List Ev} {w w' : World} {en : Ending} (h : PackTo l w en w') : ∃ ao cap b, en = .returned (.tuple #[.slice ao b.length cap, .int .i64 (packF l)]) ∧ BytesOn (Span w.heap.size w'.heap.size) w' ao b ∧ b = (if packF l = 0 then packB l else []) ∧ b.length ≤ maxLen := by
  rcases h with ⟨h0, v, rfl, ho⟩ | ⟨h0, rfl⟩
  · obtain ⟨ao, cap, rfl, hb, h1⟩ := bytes_own ho
    exact ⟨ao, cap, packB l, by rw [h0], hb, by rw [if_pos h0], h1⟩
  · exact ⟨none, 0, [], rfl, Or.inl rfl, by rw [if_neg h0], by simp⟩
theorem un_on {lo : Nat} {l : List UInt8} {w' : World} {en : Ending} (h : UnTo lo l en w') : ∃ (acc : List EvX) (ao : Option Addr) (cp : Nat), en = .returned (.tuple #[.slice ao acc.length cp, .int .i64 (unF l)]) ∧ xs acc = (if unF l = 0 then (batchR ⟨l.take (l.length - 4), 0⟩).1 else []) ∧ EvsOn (Span lo w'.heap.size) w' ao acc ∧ acc.length ≤ maxLen ∧ ∀ x ∈ acc, x.ev.vals.length ≤ maxLen := by
  rcases h with ⟨h0, acc, ao, cp, rfl, hx, he, hl, hv⟩ | ⟨h0, rfl⟩
  · exact ⟨acc, ao, cp, by rw [h0], by rw [if_pos h0]; exact hx, he, hl, hv⟩
  · exact ⟨[], none, 0, rfl, by rw [if_neg h0]; rfl, Or.inl rfl, by simp, by simp⟩
theorem dec_on {l : List UInt8} {w w' : World} {en : Ending} (h : DecTo l w en w') : ∃ va c, en = .returned (.tuple #[evV (decE l) va c, .int .i64 (decN l), .int .i64 (eventR ⟨l, 0⟩).2.fault]) ∧ ValsOn (Span w.heap.size w'.heap.size) w' va (decE l).vals ∧ (decE l).vals.length ≤ maxLen := by
  rcases h with ⟨h0, va, c, rfl, ho⟩ | ⟨h0, rfl⟩
  · refine ⟨va, c, ?_, ?_, ?_⟩
    · unfold decE decN evV
      rw [if_pos h0, if_pos h0, h0]
    · unfold decE
      rw [if_pos h0]
      exact vals_own ho
    · unfold decE
      rw [if_pos h0]
      exact owned_len ho
  · refine ⟨none, 0, ?_, ?_, ?_⟩
    · unfold decE decN evV
      rw [if_neg h0, if_neg h0]
      rfl
    · unfold decE
      rw [if_neg h0]
      exact Or.inl rfl
    · unfold decE
      rw [if_neg h0]
      exact Nat.zero_le _

set_option maxHeartbeats 8000000 in
set_option maxRecDepth 100000 in
theorem ran_any (M : Nat) (x : OpX) (l : List UInt8) (vals : List Val) (es : List EvX) (w : World) (hres : ResAt w) (hx : OpFit M x) (hrd : Reads M w x l vals es) :
    Calls Tryd.prog 40 #[x.v] w fun en w' => ToldTo w.heap.size (ansOf x.kind x.n l ⟨x.ty, x.tm, vals⟩ (xs es)) en w' ∧ Below w.heap.size w w' := by
  have HF := Lib.hid hx
  obtain ⟨W, hW⟩ : ∃ W, W = (w.alloc (Obj.cells x.cells 71)).alloc (Obj.cells zeroT 75) := ⟨_, rfl⟩
  have hbW : Below w.heap.size w W := by rw [hW]; exact ((Below.refl _ _).alloc (Nat.le_refl _) _).alloc (by simp) _
  have HB := Lib.hid hbW
  have HRS := Lib.hid (hres.below hbW)
  have HRD := Lib.hid (hrd.below hbW)
  have HQ := Lib.hid (show BoxO W w.heap.size x from BoxO.of (by rw [hW, Below.heap_alloc _ _ _ (by simp)]; exact heap_alloc_new _ _))
  have HT := Lib.hid (show Cells5 W (w.heap.size + 1) (.slice none 0 0) (.int .i64 0) (.int .i64 0) (.slice none 0 0) (.int .i64 0) from Cells5.of (t := 75) (by
    have := heap_alloc_new (w.alloc (Obj.cells x.cells 71)) (Obj.cells zeroT 75)
    rw [World.size_alloc] at this
    rw [hW]
    exact this))
  have hzW : w.heap.size + 1 + 1 = W.heap.size := by rw [hW]; simp
  unfold OpX.cells zeroT at hW
  have HW := Lib.hid hW
  obtain ⟨R, hR⟩ : ∃ R, R = w.heap.size + 1 := ⟨_, rfl⟩
  rw [← hR] at HT
  have HRE := Lib.hid hR
  have hRW : R < W.heap.size := by omega
  have hRw : w.heap.size ≤ R := by omega
  have hzz : w.heap.size ≤ W.heap.size := by omega
  clear hx hres hrd hbW hW hR hzW
  have b0 := HQ.out.c0
  have b1 := HQ.out.c1
  have b2 := HQ.out.c2
  have b3' := HQ.out.c3
  have b4 := HQ.out.c4
  have b5 := HQ.out.c5
  have b6 := HQ.out.c6
  unfold OpX.v
  have hk : x.kind = 1 ∨ x.kind = 2 ∨ x.kind = 3 ∨ x.kind = 4 ∨ x.kind = 5 ∨ x.kind = 6 ∨ ¬ (1 ≤ x.kind ∧ x.kind ≤ 6) := by omega
  obtain ⟨K, hK⟩ : ∃ K, K = x.kind := ⟨_, rfl⟩
  rw [← hK] at b0 hk HW ⊢
  clear hK
  go_enter Tryd.func40, Tryd.ntmps40
  go_upto_region 1 with fail
  rw [← HW.out, ← HRE.out]
  rcases hk with rfl | rfl | rfl | rfl | rfl | rfl | hk
  · have HA := Lib.hid (show ansOf 1 x.n l ⟨x.ty, x.tm, vals⟩ (xs es) = ⟨putB x.n, 0, 0, 0, []⟩ from rfl)
    go_wp2_with fail
    (with_reducible refine (putInt_any x.n W (by have := HF.out.n; unfold i64r at this; omega) (by have := HF.out.n; unfold i64r at this; omega)).mono ?_); rintro en w3 ⟨v3, rfl, hx3⟩
    obtain ⟨ba, bc, rfl, hon, hlen⟩ := bytes_own hx3.own
    have HON := Lib.hid hon
    have HB3 := Lib.hid (HB.out.trans (hx3.fresh.mono HB.out.size))
    have HT3 := Lib.hid (HT.out.below hx3.fresh)
    clear hx3 hon
    have t0 := HT3.out.c0
    have t1 := HT3.out.c1
    have t2 := HT3.out.c2
    have t3 := HT3.out.c3
    have t4 := HT3.out.c4
    have g0 := HT3.out.f 0 (by omega)
    have g1 := HT3.out.f 1 (by omega)
    have g2 := HT3.out.f 2 (by omega)
    have g3 := HT3.out.f 3 (by omega)
    have g4 := HT3.out.f 4 (by omega)
    go_wp2_with fail
    refine bodyPost_ret (v := .agg #[.slice ba (putB x.n).length bc, .int .i64 0, .int .i64 0, .slice none 0 0, .int .i64 0]) (by simp [results, Tryd.results40, go_sem, t0, t1, t2, t3, t4]) rfl ⟨?_, set5_below HB3.out (by omega)⟩
    rw [HA.out]
    exact told_mk ⟨putB x.n, 0, 0, 0, []⟩ ba bc none 0 [] ⟨HON.out, hlen, Or.inl rfl, rfl, by simp, by simp⟩ (by omega) (by omega) _ _ _ _ _
  · have HA := Lib.hid (show ansOf 2 x.n l ⟨x.ty, x.tm, vals⟩ (xs es) = ⟨[], (intB l).1, ((intB l).2.1 : Int), (intB l).2.2, []⟩ from rfl)
    have HC := Lib.hid (int_any l x.ra x.rc W HRD.out.rb (by have := HF.out.r; have := HRD.out.rl; omega))
    rw [HRD.out.rl] at HC
    obtain ⟨⟨i1, i2, i3⟩, hi⟩ : ∃ q, q = intB l := ⟨_, rfl⟩
    rw [← hi] at HC HA
    simp only at HC HA
    clear hi
    go_wp2_with fail
    (with_reducible refine HC.out.mono ?_); rintro en w3 ⟨rfl, hw3⟩
    have HB3 := Lib.hid (show Below w.heap.size w w3 by first | (rw [← hw3]; exact HB.out) | (rw [hw3]; exact HB.out))
    have HT3 := Lib.hid (show Cells5 w3 R (.slice none 0 0) (.int .i64 0) (.int .i64 0) (.slice none 0 0) (.int .i64 0) by first | (rw [← hw3]; exact HT.out) | (rw [hw3]; exact HT.out))
    have z3 : W.heap.size ≤ w3.heap.size := by first | (rw [← hw3]; exact Nat.le_refl _) | (rw [hw3]; exact Nat.le_refl _)
    clear hw3
    have t0 := HT3.out.c0
    have t1 := HT3.out.c1
    have t2 := HT3.out.c2
    have t3 := HT3.out.c3
    have t4 := HT3.out.c4
    have g0 := HT3.out.f 0 (by omega)
    have g1 := HT3.out.f 1 (by omega)
    have g2 := HT3.out.f 2 (by omega)
    have g3 := HT3.out.f 3 (by omega)
    have g4 := HT3.out.f 4 (by omega)
    go_wp2_with fail
    refine bodyPost_ret (v := .agg #[.slice none 0 0, .int .i64 i1, .int .i64 i2, .slice none 0 0, .int .i64 i3]) (by simp [results, Tryd.results40, go_sem, t0, t1, t2, t3, t4]) rfl ⟨?_, set5_below HB3.out (by omega)⟩
    rw [HA.out]
    exact told_mk ⟨[], i1, i2, i3, []⟩ none 0 none 0 [] ⟨Or.inl rfl, by simp, Or.inl rfl, rfl, by simp, by simp⟩ hRW (by omega) _ _ _ _ _
  · have HA := Lib.hid (show ansOf 3 x.n l ⟨x.ty, x.tm, vals⟩ (xs es) = ⟨if evFault ⟨x.ty, x.tm, vals⟩ = 0 then evE ⟨x.ty, x.tm, vals⟩ else [], 0, 0, evFault ⟨x.ty, x.tm, vals⟩, []⟩ from rfl)
    have HC := Lib.hid (enc_any ⟨x.ty, x.tm, vals⟩ x.va x.vc W HRS.out HRD.out.vb HRD.out.vi)
    rw [← ans_ev x vals HRD.out.vl] at HC
    obtain ⟨ev, hev⟩ : ∃ ev : Ev, ev = ⟨x.ty, x.tm, vals⟩ := ⟨_, rfl⟩
    have HEVV := Lib.hid hev
    rw [← hev] at HC HA
    clear hev
    go_wp2_with fail
    (with_reducible refine HC.out.mono ?_); rintro en w3 ⟨hto, hb3⟩
    obtain ⟨ba, bc, b3, rfl, hon, hb, hlen⟩ := enc_on hto
    have HON := Lib.hid hon
    have HB3 := Lib.hid (HB.out.trans (hb3.mono HB.out.size))
    have HT3 := Lib.hid (HT.out.below hb3)
    rw [← hb] at HA
    clear hb3 hon hto hb
    have t0 := HT3.out.c0
    have t1 := HT3.out.c1
    have t2 := HT3.out.c2
    have t3 := HT3.out.c3
    have t4 := HT3.out.c4
    have g0 := HT3.out.f 0 (by omega)
    have g1 := HT3.out.f 1 (by omega)
    have g2 := HT3.out.f 2 (by omega)
    have g3 := HT3.out.f 3 (by omega)
    have g4 := HT3.out.f 4 (by omega)
    go_wp2_with fail
    refine bodyPost_ret (v := .agg #[.slice ba b3.length bc, .int .i64 0, .int .i64 0, .slice none 0 0, .int .i64 (evFault ev)]) (by simp [results, Tryd.results40, go_sem, t0, t1, t2, t3, t4]) rfl ⟨?_, set5_below HB3.out (by omega)⟩
    rw [← HEVV.out, HA.out]
    exact told_mk ⟨b3, 0, 0, evFault ev, []⟩ ba bc none 0 [] ⟨HON.out, hlen, Or.inl rfl, rfl, by simp, by simp⟩ hRW (by omega) _ _ _ _ _
  · have HA := Lib.hid (show ansOf 4 x.n l ⟨x.ty, x.tm, vals⟩ (xs es) = ⟨[], 0, decN l, (eventR ⟨l, 0⟩).2.fault, [decE l]⟩ from rfl)
    have HC := Lib.hid (dec_any l x.ra x.rc W HRS.out HRD.out.rb (by have := HF.out.r; have := HRD.out.rl; omega) (by have := HF.out.r; omega))
    rw [HRD.out.rl] at HC
    go_wp2_with fail
    (with_reducible refine HC.out.mono ?_); rintro en w3 ⟨hto, hb3⟩
    obtain ⟨va, vc, rfl, hon, hlen⟩ := dec_on hto
    have HON := Lib.hid hon
    have HB3' := Lib.hid (HB.out.trans (hb3.mono HB.out.size))
    have HT3' := Lib.hid (HT.out.below hb3)
    have z3 := hb3.size
    obtain ⟨e, he⟩ : ∃ e, e = decE l := ⟨_, rfl⟩
    obtain ⟨f, hf⟩ : ∃ f, f = (eventR ⟨l, 0⟩).2.fault := ⟨_, rfl⟩
    rw [← he, ← hf] at HA ⊢
    rw [← he] at HON hlen
    simp only [evV]
    clear hb3 hon hto he hf
    go_upto_region 12 with fail
    obtain ⟨W4, hW4⟩ : ∃ W4, W4 = w3.alloc (Obj.cells #[.string e.ty, .int .i64 e.time, .slice va e.vals.length vc] 24) := ⟨_, rfl⟩
    rw [← hW4]
    have hb4 : Below w3.heap.size w3 W4 := by rw [hW4]; exact (Below.refl _ _).alloc (Nat.le_refl _) _
    have HC4 := Lib.hid (show Cells3 W4 w3.heap.size (.string e.ty) (.int .i64 e.time) (.slice va e.vals.length vc) by rw [hW4]; exact Cells3.made _ _ _ _ _)
    have z4 := hb4.size
    have HB4 := Lib.hid (HB3'.out.trans (hb4.mono HB3'.out.size))
    have HT4 := Lib.hid (HT3'.out.below hb4)
    have HON4 := Lib.hid (show ValsOn (Span W.heap.size W4.heap.size) W4 va e.vals from (HON.out.keep (fun b hb => hb4.block b hb.2)).mono (fun b hb => ⟨hb.1, by have := hb.2; omega⟩))
    have e0 := HC4.out.c0
    have e1 := HC4.out.c1
    have e2 := HC4.out.c2
    clear hb4 hW4
    have t0 := HT4.out.c0
    have t1 := HT4.out.c1
    have t2 := HT4.out.c2
    have t3 := HT4.out.c3
    have t4 := HT4.out.c4
    have g0 := HT4.out.f 0 (by omega)
    have g1 := HT4.out.f 1 (by omega)
    have g2 := HT4.out.f 2 (by omega)
    have g3 := HT4.out.f 3 (by omega)
    have g4 := HT4.out.f 4 (by omega)
    have hR4 : R < W4.heap.size := by omega
    go_wp2_with fail
    refine bodyPost_ret (v := .agg #[.slice none 0 0, .int .i64 0, .int .i64 (decN l), .slice (some ⟨W4.heap.size, 0, none⟩) 1 1, .int .i64 f]) (by simp [results, Tryd.results40, go_sem, t0, t1, t2, t3, t4, hR4]) rfl ⟨?_, ?_⟩
    · rw [HA.out]
      exact told_one e va vc 0 (decN l) f 24 HON4.out hlen hRW (by omega) (by omega) _ _ _ _ _
    · exact (set5_below HB4.out (by omega)).alloc (by rw [set5_size]; omega) _
  · have HA := Lib.hid (show ansOf 5 x.n l ⟨x.ty, x.tm, vals⟩ (xs es) = ⟨if packF (xs es) = 0 then packB (xs es) else [], 0, 0, packF (xs es), []⟩ from rfl)
    have HC := Lib.hid (packF_any es x.ea x.ec W HRS.out HRD.out.eb (by have := HRD.out.el; have := HF.out.el; omega) (by have := HF.out.el; omega) (fun y hy => (HRD.out.ei y hy).vi))
    rw [HRD.out.el] at HC
    go_wp2_with fail
    (with_reducible refine HC.out.mono ?_); rintro en w3 ⟨hto, hb3⟩
    obtain ⟨ba, bc, b3, rfl, hon, hb, hlen⟩ := pack_on hto
    have HON := Lib.hid hon
    have HB3 := Lib.hid (HB.out.trans (hb3.mono HB.out.size))
    have HT3 := Lib.hid (HT.out.below hb3)
    rw [← hb] at HA
    clear hb3 hon hto hb
    have t0 := HT3.out.c0
    have t1 := HT3.out.c1
    have t2 := HT3.out.c2
    have t3 := HT3.out.c3
    have t4 := HT3.out.c4
    have g0 := HT3.out.f 0 (by omega)
    have g1 := HT3.out.f 1 (by omega)
    have g2 := HT3.out.f 2 (by omega)
    have g3 := HT3.out.f 3 (by omega)
    have g4 := HT3.out.f 4 (by omega)
    go_wp2_with fail
    refine bodyPost_ret (v := .agg #[.slice ba b3.length bc, .int .i64 0, .int .i64 0, .slice none 0 0, .int .i64 (packF (xs es))]) (by simp [results, Tryd.results40, go_sem, t0, t1, t2, t3, t4]) rfl ⟨?_, set5_below HB3.out (by omega)⟩
    rw [HA.out]
    exact told_mk ⟨b3, 0, 0, packF (xs es), []⟩ ba bc none 0 [] ⟨HON.out, hlen, Or.inl rfl, rfl, by simp, by simp⟩ hRW (by omega) _ _ _ _ _
  · have HA := Lib.hid (show ansOf 6 x.n l ⟨x.ty, x.tm, vals⟩ (xs es) = ⟨[], 0, 0, unF l, if unF l = 0 then (batchR ⟨l.take (l.length - 4), 0⟩).1 else []⟩ from rfl)
    have HC := Lib.hid (un_any l x.ra x.rc W HRS.out HRD.out.rb (by have := HF.out.r; have := HRD.out.rl; omega) (by have := HF.out.r; omega))
    rw [HRD.out.rl] at HC
    go_wp2_with fail
    (with_reducible refine HC.out.mono ?_); rintro en w3 ⟨hto, hb3⟩
    obtain ⟨acc, ea, ec, rfl, hx, hon, hlen, hvl⟩ := un_on hto
    have HON := Lib.hid hon
    have HVL := Lib.hid hvl
    have HX := Lib.hid hx
    have HB3 := Lib.hid (HB.out.trans (hb3.mono HB.out.size))
    have HT3 := Lib.hid (HT.out.below hb3)
    rw [← hx] at HA
    clear hb3 hon hto hx hvl
    have t0 := HT3.out.c0
    have t1 := HT3.out.c1
    have t2 := HT3.out.c2
    have t3 := HT3.out.c3
    have t4 := HT3.out.c4
    have g0 := HT3.out.f 0 (by omega)
    have g1 := HT3.out.f 1 (by omega)
    have g2 := HT3.out.f 2 (by omega)
    have g3 := HT3.out.f 3 (by omega)
    have g4 := HT3.out.f 4 (by omega)
    go_wp2_with fail
    refine bodyPost_ret (v := .agg #[.slice none 0 0, .int .i64 0, .int .i64 0, .slice ea acc.length ec, .int .i64 (unF l)]) (by simp [results, Tryd.results40, go_sem, t0, t1, t2, t3, t4]) rfl ⟨?_, set5_below HB3.out (by omega)⟩
    rw [HA.out]
    exact told_mk ⟨[], 0, 0, unF l, xs acc⟩ none 0 ea ec acc ⟨Or.inl rfl, by simp, HON.out, rfl, hlen, HVL.out⟩ hRW (by omega) _ _ _ _ _
  · have HA := Lib.hid (show ansOf K x.n l ⟨x.ty, x.tm, vals⟩ (xs es) = ⟨[], 0, 0, 0, []⟩ by
      unfold ansOf
      rw [if_neg (by omega), if_neg (by omega), if_neg (by omega), if_neg (by omega), if_neg (by omega), if_neg (by omega)])
    have q1 : (K == 1) = false := by rw [beq_eq_false_iff_ne]; omega
    have q2 : (K == 2) = false := by rw [beq_eq_false_iff_ne]; omega
    have q3 : (K == 3) = false := by rw [beq_eq_false_iff_ne]; omega
    have q4 : (K == 4) = false := by rw [beq_eq_false_iff_ne]; omega
    have q5 : (K == 5) = false := by rw [beq_eq_false_iff_ne]; omega
    have q6 : (K == 6) = false := by rw [beq_eq_false_iff_ne]; omega
    have HB3 := Lib.hid HB.out
    have HT3 := Lib.hid HT.out
    clear hk
    have t0 := HT3.out.c0
    have t1 := HT3.out.c1
    have t2 := HT3.out.c2
    have t3 := HT3.out.c3
    have t4 := HT3.out.c4
    have g0 := HT3.out.f 0 (by omega)
    have g1 := HT3.out.f 1 (by omega)
    have g2 := HT3.out.f 2 (by omega)
    have g3 := HT3.out.f 3 (by omega)
    have g4 := HT3.out.f 4 (by omega)
    go_wp2_with fail
    refine bodyPost_ret (v := .agg #[.slice none 0 0, .int .i64 0, .int .i64 0, .slice none 0 0, .int .i64 0]) (by simp [results, Tryd.results40, go_sem, t0, t1, t2, t3, t4]) rfl ⟨?_, set5_below HB3.out (by omega)⟩
    rw [HA.out]
    exact told_mk ⟨[], 0, 0, 0, []⟩ none 0 none 0 [] ⟨Or.inl rfl, by simp, Or.inl rfl, rfl, by simp, by simp⟩ hRW (by omega) _ _ _ _ _
end Go.Proofs.YtekaimfabadclaaDoor
/- The laws' copied and alone: a step with lists of its own. -/
namespace Go.Proofs.YtekaimfabadclaaDoor
open Go Go.RowKit

/-- A row of values of the call's own, new or empty: its shape, what it holds. -/
theorem vals_new {w : World} {B : Nat} {v : Value} {l : List Val} (h : w.ownsRow B 95 4 v l.length (valCells l)) (M : Nat) (hl : ∀ a ∈ l, valIn a ∧ a.str.size ≤ M) : ∃ va c, v = .slice va l.length c ∧ VaSh (Span B w.heap.size) M w va l.length ∧ ValsIn w.heap.size w va l := by
  rcases h.2 with ⟨e, h0⟩ | ⟨g, cap, cur, e, hb, hh, hn, hc, hs, ht⟩
  · exact ⟨none, 0, by rw [e, h0], Or.inl h0, Or.inl (List.eq_nil_of_length_eq_zero h0)⟩
  · have hv : ValsIn w.heap.size w (some ⟨g, 0, none⟩) l := by rw [e] at h; exact owned_vals h
    refine ⟨some ⟨g, 0, none⟩, cap, e, ?_, hv⟩
    rcases hv with hv | ⟨b, o, e2, h1, h2⟩
    · exact Or.inl (by rw [hv]; rfl)
    · cases e2
      refine Or.inr ⟨g, 0, rfl, ⟨hb, h1⟩, fun i hi => ?_⟩
      obtain ⟨c0, c1, c2, c3⟩ := h2 i hi
      obtain ⟨a1, a2⟩ := hl l[i] (List.getElem_mem hi)
      exact ⟨⟨_, c0, _, rfl⟩, ⟨_, c1, _, rfl, a1.2⟩, ⟨_, c2, _, rfl, a2⟩, ⟨_, c3, _, rfl⟩, fun j _ => by simp [World.frozen?, hh]⟩
theorem bytes_new {w : World} {B : Nat} {v : Value} {l : List UInt8} (h : w.ownsRow B 5 1 v l.length (bytesC l)) : ∃ ao c, v = .slice ao l.length c ∧ BySh (Span B w.heap.size) w ao l.length ∧ BytesAt w ao l ∧ l.length ≤ c ∧ c ≤ maxLen := by
  obtain ⟨ao, cap, hv, hb, h1, h2⟩ := owned_bytes h
  refine ⟨ao, cap, hv, ?_, hb, h1, h2⟩
  rcases h.2 with ⟨e, h0⟩ | ⟨g, cap', cur, e, hg, hh, _⟩
  · exact Or.inl h0
  · rw [hv] at e
    injection e with e1 _ _
    subst e1
    rcases hb with hb | ⟨b, o, e2, h3⟩
    · exact Or.inl (by rw [hb]; rfl)
    · cases e2
      exact Or.inr ⟨g, 0, rfl, ⟨hg, (Array.getElem?_eq_some_iff.1 hh).1⟩, fun i hi => ⟨⟨_, h3 i hi, _, rfl⟩, by simp [World.frozen?, hh]⟩⟩
/-- 'append([]api.Value(nil), vals...)'. -/
def ValsArg (w : World) (ao : Option Addr) (cap : Nat) (l : List Val) : Prop :=
  (ao = none ∧ cap = 0 ∧ l = []) ∨ ∃ ad, ao = some ad ∧ ∀ j u, (valCells l)[j]? = some u → w.cell? (ad.add j) = some u
theorem add_none' (b o k : Nat) : (⟨b, o, none⟩ : Addr).add k = ⟨b, o + k, none⟩ := by
  unfold Addr.add
  split
  · subst_vars; rfl
  · rfl
theorem valCells_one (l : List Val) : ∀ u ∈ valCells l, u.oneCell' = true := by
  intro u hu
  unfold valCells at hu
  rw [List.mem_flatMap] at hu
  obtain ⟨a, _, ha⟩ := hu
  simp only [Val.cells, List.mem_cons, List.not_mem_nil, or_false] at ha
  rcases ha with rfl | rfl | rfl | rfl <;> rfl
theorem wpList_append_argV {w : World} {ops : Array Oper} {rest : List Oper} {o : Oper} {a : Act} {Q : Exit → Act → World → Prop} (hgd : o.guard = none) (s x : Operand)
    (ho : o.op = .call { callee := .builtin .append, args := #[s, x], argTypes := #[22, 22] }) (hs : a.eval s = .slice none 0 0)
    (ao : Option Addr) (cap n : Nat) (l : List Val) (hn : l.length = n) (hx : a.eval x = .slice ao n cap) (harg : ValsArg w ao cap l) (hl : n ≤ 3518437208780)
    (h : ∀ v' w', w'.ownsRow w.heap.size 95 4 v' l.length (valCells l) → Below w.heap.size w w' → wpList Tryd.prog ops Q rest (a.put o.dst v') w') :
    wpList Tryd.prog ops Q (o :: rest) a w := by
  obtain ⟨i0, hi0, hz0, hz1, hz2⟩ := info_parts Tryd.infoVal
  subst hn
  rcases harg with ⟨rfl, rfl, rfl⟩ | ⟨ad, rfl, hc⟩
  · refine wpList_append_own_none hgd s x 22 ho w.heap.size 95 i0 4 Tryd.underlying22 hi0 (.slice none 0 0) 0 [] hs (World.ownsRow_nil _ _ _ _) hx ?_
    exact h _ w (World.ownsRow_nil _ _ _ _) (Below.refl _ _)
  · refine wpList_append_own_wide w hgd s x 22 ho w.heap.size 95 i0 _ 4 40 Tryd.underlying22 hi0 hz0 hz1 hz2 rfl (by omega) (.slice none 0 0) 0 [] hs (World.ownsRow_nil _ _ _ _) ad l.length cap (valCells l) hx (by rw [valCells_length]) hc (valCells_one _) (by unfold maxLen; omega) (by omega) (Nat.le_refl _) ?_
    intro v' w' h1 h2 _
    rw [Nat.zero_add] at h1
    exact h v' w' h1 (below_of_grown h2 rfl)
theorem vals_arg {w : World} {B : Nat} {ao : Option Addr} {cap : Nat} {l : List Val} (h : ValsIn B w ao l) (hn : ao = none → cap = 0 ∧ l = []) : ValsArg w ao cap l := by
  cases ao with
  | none => exact Or.inl ⟨rfl, (hn rfl).1, (hn rfl).2⟩
  | some ad =>
    refine Or.inr ⟨ad, rfl, ?_⟩
    rcases h with h | ⟨b, o, e, _, h⟩
    · subst h
      intro j u hu
      simp [valCells] at hu
    · cases e
      intro j u hu
      have hj : j < (valCells l).length := (List.getElem?_eq_some_iff.1 hu).1
      rw [valCells_length] at hj
      have hi : j / 4 < l.length := by omega
      have hg := valCells_get l (j / 4) hi
      obtain ⟨c0, c1, c2, c3⟩ := h (j / 4) hi
      rw [add_none']
      have hr : j % 4 = 0 ∨ j % 4 = 1 ∨ j % 4 = 2 ∨ j % 4 = 3 := by omega
      rcases hr with hr | hr | hr | hr
      · have e1 : j = j / 4 * 4 := by omega
        rw [e1] at hu ⊢
        rw [hg.1] at hu
        cases hu
        exact c0
      · have e1 : j = j / 4 * 4 + 1 := by omega
        rw [e1] at hu ⊢
        rw [hg.2.1] at hu
        cases hu
        exact c1
      · have e1 : j = j / 4 * 4 + 2 := by omega
        rw [e1] at hu ⊢
        rw [hg.2.2.1] at hu
        cases hu
        exact c2
      · have e1 : j = j / 4 * 4 + 3 := by omega
        rw [e1] at hu ⊢
        rw [hg.2.2.2] at hu
        cases hu
        exact c3
end Go.Proofs.YtekaimfabadclaaDoor
/- The walk of the laws' copied. -/
namespace Go.Proofs.YtekaimfabadclaaDoor
open Go Go.RowKit

theorem VaSh.keep {P : Nat → Prop} {M : Nat} {w w' : World} {ao : Option Addr} {n : Nat} (h : VaSh P M w ao n) (hk : ∀ b, P b → w'.heap[b]? = w.heap[b]?) : VaSh P M w' ao n := by
  rcases h with h | ⟨b, o, e, hp, h⟩
  · exact Or.inl h
  · refine Or.inr ⟨b, o, e, hp, fun i hi => ?_⟩
    have c : ∀ j : Nat, w'.cell? ⟨b, j, none⟩ = w.cell? ⟨b, j, none⟩ := fun j => World.cell?_of_block (w := w) (hk b hp)
    have f : ∀ j : Nat, w'.frozen? ⟨b, j, none⟩ = w.frozen? ⟨b, j, none⟩ := fun j => World.frozen?_of_block (w := w) (hk b hp)
    obtain ⟨⟨v0, a0, b0⟩, ⟨v1, a1, b1⟩, ⟨v2, a2, b2⟩, ⟨v3, a3, b3⟩, g⟩ := h i hi
    exact ⟨⟨v0, (c _).trans a0, b0⟩, ⟨v1, (c _).trans a1, b1⟩, ⟨v2, (c _).trans a2, b2⟩, ⟨v3, (c _).trans a3, b3⟩, fun j hj => (f _).trans (g j hj)⟩
theorem VaSh.mono {P Q : Nat → Prop} {M : Nat} {w : World} {ao : Option Addr} {n : Nat} (h : VaSh P M w ao n) (hq : ∀ b, P b → Q b) : VaSh Q M w ao n := by
  rcases h with h | ⟨b, o, e, hp, h⟩
  · exact Or.inl h
  · exact Or.inr ⟨b, o, e, hq b hp, h⟩
/-- A copied event: its values lie beside a row, in shape. -/
def CopV (B M : Nat) (v : Value) (w : World) (y : EvX) : Prop :=
  y.ev.vals = [] ∨ ∃ b o, y.va = some ⟨b, o, none⟩ ∧ some b ≠ v.ownBlock ∧ b < w.heap.size ∧ B ≤ b ∧ VaSh (· = b) M w y.va y.ev.vals.length ∧ ValsIn w.heap.size w y.va y.ev.vals
theorem CopV.move {B M : Nat} {v v' : Value} {w w' : World} {y : EvX} (h : CopV B M v w y) (hk : ∀ b, b < w.heap.size → some b ≠ v.ownBlock → w'.heap[b]? = w.heap[b]?) (hz : w.heap.size ≤ w'.heap.size) (hr : v'.ownBlock = v.ownBlock ∨ ∃ g, w.heap.size ≤ g ∧ v'.ownBlock = some g) : CopV B M v' w' y := by
  rcases h with h | ⟨b, o, e, h1, h2, h3, h4, h5⟩
  · exact Or.inl h
  · have hb := hk b h2 h1
    refine Or.inr ⟨b, o, e, row_still hr h1 h2, by omega, h3, h4.keep (fun b' e' => by rw [e']; exact hb), ?_⟩
    rcases h5 with h5 | ⟨b', o', e', h6, h7⟩
    · exact Or.inl h5
    · rw [e] at e'
      injection e' with e'
      injection e' with e1 e2
      subst e1 e2
      have c : ∀ j : Nat, w'.cell? ⟨b, j, none⟩ = w.cell? ⟨b, j, none⟩ := fun j => World.cell?_of_block (w := w) hb
      exact Or.inr ⟨b, o, e, by omega, fun i hi => ⟨(c _).trans (h7 i hi).1, (c _).trans (h7 i hi).2.1, (c _).trans (h7 i hi).2.2.1, (c _).trans (h7 i hi).2.2.2⟩⟩
theorem CopV.below {B M : Nat} {v : Value} {w w' : World} {y : EvX} (h : CopV B M v w y) (hb : Below w.heap.size w w') : CopV B M v w' y := h.move (fun b h1 _ => hb.block b h1) hb.size (Or.inl rfl)
/-- The list that copied made. -/
theorem copied_row {w : World} {B M : Nat} {v : Value} {l : List EvX} (h : w.ownsRow B 24 3 v l.length (evCells l)) (hv : ∀ y ∈ l, CopV B M v w y ∧ EvFit M y) : ∃ ea c, v = .slice ea l.length c ∧ l.length ≤ c ∧ c ≤ maxLen ∧ EvSh (Span B w.heap.size) M w ea l.length ∧ EvsIn w.heap.size w ea l := by
  rcases h.2 with ⟨e, h0⟩ | ⟨g, cap', cur, e, hb, hh, hn, hc, hs, ht⟩
  · exact ⟨none, 0, by rw [e, h0], by omega, by unfold maxLen; omega, Or.inl h0, Or.inl (List.eq_nil_of_length_eq_zero h0)⟩
  · have hcell : ∀ i (h : i < l.length), w.cell? ⟨g, i * 3, none⟩ = some (.string l[i].ev.ty) ∧ w.cell? ⟨g, i * 3 + 1, none⟩ = some (.int .i64 l[i].ev.time) ∧ w.cell? ⟨g, i * 3 + 2, none⟩ = some (.slice l[i].va l[i].ev.vals.length l[i].cap) := fun i hi => by
      have hg := evCells_get l i hi
      rw [← ht, List.getElem?_take, if_pos (by omega), List.getElem?_take, if_pos (by omega), List.getElem?_take, if_pos (by omega)] at hg
      rw [cell_of_row w g _ _ _ (0, 0) hh, cell_of_row w g _ _ _ (0, 0) hh, cell_of_row w g _ _ _ (0, 0) hh]
      simpa using hg
    have hgl := (Array.getElem?_eq_some_iff.1 hh).1
    refine ⟨some ⟨g, 0, none⟩, cap', e, hn, hc, Or.inr ⟨g, 0, rfl, ⟨hb, hgl⟩, fun i hi => ?_⟩, Or.inr ⟨g, 0, rfl, hgl, fun i hi => ?_⟩⟩
    · obtain ⟨h1, h2⟩ := hv l[i] (List.getElem_mem hi)
      rw [Nat.zero_add]
      refine ⟨⟨_, (hcell i hi).1, _, rfl, h2.ty⟩, ⟨_, (hcell i hi).2.1, _, rfl, h2.tm⟩, ⟨_, _, _, (hcell i hi).2.2, ?_, h2.vl, fun e => ⟨(h2.vn e).1, by rw [(h2.vn e).2]; rfl⟩⟩, fun j _ => by simp [World.frozen?, hh]⟩
      rcases h1 with h1 | ⟨b, o, e1, h2', h3, h4, h5, _⟩
      · exact Or.inl (by rw [h1]; rfl)
      · exact h5.mono (fun b' e' => by rw [e']; exact ⟨⟨h4, h3⟩, fun e2 => h2' (by rw [e, e2]; rfl)⟩)
    · obtain ⟨h1, h2⟩ := hv l[i] (List.getElem_mem hi)
      refine ⟨by rw [Nat.zero_add]; exact hcell i hi, ?_⟩
      rcases h1 with h1 | ⟨b, o, e1, _, _, _, _, h6⟩
      · exact Or.inl h1
      · exact h6

/-- What copied answers. -/
def CopTo (M : Nat) (es : List EvX) (w : World) (en : Ending) (w' : World) : Prop :=
  ∃ (ea : Option Addr) (c : Nat) (l : List EvX), en = .returned (.slice ea l.length c) ∧ l.length = es.length ∧ xs l = xs es ∧ l.length ≤ c ∧ c ≤ maxLen ∧ EvSh (Span w.heap.size w'.heap.size) M w' ea l.length ∧ EvsIn w'.heap.size w' ea l ∧ (∀ y ∈ l, EvFit M y)

set_option maxHeartbeats 8000000 in
set_option maxRecDepth 100000 in
theorem copied_any (M : Nat) (es : List EvX) (eo : Option Addr) (ec : Nat) (w : World) (he : EvsIn w.heap.size w eo es) (hel : es.length ≤ 2932031007317) (hfit : ∀ y ∈ es, EvFit M y) :
    Calls Tryd.prog 71 #[.slice eo es.length ec] w fun en w' => CopTo M es w en w' ∧ Below w.heap.size w w' := by
  obtain ⟨i0, hi0, hz0, hz1, hz2⟩ := info_parts Tryd.infoEv
  have HE := Lib.hid he
  have HFT := Lib.hid hfit
  clear he hfit
  go_enter Tryd.func71, Tryd.ntmps71
  go_wp2_with fail
  go_loopw [3, 4] (fun v i wr => ∃ (k : Nat) (acc : List EvX), k ≤ es.length ∧ i = .int .i64 k ∧ acc.length = k ∧ xs acc = xs (es.take k) ∧ wr.ownsRow w.heap.size 24 3 v k (evCells acc) ∧ (∀ y ∈ acc, CopV w.heap.size M v wr y ∧ EvFit M y) ∧ Below w.heap.size w wr) (fun _ i _ => es.length - (intOf i).toNat)
  case atStart => exact ⟨0, [], Nat.zero_le _, rfl, rfl, rfl, World.ownsRow_nil _ _ _ _, fun y hy => absurd hy (by simp), Below.refl _ _⟩
  case round =>
    obtain ⟨k, acc, hk, rfl, hal, hxs, hown, hcop, hbel⟩ := hrel
    have HAL := Lib.hid hal
    have HXS := Lib.hid hxs
    have HO := Lib.hid hown
    have HCP := Lib.hid hcop
    have HBE := Lib.hid hbel
    have zr := hbel.size
    have k0 : (0 : Int) ≤ (k : Int) := by omega
    clear hal hxs hown hcop hbel
    by_cases hlt : k < es.length
    · have k1 : (k : Int) < (es.length : Int) := by omega
      obtain ⟨b, o, rfl, hbB, hc⟩ : ∃ b o, eo = some ⟨b, o, none⟩ ∧ b < w.heap.size ∧ ∀ i (h : i < es.length), (wr.cell? ⟨b, o + i * 3, none⟩ = some (.string es[i].ev.ty) ∧ wr.cell? ⟨b, o + i * 3 + 1, none⟩ = some (.int .i64 es[i].ev.time) ∧ wr.cell? ⟨b, o + i * 3 + 2, none⟩ = some (.slice es[i].va es[i].ev.vals.length es[i].cap)) ∧ ValsIn w.heap.size wr es[i].va es[i].ev.vals := by
        rcases HE.out.below HBE.out (Nat.le_refl _) with h | h
        · rw [h] at hlt; simp at hlt
        · exact h
      obtain ⟨⟨x0, x1, x2⟩, hvr⟩ := hc k hlt
      have hfk := HFT.out es[k] (List.getElem_mem hlt)
      have HTK := Lib.hid (List.take_succ_eq_append_getElem hlt)
      obtain ⟨x, hx⟩ : ∃ x, x = es[k] := ⟨_, rfl⟩
      rw [← hx] at x0 x1 x2 hvr hfk HTK
      obtain ⟨⟨ty, tm, vals⟩, va, vc⟩ := x
      simp only at x0 x1 x2 hvr
      have hvl := hfk.vl
      simp only at hvl
      have HFK := Lib.hid hfk
      have HVA := Lib.hid hvr
      obtain ⟨W2, hW2⟩ : ∃ W2, W2 = wr.alloc (Obj.cells #[.string ty, .int .i64 tm, .slice va vals.length vc] 24) := ⟨_, rfl⟩
      obtain ⟨E, hE⟩ : ∃ E, E = wr.heap.size := ⟨_, rfl⟩
      have hb2 : Below wr.heap.size wr W2 := by rw [hW2]; exact (Below.refl _ _).alloc (Nat.le_refl _) _
      have HX2 := Lib.hid (show Cells3 W2 E (.string ty) (.int .i64 tm) (.slice va vals.length vc) by rw [hW2, hE]; exact Cells3.made _ _ _ _ _)
      have HB2 := Lib.hid (HBE.out.trans (hb2.mono zr))
      have HO2 := Lib.hid (owns_below HO.out hb2)
      have HC2 := Lib.hid (show ∀ y ∈ acc, CopV w.heap.size M u3 W2 y ∧ EvFit M y from fun y hy => ⟨(HCP.out y hy).1.below hb2, (HCP.out y hy).2⟩)
      have HAR := Lib.hid (vals_arg (cap := vc) (HVA.out.below hb2 zr) (fun e => HFK.out.vn e))
      have z2 := hb2.size
      have hEr : E < W2.heap.size := HX2.out.lt
      have hwE : w.heap.size ≤ E := by omega
      have HW2 := Lib.hid hW2
      have HEE := Lib.hid hE
      clear hc hx hvr hfk hW2 hb2 hE
      go_upto_region 6 with fail
      rw [← HW2.out, ← HEE.out]
      clear x0 x1 x2
      have c2 := HX2.out.c2
      have f2 := HX2.out.f2
      have HEV := Lib.hid (show ∀ w' : World, Below W2.heap.size W2 w' → Cells3 w' E (.string ty) (.int .i64 tm) (.slice va vals.length vc) from fun w' h => HX2.out.below h)
      go_upto_region 7 with (at_builtin; go_must (refine wpList_append_argV (by rfl) _ _ (by rfl) (by rfl) va vc vals.length vals rfl (by rfl) HAR.out hvl ?_; intro v3 w3 hown3 hb3; have HX3 := Lib.hid (HEV.out w3 hb3); have d2 := HX3.out.c2; have g2 := HX3.out.f2; have HO3 := Lib.hid hown3; have HB3 := Lib.hid hb3; obtain ⟨va3, vc3, rfl, hsh, hvi⟩ := vals_new (l := vals) hown3 M (fun a ha => ⟨HFK.out.vi a ha, HFK.out.vs a ha⟩); have HSH := Lib.hid hsh; have HVI := Lib.hid hvi; clear hown3 hb3 hsh hvi))
      have hsh := HSH.out
      have hvi := HVI.out
      have z3 := HB3.out.size
      obtain ⟨W4, hW4⟩ : ∃ W4, W4 = w3.setCell ⟨E, 2, none⟩ (.slice va3 vals.length vc3) := ⟨_, rfl⟩
      rw [← hW4]
      have hE3 : E < w3.heap.size := by omega
      have hk4 : ∀ q, q ≠ E → W4.heap[q]? = w3.heap[q]? := fun q hq => by rw [hW4]; exact Below.heap_setCell _ _ _ _ (by simpa using hq)
      have hz4 : W4.heap.size = w3.heap.size := by rw [hW4]; simp [World.setCell]
      have HX4 := Lib.hid (show Cells3 W4 E (.string ty) (.int .i64 tm) (.slice va3 vals.length vc3) by rw [hW4]; exact HX3.out.set2 _)
      have HB4 := Lib.hid (show Below w.heap.size w W4 by rw [hW4]; exact (HB2.out.trans (HB3.out.mono (by omega))).setCell hwE _)
      have hoE : ∀ q, u3.ownBlock = some q → q < E := fun q hq => by have := (HO.out.lt q hq).2; have := HEE.out; omega
      have HO4 := Lib.hid (show W4.ownsRow w.heap.size 24 3 u3 k (evCells acc) from (owns_below HO2.out HB3.out).kept (row := some E) ⟨by rw [hW4]; rfl, by rw [hW4]; rfl, by rw [hW4]; rfl, by omega, fun q _ hq => hk4 q (fun e => hq (by rw [e]))⟩ (by
        cases hv : u3.ownBlock with
        | none => exact Or.inl rfl
        | some q => exact Or.inr (fun e => by have := hoE q hv; injection e with e; omega)))
      have HC4 := Lib.hid (show ∀ y ∈ acc, CopV w.heap.size M u3 W4 y ∧ EvFit M y from fun y hy => ⟨by
        rcases (HCP.out y hy).1 with h | ⟨b', o', e', h1, h2, h3, h4, h5⟩
        · exact Or.inl h
        · have hbE : b' ≠ E := by have := HEE.out; omega
          have hcp : CopV w.heap.size M u3 w3 y := (HC2.out y hy).1.below HB3.out
          rcases hcp with h | ⟨b2, o2, e2, k1, k2, k3, k4, k5⟩
          · exact Or.inl h
          · have hb2 : b2 = b' := by rw [e'] at e2; injection e2 with e2; injection e2 with e2 _; exact e2.symm
            subst hb2
            have hkk := hk4 b2 hbE
            refine Or.inr ⟨b2, o2, e2, k1, by omega, k3, k4.keep (fun b' e' => by rw [e']; exact hkk), ?_⟩
            rcases k5 with k5 | ⟨b3, o3, e3, k6, k7⟩
            · exact Or.inl k5
            · rw [e2] at e3
              injection e3 with e3
              injection e3 with e4 e5
              subst e4 e5
              have c : ∀ j : Nat, W4.cell? ⟨b2, j, none⟩ = w3.cell? ⟨b2, j, none⟩ := fun j => World.cell?_of_block (w := w3) hkk
              exact Or.inr ⟨b2, o2, e2, by omega, fun i hi => ⟨(c _).trans (k7 i hi).1, (c _).trans (k7 i hi).2.1, (c _).trans (k7 i hi).2.2.1, (c _).trans (k7 i hi).2.2.2⟩⟩, (HCP.out y hy).2⟩)
      have HN4 := Lib.hid (show CopV w.heap.size M u3 W4 ⟨⟨ty, tm, vals⟩, va3, vc3⟩ by
        rcases hvi with h | ⟨b2, o2, e2, k1, k2⟩
        · exact Or.inl h
        · have hb2 : W2.heap.size ≤ b2 := by
            rcases HO3.out.2 with ⟨e, h0⟩ | ⟨g, cap', cur, e, hg, _⟩
            · injection e with e _ _; rw [e2] at e; cases e
            · injection e with e _ _; rw [e2] at e; injection e with e; injection e with e _; omega
          have hkk := hk4 b2 (by omega)
          have c : ∀ j : Nat, W4.cell? ⟨b2, j, none⟩ = w3.cell? ⟨b2, j, none⟩ := fun j => World.cell?_of_block (w := w3) hkk
          refine Or.inr ⟨b2, o2, e2, fun e => by have := hoE b2 e.symm; omega, by omega, by omega, ?_, Or.inr ⟨b2, o2, e2, by omega, fun i hi => ⟨(c _).trans (k2 i hi).1, (c _).trans (k2 i hi).2.1, (c _).trans (k2 i hi).2.2.1, (c _).trans (k2 i hi).2.2.2⟩⟩⟩
          rcases hsh with h | ⟨b3, o3, e3, _, k4⟩
          · exact Or.inl h
          · rw [e2] at e3
            injection e3 with e3
            injection e3 with e4 e5
            subst e4 e5
            exact (VaSh.keep (P := (· = b2)) (Or.inr ⟨b2, o2, e2, rfl, k4⟩) (fun b' e' => by rw [e']; exact hkk)))
      have HF4 := Lib.hid (show EvFit M ⟨⟨ty, tm, vals⟩, va3, vc3⟩ from ⟨HFK.out.vi, hvl, HFK.out.ty, HFK.out.tm, HFK.out.vs, fun e => by
        simp only at e
        subst e
        rcases HO3.out.2 with ⟨e, h0⟩ | ⟨g, cap', cur, e, _⟩
        · injection e with _ _ e; exact ⟨e, List.eq_nil_of_length_eq_zero h0⟩
        · injection e with e _ _; cases e⟩)
      have hz4' : w.heap.size ≤ W4.heap.size := HB4.out.size
      have y0 := HX4.out.c0
      have y1 := HX4.out.c1
      have y2 := HX4.out.c2
      have HZ4 := Lib.hid hz4
      clear hW4 hk4 hz4 hsh hvi c2 f2 d2 g2 hoE
      go_wp2_with (at_builtin; go_must (refine wpList_append_lies _ (by rfl) _ _ _ (by rfl) w.heap.size 24 i0 _ 3 48 Tryd.underlying38 hi0 hz0 hz1 hz2 rfl (by omega) u3 k (evCells acc) (by rfl) (HO4.out.alloc _) ⟨_, 0, none⟩ 1 1 (EvX.cells ⟨⟨ty, tm, vals⟩, va3, vc3⟩) (by rfl) (by rfl) (World.news_of_block (cs := #[.string ty, .int .i64 tm, .slice va3 vals.length vc3]) (t := 24) (fr := (0, 0)) (heap_alloc_new _ _)) (by simp [EvX.cells, Value.oneCell']) (by omega) (by unfold maxLen; omega) (by omega) (by simp; omega) _ rfl ?_; intro g9 c9 w9 hown9 hgrow9 hat9 hlt9; have HO9 := Lib.hid hown9; have HG9 := Lib.hid hgrow9; have HA9 := Lib.hid hat9; clear hown9 hgrow9 hat9 hlt9))
      have hbo : Below W4.heap.size W4 (W4.alloc (Obj.cells #[.string ty, .int .i64 tm, .slice va3 vals.length vc3] 24)) := (Below.refl _ _).alloc (Nat.le_refl _) _
      have HB9 := Lib.hid (show Below w.heap.size w w9 from (HB4.out.trans (hbo.mono hz4')).grown HG9.out (by simp; omega) (fun j hj => (HO4.out.lt j hj).1))
      have hrow : (Value.slice (some ⟨g9, 0, none⟩) (k + 1) c9).ownBlock = u3.ownBlock ∨ ∃ q, (W4.alloc (Obj.cells #[.string ty, .int .i64 tm, .slice va3 vals.length vc3] 24)).heap.size ≤ q ∧ (Value.slice (some ⟨g9, 0, none⟩) (k + 1) c9).ownBlock = some q := by
        rcases HA9.out with e | e
        · exact Or.inl (e.symm ▸ rfl)
        · exact Or.inr ⟨g9, by omega, rfl⟩
      have HC9 := Lib.hid (show ∀ y ∈ acc ++ [⟨⟨ty, tm, vals⟩, va3, vc3⟩], CopV w.heap.size M (.slice (some ⟨g9, 0, none⟩) (k + 1) c9) w9 y ∧ EvFit M y from fun y hy => by
        rcases List.mem_append.1 hy with hy | hy
        · exact ⟨((HC4.out y hy).1.below hbo).move (fun q h1 h2 => HG9.out.block q h1 h2) HG9.out.size hrow, (HC4.out y hy).2⟩
        · rw [List.mem_singleton.1 hy]
          exact ⟨(HN4.out.below hbo).move (fun q h1 h2 => HG9.out.block q h1 h2) HG9.out.size hrow, HF4.out⟩)
      clear hbo hrow y0 y1 y2
      go_wp2_with fail
      go_roundw
      case rel =>
        refine ⟨k + 1, acc ++ [⟨⟨ty, tm, vals⟩, va3, vc3⟩], by omega, by go_num, by rw [List.length_append, HAL.out]; rfl, ?_, ?_, HC9.out, HB9.out⟩
        · rw [HTK.out]
          unfold xs at HXS ⊢
          rw [List.map_append, List.map_append, HXS.out]
          rfl
        · rw [evCells_snoc]
          exact HO9.out
      case measure => simp [intOf]; omega
    · have k1 : ¬ (k : Int) < (es.length : Int) := by omega
      have hke : k = es.length := by omega
      have ho := HO.out
      rw [← HAL.out] at ho
      obtain ⟨ea, c, rfl, h1, h2, hsh, hev⟩ := copied_row ho HCP.out
      have HR := Lib.hid (show CopTo M es w (.returned (.slice ea acc.length c)) wr from ⟨ea, c, acc, rfl, by rw [HAL.out]; exact hke, by rw [HXS.out, List.take_of_length_le (by omega)], h1, h2, hsh, hev, fun y hy => (HCP.out y hy).2⟩)
      clear ho hsh hev
      go_wp2_with fail
      go_ret
      exact ⟨HR.out, HBE.out⟩
end Go.Proofs.YtekaimfabadclaaDoor
/- The walk of the laws' alone. -/
namespace Go.Proofs.YtekaimfabadclaaDoor
open Go Go.RowKit

/-- What alone answers: the same step, its lists its own. -/
def AloneTo (M : Nat) (x : OpX) (l : List UInt8) (vals : List Val) (es : List EvX) (w : World) (en : Ending) (w' : World) : Prop :=
  ∃ (x' : OpX) (es' : List EvX), en = .returned x'.v ∧ XAt (Span w.heap.size w'.heap.size) M w' x' ∧ Reads M w' x' l vals es' ∧ xs es' = xs es ∧ x'.kind = x.kind ∧ x'.n = x.n ∧ x'.ty = x.ty ∧ x'.tm = x.tm
theorem bytes_arg {w : World} {ao : Option Addr} {cap : Nat} {l : List UInt8} (h : BytesAt w ao l) (hn : ao = none → cap = 0 ∧ l = []) : BytesArg w ao cap l := by
  cases ao with
  | none => exact Or.inl ⟨rfl, (hn rfl).1, (hn rfl).2⟩
  | some ad =>
    rcases h with h | ⟨b, o, e, h⟩
    · exact Or.inr ⟨ad, rfl, fun j u hu => by rw [h] at hu; simp [bytesC] at hu⟩
    · cases e
      exact Or.inr ⟨_, rfl, news_of h⟩
theorem BoxO.set2 {w : World} {b : Nat} {x : OpX} (h : BoxO w b x) (a : Option Addr) (n c : Nat) : BoxO (w.setCell ⟨b, 2, none⟩ (.slice a n c)) b { x with ra := a, rl := n, rc := c } :=
  ⟨(set_ne (by omega)).trans h.c0, (set_ne (by omega)).trans h.c1, World.cell?_setCell_same _ _ _ h.c2, (set_ne (by omega)).trans h.c3, (set_ne (by omega)).trans h.c4, (set_ne (by omega)).trans h.c5, (set_ne (by omega)).trans h.c6, fun j hj => (World.frozen?_setCell _ _ _ _).trans (h.f j hj)⟩
theorem BoxO.set5 {w : World} {b : Nat} {x : OpX} (h : BoxO w b x) (a : Option Addr) (n c : Nat) : BoxO (w.setCell ⟨b, 5, none⟩ (.slice a n c)) b { x with va := a, vl := n, vc := c } :=
  ⟨(set_ne (by omega)).trans h.c0, (set_ne (by omega)).trans h.c1, (set_ne (by omega)).trans h.c2, (set_ne (by omega)).trans h.c3, (set_ne (by omega)).trans h.c4, World.cell?_setCell_same _ _ _ h.c5, (set_ne (by omega)).trans h.c6, fun j hj => (World.frozen?_setCell _ _ _ _).trans (h.f j hj)⟩
theorem BoxO.set6 {w : World} {b : Nat} {x : OpX} (h : BoxO w b x) (a : Option Addr) (n c : Nat) : BoxO (w.setCell ⟨b, 6, none⟩ (.slice a n c)) b { x with ea := a, el := n, ec := c } :=
  ⟨(set_ne (by omega)).trans h.c0, (set_ne (by omega)).trans h.c1, (set_ne (by omega)).trans h.c2, (set_ne (by omega)).trans h.c3, (set_ne (by omega)).trans h.c4, (set_ne (by omega)).trans h.c5, World.cell?_setCell_same _ _ _ h.c6, fun j hj => (World.frozen?_setCell _ _ _ _).trans (h.f j hj)⟩
theorem BySh.keep {P : Nat → Prop} {w w' : World} {ao : Option Addr} {n : Nat} (h : BySh P w ao n) (hk : ∀ b, P b → w'.heap[b]? = w.heap[b]?) : BySh P w' ao n := by
  rcases h with h | ⟨b, o, e, hp, h⟩
  · exact Or.inl h
  · exact Or.inr ⟨b, o, e, hp, fun i hi => ⟨by
      obtain ⟨v, hv, hu⟩ := (h i hi).1
      exact ⟨v, (World.cell?_of_block (w := w) (a := ⟨b, o + i, none⟩) (hk b hp)).trans hv, hu⟩, (World.frozen?_of_block (w := w) (a := ⟨b, o + i, none⟩) (hk b hp)).trans (h i hi).2⟩⟩
theorem BySh.mono {P Q : Nat → Prop} {w : World} {ao : Option Addr} {n : Nat} (h : BySh P w ao n) (hq : ∀ b, P b → Q b) : BySh Q w ao n := by
  rcases h with h | ⟨b, o, e, hp, h⟩
  · exact Or.inl h
  · exact Or.inr ⟨b, o, e, hq b hp, h⟩
theorem EvSh.keep {P : Nat → Prop} {M : Nat} {w w' : World} {ao : Option Addr} {n : Nat} (h : EvSh P M w ao n) (hk : ∀ b, P b → w'.heap[b]? = w.heap[b]?) : EvSh P M w' ao n := by
  rcases h with h | ⟨b, o, e, hp, h⟩
  · exact Or.inl h
  · refine Or.inr ⟨b, o, e, hp, fun i hi => ?_⟩
    have c : ∀ j : Nat, w'.cell? ⟨b, j, none⟩ = w.cell? ⟨b, j, none⟩ := fun j => World.cell?_of_block (w := w) (hk b hp)
    have f : ∀ j : Nat, w'.frozen? ⟨b, j, none⟩ = w.frozen? ⟨b, j, none⟩ := fun j => World.frozen?_of_block (w := w) (hk b hp)
    obtain ⟨⟨v0, a0, b0⟩, ⟨v1, a1, b1⟩, ⟨va, m, cc, a2, b2, b3, b4⟩, g⟩ := h i hi
    exact ⟨⟨v0, (c _).trans a0, b0⟩, ⟨v1, (c _).trans a1, b1⟩, ⟨va, m, cc, (c _).trans a2, b2.keep (fun q hq => hk q hq.1), b3, b4⟩, fun j hj => (f _).trans (g j hj)⟩
theorem EvSh.mono {P Q : Nat → Prop} {M : Nat} {w : World} {ao : Option Addr} {n : Nat} (h : EvSh P M w ao n) (hq : ∀ b, P b → Q b) : EvSh Q M w ao n := by
  rcases h with h | ⟨b, o, e, hp, h⟩
  · exact Or.inl h
  · refine Or.inr ⟨b, o, e, hq b hp, fun i hi => ?_⟩
    obtain ⟨h0, h1, ⟨va, m, cc, a2, b2, b3, b4⟩, g⟩ := h i hi
    exact ⟨h0, h1, ⟨va, m, cc, a2, b2.mono (fun q hp => ⟨hq q hp.1, hp.2⟩), b3, b4⟩, g⟩

theorem row_none {w : World} {B t k n c : Nat} {l : List Value} (h : w.ownsRow B t k (.slice none n c) n l) : c = 0 ∧ n = 0 := by
  rcases h.2 with ⟨e, h0⟩ | ⟨g, cap', cur, e, _⟩
  · injection e with _ _ e
    exact ⟨e, h0⟩
  · injection e with e _ _
    cases e
/-- Shape and content at once. -/
def ByB (P : Nat → Prop) (w : World) (ao : Option Addr) (l : List UInt8) : Prop := BySh P w ao l.length ∧ BytesOn P w ao l
def VaB (P : Nat → Prop) (M : Nat) (w : World) (ao : Option Addr) (l : List Val) : Prop := VaSh P M w ao l.length ∧ ValsOn P w ao l
def EvB (P : Nat → Prop) (M : Nat) (w : World) (ao : Option Addr) (l : List EvX) : Prop := EvSh P M w ao l.length ∧ EvsOn P w ao l
theorem ByB.keep {P Q : Nat → Prop} {w w' : World} {ao : Option Addr} {l : List UInt8} (h : ByB P w ao l) (hk : ∀ b, P b → w'.heap[b]? = w.heap[b]?) (hq : ∀ b, P b → Q b) : ByB Q w' ao l := ⟨(h.1.keep hk).mono hq, (h.2.keep hk).mono hq⟩
theorem VaB.keep {P Q : Nat → Prop} {M : Nat} {w w' : World} {ao : Option Addr} {l : List Val} (h : VaB P M w ao l) (hk : ∀ b, P b → w'.heap[b]? = w.heap[b]?) (hq : ∀ b, P b → Q b) : VaB Q M w' ao l := ⟨(h.1.keep hk).mono hq, (h.2.keep hk).mono hq⟩
theorem EvB.keep {P Q : Nat → Prop} {M : Nat} {w w' : World} {ao : Option Addr} {l : List EvX} (h : EvB P M w ao l) (hk : ∀ b, P b → w'.heap[b]? = w.heap[b]?) (hq : ∀ b, P b → Q b) : EvB Q M w' ao l := ⟨(h.1.keep hk).mono hq, (h.2.keep hk).mono hq⟩
theorem byB_new {w : World} {B : Nat} {v : Value} {l : List UInt8} (h : w.ownsRow B 5 1 v l.length (bytesC l)) : ∃ ao c, v = .slice ao l.length c ∧ ByB (Span B w.heap.size) w ao l ∧ l.length ≤ c ∧ c ≤ maxLen ∧ (ao = none → c = 0 ∧ l.length = 0) := by
  obtain ⟨ao, c, hv, hs, hb, h1, h2⟩ := bytes_new h
  refine ⟨ao, c, hv, ⟨hs, ?_⟩, h1, h2, ?_⟩
  · obtain ⟨ao', c', hv', hb', _⟩ := bytes_own h
    rw [hv] at hv'
    injection hv' with e _ _
    rw [e]
    exact hb'
  · intro e
    rw [hv, e] at h
    exact row_none h
theorem vaB_new {w : World} {B : Nat} {v : Value} {l : List Val} (h : w.ownsRow B 95 4 v l.length (valCells l)) (M : Nat) (hl : ∀ a ∈ l, valIn a ∧ a.str.size ≤ M) : ∃ va c, v = .slice va l.length c ∧ VaB (Span B w.heap.size) M w va l ∧ (va = none → c = 0 ∧ l.length = 0) := by
  obtain ⟨va, c, hv, hs, hb⟩ := vals_new h M hl
  rw [hv] at h
  refine ⟨va, c, hv, ⟨hs, vals_own h⟩, ?_⟩
  intro e
  rw [e] at h
  exact row_none h
theorem evs_on {P : Nat → Prop} {M B : Nat} {w : World} {ao : Option Addr} {l : List EvX} (h : EvSh P M w ao l.length) (k : EvsIn B w ao l) : EvsOn P w ao l := by
  rcases h with h | ⟨b, o, e, hp, h⟩
  · exact Or.inl (List.eq_nil_of_length_eq_zero h)
  · rcases k with k | ⟨b2, o2, e2, _, k⟩
    · exact Or.inl k
    · rw [e] at e2
      injection e2 with e2
      injection e2 with e3 e4
      subst e3 e4
      refine Or.inr ⟨b, o, e, hp, fun i hi => ⟨(k i hi).1, ?_⟩⟩
      obtain ⟨_, _, ⟨va, n, c, a1, a2, _⟩, _⟩ := h i hi
      have hc := (k i hi).1.2.2
      rw [a1] at hc
      injection hc with hc
      injection hc with c1 c2 c3
      subst c1
      rcases a2 with a2 | ⟨b5, o5, e5, hp5, _⟩
      · exact Or.inl (List.eq_nil_of_length_eq_zero (by omega))
      · rcases (k i hi).2 with k2 | ⟨b6, o6, e6, _, k6⟩
        · exact Or.inl k2
        · rw [e5] at e6
          injection e6 with e6
          injection e6 with e7 e8
          subst e7 e8
          exact Or.inr ⟨b5, o5, e5, hp5.1, k6⟩
def set7 (w : World) (R : Nat) (x : OpX) : World := ((((((w.setCell ⟨R, 0, none⟩ (.int .i64 x.kind)).setCell ⟨R, 1, none⟩ (.int .i64 x.n)).setCell ⟨R, 2, none⟩ (.slice x.ra x.rl x.rc)).setCell ⟨R, 3, none⟩ (.string x.ty)).setCell ⟨R, 4, none⟩ (.int .i64 x.tm)).setCell ⟨R, 5, none⟩ (.slice x.va x.vl x.vc)).setCell ⟨R, 6, none⟩ (.slice x.ea x.el x.ec)
theorem set7_size (w : World) (R : Nat) (x : OpX) : (set7 w R x).heap.size = w.heap.size := by simp [set7, World.setCell]
theorem set7_block (w : World) (R : Nat) (x : OpX) (b : Nat) (h : b ≠ R) : (set7 w R x).heap[b]? = w.heap[b]? := by
  unfold set7
  rw [Below.heap_setCell _ _ _ _ (by simpa using h), Below.heap_setCell _ _ _ _ (by simpa using h), Below.heap_setCell _ _ _ _ (by simpa using h), Below.heap_setCell _ _ _ _ (by simpa using h), Below.heap_setCell _ _ _ _ (by simpa using h), Below.heap_setCell _ _ _ _ (by simpa using h), Below.heap_setCell _ _ _ _ (by simpa using h)]
theorem set7_below {a w : World} {B R : Nat} {x : OpX} (h : Below B a w) (hR : B ≤ R) : Below B a (set7 w R x) :=
  ((((((h.setCell hR _).setCell hR _).setCell hR _).setCell hR _).setCell hR _).setCell hR _).setCell hR _
def zeroO : OpX := ⟨0, 0, none, 0, 0, ⟨#[]⟩, 0, none, 0, 0, none, 0, 0⟩

set_option maxHeartbeats 8000000 in
set_option maxRecDepth 100000 in
theorem alone_any (M : Nat) (x : OpX) (l : List UInt8) (vals : List Val) (es : List EvX) (w : World) (hx : OpFit M x) (hrd : Reads M w x l vals es) :
    Calls Tryd.prog 39 #[x.v] w fun en w' => AloneTo M x l vals es w en w' ∧ Below w.heap.size w w' := by
  obtain ⟨kind, n, ra, rl, rc, ty, tm, va, vl, vc, ea, el, ec⟩ := x
  obtain rfl := hrd.rl
  obtain rfl := hrd.vl
  obtain rfl := hrd.el
  obtain ⟨x, hxx⟩ : ∃ x, x = OpX.mk kind n ra l.length rc ty tm va vals.length vc ea es.length ec := ⟨_, rfl⟩
  have HXX := Lib.hid hxx
  rw [← hxx] at hx hrd ⊢
  have HF := Lib.hid hx
  have HF0 := hx
  rw [hxx] at HF0
  have hll := HF0.r.2.2
  have hvll := HF0.vl
  have hell := HF0.el.1
  have hrn := HF0.rn
  have hvn := HF0.vn
  simp only at hll hvll hell hrn hvn
  clear HF0 hxx
  obtain ⟨W, hW⟩ : ∃ W, W = (w.alloc (Obj.cells x.cells 71)).alloc (Obj.cells zeroO.cells 71) := ⟨_, rfl⟩
  have hbW : Below w.heap.size w W := by rw [hW]; exact ((Below.refl _ _).alloc (Nat.le_refl _) _).alloc (by simp) _
  have HB := Lib.hid hbW
  have HRD := Lib.hid hrd
  obtain ⟨E, hE⟩ : ∃ E, E = w.heap.size := ⟨_, rfl⟩
  obtain ⟨R, hR⟩ : ∃ R, R = w.heap.size + 1 := ⟨_, rfl⟩
  have HQ := Lib.hid (show BoxO W E x from BoxO.of (by rw [hE, hW, Below.heap_alloc _ _ _ (by simp)]; exact heap_alloc_new _ _))
  have HT := Lib.hid (show BoxO W R zeroO from BoxO.of (t := 71) (by
    have := heap_alloc_new (w.alloc (Obj.cells x.cells 71)) (Obj.cells zeroO.cells 71)
    rw [World.size_alloc] at this
    rw [hW, hR]
    exact this))
  have hzW : w.heap.size + 1 + 1 = W.heap.size := by rw [hW]; simp
  rw [HXX.out] at hW
  simp only [OpX.cells, zeroO] at hW
  have HW := Lib.hid hW
  have HEE := Lib.hid hE
  have HRE := Lib.hid hR
  have hER : E < R := by omega
  have hRW : R < W.heap.size := by omega
  have hwE : w.heap.size ≤ E := by omega
  have HA := Lib.hid (show BytesArg W ra rc l from bytes_arg (by have := (HRD.out.below HB.out).rb; rw [HXX.out] at this; exact this) (fun e => ⟨(hrn e).1, List.eq_nil_of_length_eq_zero (hrn e).2⟩))
  clear hx hrd hbW hW hE hR hzW hrn
  have hxv : x.v = .agg #[.int .i64 kind, .int .i64 n, .slice ra l.length rc, .string ty, .int .i64 tm, .slice va vals.length vc, .slice ea es.length ec] := by rw [HXX.out]; rfl
  have b2 : W.cell? ⟨E, 2, none⟩ = some (.slice ra l.length rc) := by have := HQ.out.c2; rw [HXX.out] at this; exact this
  have f2 := HQ.out.f 2 (by omega)
  rw [hxv]
  clear hxv
  go_enter Tryd.func39, Tryd.ntmps39
  go_upto_region 1 with fail
  rw [← HW.out, ← HRE.out, ← HEE.out]
  go_upto_region 2 with (at_builtin; go_must (refine wpList_append_arg8 (by rfl) _ _ (by rfl) W.heap.size (.slice none 0 0) [] (by rfl) (owns_nil _ _) ra rc l (by rfl) HA.out (by simp; omega) (Nat.le_refl _) ?_; intro v3 w3 ho3 hg3; rw [List.nil_append] at ho3; obtain ⟨a3, c3, rfl, hb3, hl3, hc3, hn3⟩ := byB_new ho3; have HB3 := Lib.hid (below_of_grown hg3 rfl); have HQ3 := Lib.hid (HQ.out.below HB3.out); have d2 := HQ3.out.c2; have g2 := HQ3.out.f 2 (by omega); have HY3 := Lib.hid hb3; have HN3 := Lib.hid hn3; clear ho3 hg3 hb3 hn3))
  obtain ⟨V3, hV3⟩ : ∃ V3, V3 = w3.setCell ⟨E, 2, none⟩ (.slice a3 l.length c3) := ⟨_, rfl⟩
  rw [← hV3]
  have z3 := HB3.out.size
  have y3 : V3.heap.size = w3.heap.size := by rw [hV3]; simp [World.setCell]
  have k3 : ∀ b, b ≠ E → V3.heap[b]? = w3.heap[b]? := fun b hb => by rw [hV3]; exact Below.heap_setCell _ _ _ _ (by simpa using hb)
  have HB3' := Lib.hid (show Below w.heap.size w V3 by rw [hV3]; exact (HB.out.trans (HB3.out.mono HB.out.size)).setCell hwE _)
  have HQ3' := Lib.hid (show BoxO V3 E ⟨kind, n, a3, l.length, c3, ty, tm, va, vals.length, vc, ea, es.length, ec⟩ by have := HQ3.out.set2 a3 l.length c3; rw [HXX.out, ← hV3] at this; exact this)
  have HY3' := Lib.hid (show ByB (Span W.heap.size V3.heap.size) V3 a3 l from HY3.out.keep (fun b hb => k3 b (by have := hb.1; omega)) (fun b hb => ⟨hb.1, by rw [y3]; exact hb.2⟩))
  have HT3 := Lib.hid (show BoxO V3 R zeroO from (HT.out.below HB3.out).keep (k3 R (by omega)))
  have HA3 := Lib.hid (show ValsArg V3 va vc vals from vals_arg (by have := (HRD.out.below HB3'.out).vb; rw [HXX.out] at this; exact this) (fun e => ⟨(hvn e).1, List.eq_nil_of_length_eq_zero (hvn e).2⟩))
  clear hV3 d2 g2 b2 f2 k3 hvn
  have b5 : V3.cell? ⟨E, 5, none⟩ = some (.slice va vals.length vc) := HQ3'.out.c5
  have f5 := HQ3'.out.f 5 (by omega)
  go_upto_region 3 with (at_builtin; go_must (refine wpList_append_argV (by rfl) _ _ (by rfl) (by rfl) va vc vals.length vals rfl (by rfl) HA3.out hvll ?_; intro v4 w4 ho4 hg4; obtain ⟨a4, c4, rfl, hb4, hn4⟩ := vaB_new ho4 M (fun a ha => ⟨HRD.out.vi a ha, HRD.out.vs a ha⟩); have HB4 := Lib.hid hg4; have HQ4 := Lib.hid (HQ3'.out.below HB4.out); have d5 := HQ4.out.c5; have g5 := HQ4.out.f 5 (by omega); have HY4 := Lib.hid hb4; have HN4 := Lib.hid hn4; clear ho4 hg4 hb4 hn4))
  obtain ⟨V4, hV4⟩ : ∃ V4, V4 = w4.setCell ⟨E, 5, none⟩ (.slice a4 vals.length c4) := ⟨_, rfl⟩
  rw [← hV4]
  have z4 := HB4.out.size
  have y4 : V4.heap.size = w4.heap.size := by rw [hV4]; simp [World.setCell]
  have k4 : ∀ b, b ≠ E → V4.heap[b]? = w4.heap[b]? := fun b hb => by rw [hV4]; exact Below.heap_setCell _ _ _ _ (by simpa using hb)
  have HB4' := Lib.hid (show Below w.heap.size w V4 by rw [hV4]; exact (HB3'.out.trans (HB4.out.mono HB3'.out.size)).setCell hwE _)
  have HQ4' := Lib.hid (show BoxO V4 E ⟨kind, n, a3, l.length, c3, ty, tm, a4, vals.length, c4, ea, es.length, ec⟩ by have := HQ4.out.set5 a4 vals.length c4; rw [← hV4] at this; exact this)
  have HY4' := Lib.hid (show ByB (Span W.heap.size V4.heap.size) V4 a3 l from (HY3'.out.keep (fun b hb => HB4.out.block b hb.2) (fun b hb => ⟨hb.1, Nat.lt_of_lt_of_le hb.2 z4⟩)).keep (fun b (hb : Span W.heap.size w4.heap.size b) => k4 b (by have := hb.1; omega)) (fun b hb => ⟨hb.1, by rw [y4]; exact hb.2⟩))
  have HU4' := Lib.hid (show VaB (Span W.heap.size V4.heap.size) M V4 a4 vals from HY4.out.keep (fun b hb => k4 b (by have := hb.1; omega)) (fun b hb => ⟨by have := hb.1; omega, by rw [y4]; exact hb.2⟩))
  have HT4 := Lib.hid (show BoxO V4 R zeroO from (HT3.out.below HB4.out).keep (k4 R (by omega)))
  have HC := Lib.hid (copied_any M es ea ec V4 (by have := (HRD.out.below HB4'.out).eb; rw [HXX.out] at this; exact this) hell HRD.out.ei)
  clear hV4 d5 g5 b5 f5 k4
  have b6 : V4.cell? ⟨E, 6, none⟩ = some (.slice ea es.length ec) := HQ4'.out.c6
  have f6 := HQ4'.out.f 6 (by omega)
  go_upto_region 4 with ((with_reducible refine HC.out.mono ?_); rintro en w5 ⟨⟨a5, c5, es', rfl, h1, h2, h3, h4, h5, h6, h7⟩, hb5⟩; have HB5 := Lib.hid hb5; have HQ5 := Lib.hid (HQ4'.out.below HB5.out); have d6 := HQ5.out.c6; have g6 := HQ5.out.f 6 (by omega); have HY5 := Lib.hid (show EvB (Span V4.heap.size w5.heap.size) M w5 a5 es' from ⟨h5, evs_on h5 h6⟩); have H1 := Lib.hid h1; have H2 := Lib.hid h2; have H7 := Lib.hid h7; clear hb5 h1 h2 h5 h6 h7)
  obtain ⟨V5, hV5⟩ : ∃ V5, V5 = w5.setCell ⟨E, 6, none⟩ (.slice a5 es'.length c5) := ⟨_, rfl⟩
  rw [← hV5]
  have z5 := HB5.out.size
  have y5 : V5.heap.size = w5.heap.size := by rw [hV5]; simp [World.setCell]
  have k5 : ∀ b, b ≠ E → V5.heap[b]? = w5.heap[b]? := fun b hb => by rw [hV5]; exact Below.heap_setCell _ _ _ _ (by simpa using hb)
  have HB5' := Lib.hid (show Below w.heap.size w V5 by rw [hV5]; exact (HB4'.out.trans (HB5.out.mono HB4'.out.size)).setCell hwE _)
  have HQ5' := Lib.hid (show BoxO V5 E ⟨kind, n, a3, l.length, c3, ty, tm, a4, vals.length, c4, a5, es'.length, c5⟩ by have := HQ5.out.set6 a5 es'.length c5; rw [← hV5] at this; exact this)
  have HY5' := Lib.hid (show ByB (Span W.heap.size V5.heap.size) V5 a3 l from (HY4'.out.keep (fun b hb => HB5.out.block b hb.2) (fun b hb => ⟨hb.1, Nat.lt_of_lt_of_le hb.2 z5⟩)).keep (fun b (hb : Span W.heap.size w5.heap.size b) => k5 b (by have := hb.1; omega)) (fun b hb => ⟨hb.1, by rw [y5]; exact hb.2⟩))
  have HU5' := Lib.hid (show VaB (Span W.heap.size V5.heap.size) M V5 a4 vals from (HU4'.out.keep (fun b hb => HB5.out.block b hb.2) (fun b hb => ⟨hb.1, Nat.lt_of_lt_of_le hb.2 z5⟩)).keep (fun b (hb : Span W.heap.size w5.heap.size b) => k5 b (by have := hb.1; omega)) (fun b hb => ⟨hb.1, by rw [y5]; exact hb.2⟩))
  have HE5' := Lib.hid (show EvB (Span W.heap.size V5.heap.size) M V5 a5 es' from HY5.out.keep (fun b hb => k5 b (by have := hb.1; omega)) (fun b hb => ⟨by have := hb.1; omega, by rw [y5]; exact hb.2⟩))
  have HT5 := Lib.hid (show BoxO V5 R zeroO from (HT4.out.below HB5.out).keep (k5 R (by omega)))
  obtain ⟨x', hx'⟩ : ∃ x' : OpX, x' = ⟨kind, n, a3, l.length, c3, ty, tm, a4, vals.length, c4, a5, es'.length, c5⟩ := ⟨_, rfl⟩
  have HX' := Lib.hid hx'
  obtain ⟨U, hU⟩ : ∃ U, U = set7 V5 R x' := ⟨_, rfl⟩
  have u0 : U.heap.size = V5.heap.size := by rw [hU]; exact set7_size _ _ _
  have hk : ∀ b, Span W.heap.size V5.heap.size b → U.heap[b]? = V5.heap[b]? := fun b hb => by rw [hU]; exact set7_block _ _ _ b (by have := hb.1; omega)
  have hq : ∀ b, Span W.heap.size V5.heap.size b → Span w.heap.size U.heap.size b := fun b hb => ⟨by have := hb.1; omega, by rw [u0]; exact hb.2⟩
  have hB := HY5'.out.keep hk hq
  have hV := HU5'.out.keep hk hq
  have hE := HE5'.out.keep hk hq
  have HR := Lib.hid (show AloneTo M x l vals es w (.returned x'.v) U from by
    clear hU
    have hF := HF.out
    have hxx := HXX.out
    rw [hxx] at hF
    have hs : ∀ b, Span w.heap.size U.heap.size b → b < U.heap.size := fun b hb => hb.2
    have hel : es'.length ≤ 2932031007317 := by rw [H1.out]; exact hell
    clear HX'
    subst hx'
    rw [hxx]
    exact ⟨_, es', rfl, ⟨⟨hF.n, ⟨hl3, hc3, hll⟩, hF.ty, hF.tm, hvll, ⟨hel, h3, h4⟩, HN3.out, HN4.out⟩, hB.1, hV.1, hE.1⟩, ⟨hB.2.at', rfl, hV.2.to hs, rfl, HRD.out.vi, HRD.out.vs, hE.2.to hs, rfl, H7.out⟩, H2.out, rfl, rfl, rfl, rfl⟩)
  rw [hU] at HR
  clear hB hV hE hk hq u0 hU
  have HBB := Lib.hid (show Below w.heap.size w (set7 V5 R x') from set7_below HB5'.out (by omega))
  simp only [hx', OpX.v, set7] at HR HBB
  clear hV5 d6 g6 b6 f6 k5 hx'
  have c0 := HQ5'.out.c0
  have c1 := HQ5'.out.c1
  have c2 := HQ5'.out.c2
  have c3' := HQ5'.out.c3
  have c4' := HQ5'.out.c4
  have c5' := HQ5'.out.c5
  have c6 := HQ5'.out.c6
  have t0 := HT5.out.c0
  have t1 := HT5.out.c1
  have t2 := HT5.out.c2
  have t3 := HT5.out.c3
  have t4 := HT5.out.c4
  have t5 := HT5.out.c5
  have t6 := HT5.out.c6
  have g0 := HT5.out.f 0 (by omega)
  have g1 := HT5.out.f 1 (by omega)
  have g2 := HT5.out.f 2 (by omega)
  have g3 := HT5.out.f 3 (by omega)
  have g4 := HT5.out.f 4 (by omega)
  have g5 := HT5.out.f 5 (by omega)
  have g6 := HT5.out.f 6 (by omega)
  simp only at c0 c1 c2 c3' c4' c5' c6
  go_wp2_with fail
  refine bodyPost_ret (v := .agg #[.int .i64 kind, .int .i64 n, .slice a3 l.length c3, .string ty, .int .i64 tm, .slice a4 vals.length c4, .slice a5 es'.length c5]) (by simp [results, Tryd.results39, go_sem, t0, t1, t2, t3, t4, t5, t6]) rfl ⟨?_, ?_⟩
  · exact HR.out
  · exact HBB.out
end Go.Proofs.YtekaimfabadclaaDoor
/- What a step is meant to answer: the document's own call, of lists of its own. -/
namespace Go.Proofs.YtekaimfabadclaaDoor
open Go Go.RowKit

set_option maxHeartbeats 8000000 in
set_option maxRecDepth 100000 in
theorem meant_any (M : Nat) (x0 : OpX) (l : List UInt8) (vals : List Val) (es0 : List EvX) (w : World) (hx : OpFit M x0) (hrd : Reads M w x0 l vals es0) :
    Calls Tryd.prog 41 #[x0.v] w fun en w' => ToldTo w.heap.size (ansOf x0.kind x0.n l ⟨x0.ty, x0.tm, vals⟩ (xs es0)) en w' ∧ Below w.heap.size w w' := by
  obtain ⟨W0, hW0⟩ : ∃ W0, W0 = (w.alloc (Obj.cells x0.cells 71)).alloc (Obj.cells zeroT 75) := ⟨_, rfl⟩
  have hbW0 : Below w.heap.size w W0 := by rw [hW0]; exact ((Below.refl _ _).alloc (Nat.le_refl _) _).alloc (by simp) _
  have HB0 := Lib.hid hbW0
  obtain ⟨E, hE⟩ : ∃ E, E = w.heap.size := ⟨_, rfl⟩
  obtain ⟨R, hR⟩ : ∃ R, R = w.heap.size + 1 := ⟨_, rfl⟩
  have hq0 : BoxO W0 E x0 := BoxO.of (by rw [hE, hW0, Below.heap_alloc _ _ _ (by simp)]; exact heap_alloc_new _ _)
  have HT0 := Lib.hid (show Cells5 W0 R (.slice none 0 0) (.int .i64 0) (.int .i64 0) (.slice none 0 0) (.int .i64 0) from Cells5.of (t := 75) (by
    have := heap_alloc_new (w.alloc (Obj.cells x0.cells 71)) (Obj.cells zeroT 75)
    rw [World.size_alloc] at this
    rw [hW0, hR]
    exact this))
  have hzW0 : w.heap.size + 1 + 1 = W0.heap.size := by rw [hW0]; simp
  have HC0 := Lib.hid (alone_any M x0 l vals es0 W0 hx (hrd.below hbW0))
  unfold OpX.cells zeroT at hW0
  have HW0 := Lib.hid hW0
  have HEE := Lib.hid hE
  have HRE := Lib.hid hR
  have hRw : w.heap.size ≤ R := by omega
  have hRW0 : R < W0.heap.size := by omega
  have b0 := hq0.c0
  have b1 := hq0.c1
  have b2 := hq0.c2
  have b3' := hq0.c3
  have b4 := hq0.c4
  have b5 := hq0.c5
  have b6 := hq0.c6
  clear hx hrd hbW0 hW0 hE hR hzW0 hq0
  unfold OpX.v at HC0 ⊢
  go_enter Tryd.func41, Tryd.ntmps41
  go_upto_region 1 with fail
  rw [← HW0.out, ← HRE.out, ← HEE.out]
  go_upto_region 2 with ((with_reducible refine HC0.out.mono ?_); rintro en w1 ⟨⟨x, es, rfl, hxa, hxr, hxe, hxk, hxn, hxt, hxm⟩, hb1⟩; have HXK := Lib.hid hxk; have HXN := Lib.hid hxn; have HXT := Lib.hid hxt; have HXM := Lib.hid hxm; have HXE := Lib.hid hxe; clear hxk hxn hxt hxm hxe; simp only [OpX.v])
  have HB1 := Lib.hid (HB0.out.trans (hb1.mono HB0.out.size))
  have z1 := hb1.size
  obtain ⟨W, hW⟩ : ∃ W, W = w1.alloc (Obj.cells x.cells 71) := ⟨_, rfl⟩
  have hbW : Below w1.heap.size w1 W := by rw [hW]; exact (Below.refl _ _).alloc (Nat.le_refl _) _
  have HQ := Lib.hid (show BoxO W w1.heap.size x from BoxO.of (by rw [hW]; exact heap_alloc_new _ _))
  have HB := Lib.hid (HB1.out.trans (hbW.mono HB1.out.size))
  have HRD := Lib.hid (hxr.below hbW)
  have HT := Lib.hid ((HT0.out.below hb1).below hbW)
  have HF := Lib.hid hxa.fit
  have HA0 := Lib.hid (show ansOf x0.kind x0.n l ⟨x0.ty, x0.tm, vals⟩ (xs es0) = ansOf x.kind x.n l ⟨x.ty, x.tm, vals⟩ (xs es) by rw [HXK.out, HXN.out, HXT.out, HXM.out, HXE.out])
  have zW := hbW.size
  have hRW : R < W.heap.size := by omega
  have hzz : w.heap.size ≤ W.heap.size := by omega
  unfold OpX.cells at hW
  rw [← hW]
  obtain ⟨Q, hQ⟩ : ∃ Q, Q = w1.heap.size := ⟨_, rfl⟩
  rw [← hQ] at HQ ⊢
  clear hb1 hxa hxr hbW hW hQ b0 b1 b2 b3' b4 b5 b6
  have b0 := HQ.out.c0
  have b1 := HQ.out.c1
  have b2 := HQ.out.c2
  have b3' := HQ.out.c3
  have b4 := HQ.out.c4
  have b5 := HQ.out.c5
  have b6 := HQ.out.c6
  have hk : x.kind = 1 ∨ x.kind = 2 ∨ x.kind = 3 ∨ x.kind = 4 ∨ x.kind = 5 ∨ x.kind = 6 ∨ ¬ (1 ≤ x.kind ∧ x.kind ≤ 6) := by omega
  obtain ⟨K, hK⟩ : ∃ K, K = x.kind := ⟨_, rfl⟩
  rw [← hK] at b0 hk HA0 ⊢
  clear hK
  rcases hk with rfl | rfl | rfl | rfl | rfl | rfl | hk
  · have HA := Lib.hid (show ansOf 1 x.n l ⟨x.ty, x.tm, vals⟩ (xs es) = ⟨putB x.n, 0, 0, 0, []⟩ from rfl)
    go_wp2_with fail
    (with_reducible refine (refPut_any x.n W (by have := HF.out.n; unfold i64r at this; omega) (by have := HF.out.n; unfold i64r at this; omega)).mono ?_); rintro en w3 ⟨v3, rfl, hx3⟩
    obtain ⟨ba, bc, rfl, hon, hlen⟩ := bytes_own hx3.own
    have HON := Lib.hid hon
    have HB3 := Lib.hid (HB.out.trans (hx3.fresh.mono HB.out.size))
    have HT3 := Lib.hid (HT.out.below hx3.fresh)
    clear hx3 hon
    have t0 := HT3.out.c0
    have t1 := HT3.out.c1
    have t2 := HT3.out.c2
    have t3 := HT3.out.c3
    have t4 := HT3.out.c4
    have g0 := HT3.out.f 0 (by omega)
    have g1 := HT3.out.f 1 (by omega)
    have g2 := HT3.out.f 2 (by omega)
    have g3 := HT3.out.f 3 (by omega)
    have g4 := HT3.out.f 4 (by omega)
    go_wp2_with fail
    refine bodyPost_ret (v := .agg #[.slice ba (putB x.n).length bc, .int .i64 0, .int .i64 0, .slice none 0 0, .int .i64 0]) (by simp [results, Tryd.results41, go_sem, t0, t1, t2, t3, t4]) rfl ⟨?_, set5_below HB3.out (by omega)⟩
    rw [HA0.out, HA.out]
    exact told_mk ⟨putB x.n, 0, 0, 0, []⟩ ba bc none 0 [] ⟨HON.out, hlen, Or.inl rfl, rfl, by simp, by simp⟩ (by omega) (by omega) _ _ _ _ _
  · have HA := Lib.hid (show ansOf 2 x.n l ⟨x.ty, x.tm, vals⟩ (xs es) = ⟨[], (intB l).1, ((intB l).2.1 : Int), (intB l).2.2, []⟩ from rfl)
    have HC := Lib.hid (refInt_any l x.ra x.rc W HRD.out.rb (by have := HF.out.r; have := HRD.out.rl; omega) (by have := HF.out.r; omega))
    rw [HRD.out.rl] at HC
    obtain ⟨⟨i1, i2, i3⟩, hi⟩ : ∃ q, q = intB l := ⟨_, rfl⟩
    rw [← hi] at HC HA
    simp only at HC HA
    clear hi
    go_wp2_with fail
    (with_reducible refine HC.out.mono ?_); rintro en w3 ⟨rfl, hb3⟩
    have HB3 := Lib.hid (HB.out.trans (hb3.mono HB.out.size))
    have HT3 := Lib.hid (HT.out.below hb3)
    have z3 := hb3.size
    clear hb3
    have t0 := HT3.out.c0
    have t1 := HT3.out.c1
    have t2 := HT3.out.c2
    have t3 := HT3.out.c3
    have t4 := HT3.out.c4
    have g0 := HT3.out.f 0 (by omega)
    have g1 := HT3.out.f 1 (by omega)
    have g2 := HT3.out.f 2 (by omega)
    have g3 := HT3.out.f 3 (by omega)
    have g4 := HT3.out.f 4 (by omega)
    go_wp2_with fail
    refine bodyPost_ret (v := .agg #[.slice none 0 0, .int .i64 i1, .int .i64 i2, .slice none 0 0, .int .i64 i3]) (by simp [results, Tryd.results41, go_sem, t0, t1, t2, t3, t4]) rfl ⟨?_, set5_below HB3.out (by omega)⟩
    rw [HA0.out, HA.out]
    exact told_mk ⟨[], i1, i2, i3, []⟩ none 0 none 0 [] ⟨Or.inl rfl, by simp, Or.inl rfl, rfl, by simp, by simp⟩ hRW (by omega) _ _ _ _ _
  · have HA := Lib.hid (show ansOf 3 x.n l ⟨x.ty, x.tm, vals⟩ (xs es) = ⟨if evFault ⟨x.ty, x.tm, vals⟩ = 0 then evE ⟨x.ty, x.tm, vals⟩ else [], 0, 0, evFault ⟨x.ty, x.tm, vals⟩, []⟩ from rfl)
    have HC := Lib.hid (refEncode_any ⟨x.ty, x.tm, vals⟩ x.va x.vc W HRD.out.vb HRD.out.vi (by have := HF.out.vl; have := HRD.out.vl; show vals.length ≤ maxLen; unfold maxLen; omega))
    rw [← ans_ev x vals HRD.out.vl] at HC
    obtain ⟨ev, hev⟩ : ∃ ev : Ev, ev = ⟨x.ty, x.tm, vals⟩ := ⟨_, rfl⟩
    have HEVV := Lib.hid hev
    rw [← hev] at HC HA
    clear hev
    go_wp2_with fail
    (with_reducible refine HC.out.mono ?_); rintro en w3 ⟨hto, hb3⟩
    obtain ⟨ba, bc, b3, rfl, hon, hb, hlen⟩ := enc_on hto
    have HON := Lib.hid hon
    have HB3 := Lib.hid (HB.out.trans (hb3.mono HB.out.size))
    have HT3 := Lib.hid (HT.out.below hb3)
    rw [← hb] at HA
    clear hb3 hon hto hb
    have t0 := HT3.out.c0
    have t1 := HT3.out.c1
    have t2 := HT3.out.c2
    have t3 := HT3.out.c3
    have t4 := HT3.out.c4
    have g0 := HT3.out.f 0 (by omega)
    have g1 := HT3.out.f 1 (by omega)
    have g2 := HT3.out.f 2 (by omega)
    have g3 := HT3.out.f 3 (by omega)
    have g4 := HT3.out.f 4 (by omega)
    go_wp2_with fail
    refine bodyPost_ret (v := .agg #[.slice ba b3.length bc, .int .i64 0, .int .i64 0, .slice none 0 0, .int .i64 (evFault ev)]) (by simp [results, Tryd.results41, go_sem, t0, t1, t2, t3, t4]) rfl ⟨?_, set5_below HB3.out (by omega)⟩
    rw [HA0.out, ← HEVV.out, HA.out]
    exact told_mk ⟨b3, 0, 0, evFault ev, []⟩ ba bc none 0 [] ⟨HON.out, hlen, Or.inl rfl, rfl, by simp, by simp⟩ hRW (by omega) _ _ _ _ _
  · have HA := Lib.hid (show ansOf 4 x.n l ⟨x.ty, x.tm, vals⟩ (xs es) = ⟨[], 0, decN l, (eventR ⟨l, 0⟩).2.fault, [decE l]⟩ from rfl)
    have HC := Lib.hid (refDecode_any l x.ra x.rc W HRD.out.rb (by have := HF.out.r; have := HRD.out.rl; omega) (by have := HF.out.r; omega))
    rw [HRD.out.rl] at HC
    go_wp2_with fail
    (with_reducible refine HC.out.mono ?_); rintro en w3 ⟨hto, hb3⟩
    obtain ⟨va, vc, rfl, hon, hlen⟩ := dec_on hto
    have HON := Lib.hid hon
    have HB3' := Lib.hid (HB.out.trans (hb3.mono HB.out.size))
    have HT3' := Lib.hid (HT.out.below hb3)
    have z3 := hb3.size
    obtain ⟨e, he⟩ : ∃ e, e = decE l := ⟨_, rfl⟩
    obtain ⟨f, hf⟩ : ∃ f, f = (eventR ⟨l, 0⟩).2.fault := ⟨_, rfl⟩
    rw [← he, ← hf] at HA ⊢
    rw [← he] at HON hlen
    simp only [evV]
    clear hb3 hon hto he hf
    go_upto_region 13 with fail
    obtain ⟨W4, hW4⟩ : ∃ W4, W4 = w3.alloc (Obj.cells #[.string e.ty, .int .i64 e.time, .slice va e.vals.length vc] 24) := ⟨_, rfl⟩
    rw [← hW4]
    have hb4 : Below w3.heap.size w3 W4 := by rw [hW4]; exact (Below.refl _ _).alloc (Nat.le_refl _) _
    have HC4 := Lib.hid (show Cells3 W4 w3.heap.size (.string e.ty) (.int .i64 e.time) (.slice va e.vals.length vc) by rw [hW4]; exact Cells3.made _ _ _ _ _)
    have z4 := hb4.size
    have HB4 := Lib.hid (HB3'.out.trans (hb4.mono HB3'.out.size))
    have HT4 := Lib.hid (HT3'.out.below hb4)
    have HON4 := Lib.hid (show ValsOn (Span W.heap.size W4.heap.size) W4 va e.vals from (HON.out.keep (fun b hb => hb4.block b hb.2)).mono (fun b hb => ⟨hb.1, by have := hb.2; omega⟩))
    have e0 := HC4.out.c0
    have e1 := HC4.out.c1
    have e2 := HC4.out.c2
    clear hb4 hW4
    have t0 := HT4.out.c0
    have t1 := HT4.out.c1
    have t2 := HT4.out.c2
    have t3 := HT4.out.c3
    have t4 := HT4.out.c4
    have g0 := HT4.out.f 0 (by omega)
    have g1 := HT4.out.f 1 (by omega)
    have g2 := HT4.out.f 2 (by omega)
    have g3 := HT4.out.f 3 (by omega)
    have g4 := HT4.out.f 4 (by omega)
    have hR4 : R < W4.heap.size := by omega
    go_wp2_with fail
    refine bodyPost_ret (v := .agg #[.slice none 0 0, .int .i64 0, .int .i64 (decN l), .slice (some ⟨W4.heap.size, 0, none⟩) 1 1, .int .i64 f]) (by simp [results, Tryd.results41, go_sem, t0, t1, t2, t3, t4, hR4]) rfl ⟨?_, ?_⟩
    · rw [HA0.out, HA.out]
      exact told_one e va vc 0 (decN l) f 24 HON4.out hlen hRW (by omega) (by omega) _ _ _ _ _
    · exact (set5_below HB4.out (by omega)).alloc (by rw [set5_size]; omega) _
  · have HA := Lib.hid (show ansOf 5 x.n l ⟨x.ty, x.tm, vals⟩ (xs es) = ⟨if packF (xs es) = 0 then packB (xs es) else [], 0, 0, packF (xs es), []⟩ from rfl)
    have HC := Lib.hid (refPack_any es x.ea x.ec W HRD.out.eb (by have := HRD.out.el; have := HF.out.el; unfold maxLen; omega) (fun y hy => ⟨(HRD.out.ei y hy).vi, by have := (HRD.out.ei y hy).vl; unfold maxLen; omega⟩))
    rw [HRD.out.el] at HC
    go_wp2_with fail
    (with_reducible refine HC.out.mono ?_); rintro en w3 ⟨hto, hb3⟩
    obtain ⟨ba, bc, b3, rfl, hon, hb, hlen⟩ := pack_on hto
    have HON := Lib.hid hon
    have HB3 := Lib.hid (HB.out.trans (hb3.mono HB.out.size))
    have HT3 := Lib.hid (HT.out.below hb3)
    rw [← hb] at HA
    clear hb3 hon hto hb
    have t0 := HT3.out.c0
    have t1 := HT3.out.c1
    have t2 := HT3.out.c2
    have t3 := HT3.out.c3
    have t4 := HT3.out.c4
    have g0 := HT3.out.f 0 (by omega)
    have g1 := HT3.out.f 1 (by omega)
    have g2 := HT3.out.f 2 (by omega)
    have g3 := HT3.out.f 3 (by omega)
    have g4 := HT3.out.f 4 (by omega)
    go_wp2_with fail
    refine bodyPost_ret (v := .agg #[.slice ba b3.length bc, .int .i64 0, .int .i64 0, .slice none 0 0, .int .i64 (packF (xs es))]) (by simp [results, Tryd.results41, go_sem, t0, t1, t2, t3, t4]) rfl ⟨?_, set5_below HB3.out (by omega)⟩
    rw [HA0.out, HA.out]
    exact told_mk ⟨b3, 0, 0, packF (xs es), []⟩ ba bc none 0 [] ⟨HON.out, hlen, Or.inl rfl, rfl, by simp, by simp⟩ hRW (by omega) _ _ _ _ _
  · have HA := Lib.hid (show ansOf 6 x.n l ⟨x.ty, x.tm, vals⟩ (xs es) = ⟨[], 0, 0, unF l, if unF l = 0 then (batchR ⟨l.take (l.length - 4), 0⟩).1 else []⟩ from rfl)
    have HC := Lib.hid (refUnpack_any l x.ra x.rc W HRD.out.rb (by have := HF.out.r; have := HRD.out.rl; omega) (by have := HF.out.r; omega))
    rw [HRD.out.rl] at HC
    go_wp2_with fail
    (with_reducible refine HC.out.mono ?_); rintro en w3 ⟨hto, hb3⟩
    obtain ⟨acc, ea, ec, rfl, hx, hon, hlen, hvl⟩ := un_on hto
    have HON := Lib.hid hon
    have HVL := Lib.hid hvl
    have HX := Lib.hid hx
    have HB3 := Lib.hid (HB.out.trans (hb3.mono HB.out.size))
    have HT3 := Lib.hid (HT.out.below hb3)
    rw [← hx] at HA
    clear hb3 hon hto hx hvl
    have t0 := HT3.out.c0
    have t1 := HT3.out.c1
    have t2 := HT3.out.c2
    have t3 := HT3.out.c3
    have t4 := HT3.out.c4
    have g0 := HT3.out.f 0 (by omega)
    have g1 := HT3.out.f 1 (by omega)
    have g2 := HT3.out.f 2 (by omega)
    have g3 := HT3.out.f 3 (by omega)
    have g4 := HT3.out.f 4 (by omega)
    go_wp2_with fail
    refine bodyPost_ret (v := .agg #[.slice none 0 0, .int .i64 0, .int .i64 0, .slice ea acc.length ec, .int .i64 (unF l)]) (by simp [results, Tryd.results41, go_sem, t0, t1, t2, t3, t4]) rfl ⟨?_, set5_below HB3.out (by omega)⟩
    rw [HA0.out, HA.out]
    exact told_mk ⟨[], 0, 0, unF l, xs acc⟩ none 0 ea ec acc ⟨Or.inl rfl, by simp, HON.out, rfl, hlen, HVL.out⟩ hRW (by omega) _ _ _ _ _
  · have HA := Lib.hid (show ansOf K x.n l ⟨x.ty, x.tm, vals⟩ (xs es) = ⟨[], 0, 0, 0, []⟩ by
      unfold ansOf
      rw [if_neg (by omega), if_neg (by omega), if_neg (by omega), if_neg (by omega), if_neg (by omega), if_neg (by omega)])
    have q1 : (K == 1) = false := by rw [beq_eq_false_iff_ne]; omega
    have q2 : (K == 2) = false := by rw [beq_eq_false_iff_ne]; omega
    have q3 : (K == 3) = false := by rw [beq_eq_false_iff_ne]; omega
    have q4 : (K == 4) = false := by rw [beq_eq_false_iff_ne]; omega
    have q5 : (K == 5) = false := by rw [beq_eq_false_iff_ne]; omega
    have q6 : (K == 6) = false := by rw [beq_eq_false_iff_ne]; omega
    have HB3 := Lib.hid HB.out
    have HT3 := Lib.hid HT.out
    clear hk
    have t0 := HT3.out.c0
    have t1 := HT3.out.c1
    have t2 := HT3.out.c2
    have t3 := HT3.out.c3
    have t4 := HT3.out.c4
    have g0 := HT3.out.f 0 (by omega)
    have g1 := HT3.out.f 1 (by omega)
    have g2 := HT3.out.f 2 (by omega)
    have g3 := HT3.out.f 3 (by omega)
    have g4 := HT3.out.f 4 (by omega)
    go_wp2_with fail
    refine bodyPost_ret (v := .agg #[.slice none 0 0, .int .i64 0, .int .i64 0, .slice none 0 0, .int .i64 0]) (by simp [results, Tryd.results41, go_sem, t0, t1, t2, t3, t4]) rfl ⟨?_, set5_below HB3.out (by omega)⟩
    rw [HA0.out, HA.out]
    exact told_mk ⟨[], 0, 0, 0, []⟩ none 0 none 0 [] ⟨Or.inl rfl, by simp, Or.inl rfl, rfl, by simp, by simp⟩ hRW (by omega) _ _ _ _ _
end Go.Proofs.YtekaimfabadclaaDoor
/- The laws' agree, weight: at two answers that hold the same. -/
namespace Go.Proofs.YtekaimfabadclaaDoor
open Go Go.RowKit

set_option maxHeartbeats 8000000 in
set_option maxRecDepth 100000 in
theorem agree_any (P Q : Nat → Prop) (T : TC) (ba ea ba' ea' : Option Addr) (bc ec bc' ec' : Nat) (acc acc' : List EvX) (w : World) (ha : TolAt P w T ba ea acc) (hb : TolAt Q w T ba' ea' acc') (hP : ∀ b, P b → b < w.heap.size) (hQ : ∀ b, Q b → b < w.heap.size) :
    Calls Tryd.prog 42 #[toldV ba T.b.length bc T.n T.k ea acc.length ec T.f, toldV ba' T.b.length bc' T.n T.k ea' acc'.length ec' T.f] w fun en w' => en = .returned (.bool true) ∧ Below w.heap.size w w' := by
  obtain ⟨W, hW⟩ : ∃ W, W = (w.alloc (Obj.cells #[.slice ba T.b.length bc, .int .i64 T.n, .int .i64 T.k, .slice ea acc.length ec, .int .i64 T.f] 75)).alloc (Obj.cells #[.slice ba' T.b.length bc', .int .i64 T.n, .int .i64 T.k, .slice ea' acc'.length ec', .int .i64 T.f] 75) := ⟨_, rfl⟩
  have hbW : Below w.heap.size w W := by rw [hW]; exact ((Below.refl _ _).alloc (Nat.le_refl _) _).alloc (by simp) _
  have HB := Lib.hid hbW
  obtain ⟨E, hE⟩ : ∃ E, E = w.heap.size := ⟨_, rfl⟩
  obtain ⟨R, hR⟩ : ∃ R, R = w.heap.size + 1 := ⟨_, rfl⟩
  have hp : Cells5 W E (.slice ba T.b.length bc) (.int .i64 T.n) (.int .i64 T.k) (.slice ea acc.length ec) (.int .i64 T.f) := Cells5.of (t := 75) (by rw [hE, hW, Below.heap_alloc _ _ _ (by simp)]; exact heap_alloc_new _ _)
  have hq : Cells5 W R (.slice ba' T.b.length bc') (.int .i64 T.n) (.int .i64 T.k) (.slice ea' acc'.length ec') (.int .i64 T.f) := Cells5.of (t := 75) (by
    have := heap_alloc_new (w.alloc (Obj.cells #[.slice ba T.b.length bc, .int .i64 T.n, .int .i64 T.k, .slice ea acc.length ec, .int .i64 T.f] 75)) (Obj.cells #[.slice ba' T.b.length bc', .int .i64 T.n, .int .i64 T.k, .slice ea' acc'.length ec', .int .i64 T.f] 75)
    rw [World.size_alloc] at this
    rw [hW, hR]
    exact this)
  have HP := Lib.hid hp
  have HQ := Lib.hid hq
  have HS := Lib.hid (same_same T.b ba ba' bc bc' W ha.bl (ha.b.at'.below hbW) (hb.b.at'.below hbW))
  have HL := Lib.hid (show ∀ w1, Below W.heap.size W w1 → Calls Tryd.prog 21 #[.slice ea acc.length ec, .slice ea' acc'.length ec'] w1 fun en w' => en = .returned (.bool true) ∧ Below w1.heap.size w1 w' from fun w1 h1 => by
    have h2 : Below w.heap.size w w1 := hbW.trans (h1.mono hbW.size)
    exact lists_any w.heap.size w.heap.size acc acc' ea ea' ec ec' w1 ((ha.e.to hP).below h2 (Nat.le_refl _)) ((hb.e.to hQ).below h2 (Nat.le_refl _)) (ha.x.trans hb.x.symm) h2.size h2.size ha.el ha.ev)
  have HW := Lib.hid hW
  have HEE := Lib.hid hE
  have HRE := Lib.hid hR
  have p0 := hp.c0
  have p1 := hp.c1
  have p2 := hp.c2
  have p3 := hp.c3
  have p4 := hp.c4
  have q0 := hq.c0
  have q1 := hq.c1
  have q2 := hq.c2
  have q3 := hq.c3
  have q4 := hq.c4
  clear ha hb hP hQ hW hbW hE hR hp hq
  unfold toldV
  go_enter Tryd.func42, Tryd.ntmps42
  go_upto_region 1 with fail
  rw [← HW.out, ← HRE.out, ← HEE.out]
  obtain ⟨n, hn⟩ : ∃ n, n = T.n := ⟨_, rfl⟩
  obtain ⟨k, hk⟩ : ∃ k, k = T.k := ⟨_, rfl⟩
  obtain ⟨f, hf⟩ : ∃ f, f = T.f := ⟨_, rfl⟩
  rw [← hn] at p1 q1 ⊢
  rw [← hk] at p2 q2 ⊢
  rw [← hf] at p4 q4 ⊢
  clear hn hk hf
  go_wp2_with first
    | ((with_reducible refine HS.out.mono ?_); rintro en w1 ⟨rfl, hb1⟩; have HB1 := Lib.hid hb1; have d3 := (HP.out.below hb1).c3; have e3 := (HQ.out.below hb1).c3; clear hb1)
    | ((with_reducible refine (HL.out _ HB1.out).mono ?_); rintro en w2 ⟨rfl, hb2⟩; have HB2 := Lib.hid hb2; clear hb2)
  go_ret
  exact ⟨rfl, HB.out.trans ((HB1.out.trans (HB2.out.mono HB1.out.size)).mono HB.out.size)⟩
end Go.Proofs.YtekaimfabadclaaDoor
/- The laws' weight: some number. -/
namespace Go.Proofs.YtekaimfabadclaaDoor
open Go Go.RowKit

set_option maxHeartbeats 8000000 in
set_option maxRecDepth 100000 in
theorem weight_any (P : Nat → Prop) (T : TC) (ba ea : Option Addr) (bc ec : Nat) (acc : List EvX) (w : World) (ha : TolAt P w T ba ea acc) (hP : ∀ b, P b → b < w.heap.size) :
    Calls Tryd.prog 43 #[toldV ba T.b.length bc T.n T.k ea acc.length ec T.f] w fun en w' => (∃ z, en = .returned (.int .i64 z)) ∧ Below w.heap.size w w' := by
  obtain ⟨W, hW⟩ : ∃ W, W = w.alloc (Obj.cells #[.slice ba T.b.length bc, .int .i64 T.n, .int .i64 T.k, .slice ea acc.length ec, .int .i64 T.f] 75) := ⟨_, rfl⟩
  have hbW : Below w.heap.size w W := by rw [hW]; exact (Below.refl _ _).alloc (Nat.le_refl _) _
  have HB := Lib.hid hbW
  have hp : Cells5 W w.heap.size (.slice ba T.b.length bc) (.int .i64 T.n) (.int .i64 T.k) (.slice ea acc.length ec) (.int .i64 T.f) := Cells5.of (t := 75) (by rw [hW]; exact heap_alloc_new _ _)
  have HEV := Lib.hid ((ha.e.to hP).below hbW (Nat.le_refl _))
  have HV := Lib.hid ha.ev
  have hbl := ha.bl
  have hel := ha.el
  have p0 := hp.c0
  have p3 := hp.c3
  have HW := Lib.hid hW
  unfold maxLen at hbl hel
  clear ha hP hW hbW hp
  unfold toldV
  obtain ⟨E, hE⟩ : ∃ E, E = w.heap.size := ⟨_, rfl⟩
  have HEE := Lib.hid hE
  rw [← hE] at p0 p3
  clear hE
  obtain ⟨bl, hbl'⟩ : ∃ bl, bl = T.b.length := ⟨_, rfl⟩
  rw [← hbl'] at p0 hbl HW ⊢
  clear hbl'
  go_enter Tryd.func43, Tryd.ntmps43
  go_upto_region 1 with fail
  rw [← HW.out, ← HEE.out]
  go_upto_region 3 with fail
  go_loopw [3, 4] (fun n i wr => ∃ (k : Nat) (z : Int), n = .int .i64 z ∧ i = .int .i64 k ∧ k ≤ acc.length ∧ wr = W) (fun _ i _ => acc.length - (intOf i).toNat)
  case atStart => exact ⟨0, _, rfl, rfl, Nat.zero_le _, rfl⟩
  case round =>
    obtain ⟨k, z, rfl, rfl, hk, rfl⟩ := hrel
    have k0 : (0 : Int) ≤ (k : Int) := by omega
    by_cases hlt : k < acc.length
    · have k1 : (k : Int) < (acc.length : Int) := by omega
      obtain ⟨b, o, rfl, hc⟩ : ∃ b o, ea = some ⟨b, o, none⟩ ∧ wr.cell? ⟨b, o + k * 3 + 2, none⟩ = some (.slice acc[k].va acc[k].ev.vals.length acc[k].cap) := by
        rcases HEV.out with h | ⟨b, o, e, _, h⟩
        · rw [h] at hlt; simp at hlt
        · exact ⟨b, o, e, (h k hlt).1.2.2⟩
      obtain ⟨va, m, c, hm⟩ : ∃ va m c, (Value.slice acc[k].va acc[k].ev.vals.length acc[k].cap) = .slice va m c := ⟨_, _, _, rfl⟩
      rw [hm] at hc
      clear hm
      go_wp2_with fail
      go_roundw
      case rel => exact ⟨k + 1, _, rfl, by go_num, by omega, trivial⟩
      case measure => simp [intOf]; omega
    · have k1 : ¬ (k : Int) < (acc.length : Int) := by omega
      go_wp2_with fail
      go_ret
      exact ⟨⟨_, rfl⟩, HB.out⟩
end Go.Proofs.YtekaimfabadclaaDoor
/- The laws' event: something in it is another one, its values written over in place. -/
namespace Go.Proofs.YtekaimfabadclaaDoor
open Go Go.RowKit

/-- Memory written in place, within blocks of a kind. -/
structure Wrote (P : Nat → Prop) (M : Nat) (w w' : World) : Prop where
  ok : WrOk M w w'
  far : ∀ b, b < w.heap.size → ¬ P b → w'.heap[b]? = w.heap[b]?
  below : ∀ B, B ≤ w.heap.size → (∀ b, P b → B ≤ b) → Below B w w'
theorem Wrote.of_below {P : Nat → Prop} {M : Nat} {w w' : World} (h : Below w.heap.size w w') : Wrote P M w w' := ⟨WrOk.below h, fun b hb _ => h.block b hb, fun _B hB _ => h.mono hB⟩
theorem Wrote.set {P : Nat → Prop} {M : Nat} {w w' : World} {b o : Nat} {u u' : Value} (h : Wrote P M w w') (hP : P b) (hu : w'.cell? ⟨b, o, none⟩ = some u) (ha : Alike M u u') : Wrote P M w (w'.setCell ⟨b, o, none⟩ u') :=
  ⟨h.ok.trans (WrOk.set hu ha), fun q hq hn => (Below.heap_setCell _ _ _ _ (by intro e; exact hn (e ▸ hP))).trans (h.far q hq hn), fun B hB hp => (h.below B hB hp).setCell (hp b hP) _⟩
theorem Wrote.trans {P : Nat → Prop} {M : Nat} {w w' w'' : World} (h : Wrote P M w w') (k : Wrote P M w' w'') : Wrote P M w w'' :=
  ⟨h.ok.trans k.ok, fun q hq hn => (k.far q (Nat.lt_of_lt_of_le hq h.ok.1) hn).trans (h.far q hq hn), fun B hB hp => (h.below B hB hp).trans (k.below B (Nat.le_trans hB h.ok.1) hp)⟩
theorem Wrote.new {P : Nat → Prop} {M : Nat} {w w' : World} {b : Nat} (h : Wrote P M w w') (hb : w.heap.size ≤ b) (o : Nat) (u : Value) : Wrote P M w (w'.setCell ⟨b, o, none⟩ u) :=
  ⟨⟨by have := h.ok.1; simpa [World.setCell] using this, fun b2 o2 hb2 => ⟨(World.frozen?_setCell _ _ _ _).trans (h.ok.2 b2 o2 hb2).1, fun v hv => by
    obtain ⟨v', h1, h2⟩ := (h.ok.2 b2 o2 hb2).2 v hv
    exact ⟨v', (World.cell?_setCell_other _ _ _ _ (by intro e; injection e; omega)).trans h1, h2⟩⟩⟩,
   fun q hq hn => (Below.heap_setCell _ _ _ _ (by intro e; simp only at e; omega)).trans (h.far q hq hn), fun B hB hp => (h.below B hB hp).setCell (Nat.le_trans hB hb) _⟩
theorem bits_i64 (op : BinOp) (a b : Int) : i64r (bits op .i64 a b) := by
  unfold bits
  exact i64r_wrap _
theorem Wrote.four {P : Nat → Prop} {M : Nat} {w V : World} {b o : Nat} {z z1 z1' : Int} {s s' : ByteArray} {c c' : Bool} (h : Wrote P (M + 1) w V) (hP : P b) (a0 : V.cell? ⟨b, o, none⟩ = some (.int .i64 z)) (a1 : V.cell? ⟨b, o + 1, none⟩ = some (.int .i64 z1)) (a2 : V.cell? ⟨b, o + 2, none⟩ = some (.string s)) (a3 : V.cell? ⟨b, o + 3, none⟩ = some (.bool c)) (r1 : i64r z1) (r1' : i64r z1') (hs : s'.size ≤ M) :
    Wrote P (M + 1) w ((((V.setCell ⟨b, o, none⟩ (.int .i64 z)).setCell ⟨b, o + 1, none⟩ (.int .i64 z1')).setCell ⟨b, o + 2, none⟩ (.string s')).setCell ⟨b, o + 3, none⟩ (.bool c')) := by
  refine (((h.set hP a0 (Or.inl rfl)).set hP (u := .int .i64 z1) ?_ (Or.inr (Or.inr (Or.inl ⟨⟨_, rfl, r1⟩, ⟨_, rfl, r1'⟩⟩)))).set hP (u := .string s) ?_ (Or.inr (Or.inr (Or.inr (Or.inl ⟨⟨_, rfl⟩, ⟨_, rfl, by omega⟩⟩))))).set hP (u := .bool c) ?_ (Or.inr (Or.inr (Or.inr (Or.inr ⟨⟨_, rfl⟩, ⟨_, rfl⟩⟩))))
  · exact (set_ne (by omega)).trans a1
  · exact (set_ne (by omega)).trans ((set_ne (by omega)).trans a2)
  · exact (set_ne (by omega)).trans ((set_ne (by omega)).trans ((set_ne (by omega)).trans a3))
theorem Cells4.put1 {w : World} {b : Nat} {v0 v1 v2 v3 : Value} (h : Cells4 w b v0 v1 v2 v3) (x : Value) : Cells4 (w.setCell ⟨b, 1, none⟩ x) b v0 x v2 v3 :=
  ⟨(set_ne (by omega)).trans h.c0, World.cell?_setCell_same _ _ _ h.c1, (set_ne (by omega)).trans h.c2, (set_ne (by omega)).trans h.c3, (World.frozen?_setCell _ _ _ _).trans h.f0, (World.frozen?_setCell _ _ _ _).trans h.f1, (World.frozen?_setCell _ _ _ _).trans h.f2, (World.frozen?_setCell _ _ _ _).trans h.f3⟩
theorem Cells4.put2 {w : World} {b : Nat} {v0 v1 v2 v3 : Value} (h : Cells4 w b v0 v1 v2 v3) (x : Value) : Cells4 (w.setCell ⟨b, 2, none⟩ x) b v0 v1 x v3 :=
  ⟨(set_ne (by omega)).trans h.c0, (set_ne (by omega)).trans h.c1, World.cell?_setCell_same _ _ _ h.c2, (set_ne (by omega)).trans h.c3, (World.frozen?_setCell _ _ _ _).trans h.f0, (World.frozen?_setCell _ _ _ _).trans h.f1, (World.frozen?_setCell _ _ _ _).trans h.f2, (World.frozen?_setCell _ _ _ _).trans h.f3⟩
theorem Cells4.put3 {w : World} {b : Nat} {v0 v1 v2 v3 : Value} (h : Cells4 w b v0 v1 v2 v3) (x : Value) : Cells4 (w.setCell ⟨b, 3, none⟩ x) b v0 v1 v2 x :=
  ⟨(set_ne (by omega)).trans h.c0, (set_ne (by omega)).trans h.c1, (set_ne (by omega)).trans h.c2, World.cell?_setCell_same _ _ _ h.c3, (World.frozen?_setCell _ _ _ _).trans h.f0, (World.frozen?_setCell _ _ _ _).trans h.f1, (World.frozen?_setCell _ _ _ _).trans h.f2, (World.frozen?_setCell _ _ _ _).trans h.f3⟩

set_option maxHeartbeats 8000000 in
set_option maxRecDepth 100000 in
theorem evOther_any (P : Nat → Prop) (M : Nat) (k : Int) (ty : ByteArray) (tm : Int) (va : Option Addr) (vl vc : Nat) (w : World) (hP : ∀ b, P b → b < w.heap.size) (h0 : 0 ≤ k) (h1 : k ≤ 9223372036854775807) (hty : ty.size ≤ M) (htm : i64r tm) (hva : VaSh P M w va vl) (hvl : vl ≤ 3518437208780) (hM : M ≤ 281474976710656) :
    Calls Tryd.prog 70 #[.agg #[.string ty, .int .i64 tm, .slice va vl vc], .int .i64 k] w fun en w' => (∃ ty' tm', en = .returned (.agg #[.string ty', .int .i64 tm', .slice va vl vc]) ∧ ty'.size ≤ M + 1 ∧ i64r tm') ∧ Wrote P (M + 1) w w' := by
  obtain ⟨W, hW⟩ : ∃ W, W = (w.alloc (Obj.cells #[.string ty, .int .i64 tm, .slice va vl vc] 24)).alloc (Obj.cells #[.string ⟨#[]⟩, .int .i64 0, .slice none 0 0] 24) := ⟨_, rfl⟩
  have hbW : Below w.heap.size w W := by rw [hW]; exact ((Below.refl _ _).alloc (Nat.le_refl _) _).alloc (by simp) _
  have HB := Lib.hid hbW
  obtain ⟨E, hE⟩ : ∃ E, E = w.heap.size := ⟨_, rfl⟩
  obtain ⟨R, hR⟩ : ∃ R, R = w.heap.size + 1 := ⟨_, rfl⟩
  have hq : Cells3 W E (.string ty) (.int .i64 tm) (.slice va vl vc) := by
    have := Cells3.made w (.string ty) (.int .i64 tm) (.slice va vl vc) 24
    rw [hE, hW]
    exact this.below ((Below.refl _ _).alloc (Nat.le_refl _) _)
  have hr : Cells3 W R (.string ⟨#[]⟩) (.int .i64 0) (.slice none 0 0) := by
    have := Cells3.made (w.alloc (Obj.cells #[.string ty, .int .i64 tm, .slice va vl vc] 24)) (.string ⟨#[]⟩) (.int .i64 0) (.slice none 0 0) 24
    rw [World.size_alloc] at this
    rw [hR, hW]
    exact this
  have HQ := Lib.hid hq
  have HR := Lib.hid hr
  have HVA := Lib.hid (hva.wr (WrOk.below (M := M) hbW) (Nat.le_refl _))
  have HPP := Lib.hid hP
  have HW := Lib.hid hW
  have HEE := Lib.hid hE
  have HRE := Lib.hid hR
  have HTM := Lib.hid htm
  have hzW : w.heap.size + 1 + 1 = W.heap.size := by rw [hW]; simp
  have hER : E < R := by omega
  have hRW : R < W.heap.size := by omega
  have hwE : w.heap.size ≤ E := by omega
  clear hW hbW hE hR hq hr hva hP hzW htm
  go_enter Tryd.func70, Tryd.ntmps70
  go_upto_region 1 with fail
  rw [← HW.out, ← HRE.out, ← HEE.out]
  go_upto_region 4 with fail
  obtain ⟨h, hh⟩ : ∃ h, h = k % 4 := ⟨_, rfl⟩
  obtain ⟨q, hq⟩ : ∃ q, q = k / 4 := ⟨_, rfl⟩
  rw [← hh, ← hq]
  have h2 : 0 ≤ h := by omega
  have h3 : h ≤ 3 := by omega
  have q0 : 0 ≤ q := by omega
  have q1 : q ≤ 9223372036854775807 := by omega
  clear hh hq h0 h1
  have x0 := HQ.out.c0
  have x1 := HQ.out.c1
  have x2 := HQ.out.c2
  have fx0 := HQ.out.f0
  have fx1 := HQ.out.f1
  have fx2 := HQ.out.f2
  have y0 := HR.out.c0
  have y1 := HR.out.c1
  have y2 := HR.out.c2
  have fy0 := HR.out.f0
  have fy1 := HR.out.f1
  have fy2 := HR.out.f2
  have hcs : (h < 2 ∧ 0 < vl) ∨ h = 2 ∨ h = 3 ∨ (h < 2 ∧ vl = 0) := by omega
  rcases hcs with ⟨hlt, hv0⟩ | rfl | rfl | ⟨hlt, hv0⟩
  · have v0 : (0 : Int) < (vl : Int) := by omega
    obtain ⟨b, o, rfl, hPb, hsh⟩ : ∃ b o, va = some ⟨b, o, none⟩ ∧ P b ∧ ∀ i, i < vl → ValSh M W b (o + i * 4) := by
      rcases HVA.out with e | ⟨b, o, e, hp, hs⟩
      · omega
      · exact ⟨b, o, e, hp, hs⟩
    obtain ⟨i, hi, hiv⟩ : ∃ i : Nat, q % (vl : Int) = (i : Int) ∧ i < vl := ⟨(q % (vl : Int)).toNat, by have := Int.emod_nonneg q (show (vl : Int) ≠ 0 by omega); omega, by have := Int.emod_lt_of_pos q v0; have := Int.emod_nonneg q (show (vl : Int) ≠ 0 by omega); omega⟩
    obtain ⟨⟨_, a0, z, rfl⟩, ⟨_, a1, z1, rfl, r1⟩, ⟨_, a2, s, rfl, hs⟩, ⟨_, a3, c, rfl⟩, hf⟩ := hsh i hiv
    have hbw := HPP.out b hPb
    have g0 := hf 0 (by omega)
    have g1 := hf 1 (by omega)
    have g2 := hf 2 (by omega)
    have g3 := hf 3 (by omega)
    rw [Nat.add_zero] at g0
    have HHI := Lib.hid hi
    go_upto_region 6 with fail
    rw [HHI.out]
    clear hi
    have i0 : (0 : Int) ≤ (i : Int) := by omega
    have i1 : (i : Int) < (vl : Int) := by omega
    go_upto_region 7 with fail
    obtain ⟨V, hV⟩ : ∃ V, V = W.alloc (Obj.cells #[.int .i64 z, .int .i64 z1, .string s, .bool c] 95) := ⟨_, rfl⟩
    have hd : Cells4 V W.heap.size (.int .i64 z) (.int .i64 z1) (.string s) (.bool c) := by rw [hV]; exact Cells4.made _ _ _ _ _ _
    have hbV : Below W.heap.size W V := by rw [hV]; exact (Below.refl _ _).alloc (Nat.le_refl _) _
    rw [← hV]
    obtain ⟨F, hF⟩ : ∃ F, F = W.heap.size := ⟨_, rfl⟩
    have HFE := Lib.hid hF
    rw [← hF] at hd ⊢
    have hwF : w.heap.size ≤ F := by have := HB.out.size; omega
    have hbF : b ≠ F := by omega
    have hEF : E ≠ F := by omega
    have hRF : R ≠ F := by omega
    have hFV : F < V.heap.size := hd.lt
    have HD := Lib.hid hd
    have HBV := Lib.hid hbV
    have hbW : b < W.heap.size := by omega
    have X := HQ.out.below hbV
    have Y := HR.out.below hbV
    have HX := Lib.hid X
    have HY := Lib.hid Y
    have a0' := (hbV.cell (p := ⟨b, o + i * 4, none⟩) hbW).trans a0
    have a1' := (hbV.cell (p := ⟨b, o + i * 4 + 1, none⟩) hbW).trans a1
    have a2' := (hbV.cell (p := ⟨b, o + i * 4 + 2, none⟩) hbW).trans a2
    have a3' := (hbV.cell (p := ⟨b, o + i * 4 + 3, none⟩) hbW).trans a3
    have g0' := (hbV.frozen (p := ⟨b, o + i * 4, none⟩) hbW).trans g0
    have g1' := (hbV.frozen (p := ⟨b, o + i * 4 + 1, none⟩) hbW).trans g1
    have g2' := (hbV.frozen (p := ⟨b, o + i * 4 + 2, none⟩) hbW).trans g2
    have g3' := (hbV.frozen (p := ⟨b, o + i * 4 + 3, none⟩) hbW).trans g3
    clear a0 a1 a2 a3 g0 g1 g2 g3 hf hsh x0 x1 x2 y0 y1 y2 fx0 fx1 fx2 fy0 fy1 fy2 hV hd hbV hF X Y
    have x0 := HX.out.c0
    have x1 := HX.out.c1
    have x2 := HX.out.c2
    have y0 := HY.out.c0
    have y1 := HY.out.c1
    have y2 := HY.out.c2
    have fy0 := HY.out.f0
    have fy1 := HY.out.f1
    have fy2 := HY.out.f2
    have d0 := HD.out.c0
    have d1 := HD.out.c1
    have d2 := HD.out.c2
    have d3 := HD.out.c3
    have fd1 := HD.out.f1
    have fd2 := HD.out.f2
    have fd3 := HD.out.f3
    by_cases hs0 : s.size = 0
    · have s0 : ¬ (0 : Int) < (s.size : Int) := by omega
      go_upto_region 11 with fail
      obtain ⟨V', hV'⟩ : ∃ V', V' = (V.setCell ⟨F, 1, none⟩ (.int .i64 (bits BinOp.xor IntKind.i64 z1 (1 + q % 5)))).setCell ⟨F, 3, none⟩ (.bool !c) := ⟨_, rfl⟩
      have k4 : ∀ p, p ≠ F → V'.heap[p]? = V.heap[p]? := fun p hp => by rw [hV']; simp only [Below.heap_setCell _ _ _ _ (show p ≠ (⟨F, _, none⟩ : Addr).block from hp)]
      have hD' : Cells4 V' F (.int .i64 z) (.int .i64 (bits BinOp.xor IntKind.i64 z1 (1 + q % 5))) (.string s) (.bool !c) := by rw [hV']; exact (HD.out.put1 _).put3 _
      have HWR := Lib.hid (show Wrote P (M + 1) w V' by rw [hV']; exact (((Wrote.of_below (HB.out.trans (HBV.out.mono HB.out.size))).new (by omega) _ _).new (by omega) _ _))
      have HXR := Lib.hid (bits_i64 .xor z1 (1 + q % 5))
      obtain ⟨z1', hz1'⟩ : ∃ z1', z1' = bits BinOp.xor IntKind.i64 z1 (1 + q % 5) := ⟨_, rfl⟩
      rw [← hz1'] at hD' hV' HXR ⊢
      rw [← hV']
      have kc : ∀ j : Nat, V'.cell? ⟨b, j, none⟩ = V.cell? ⟨b, j, none⟩ := fun j => World.cell?_of_block (w := V) (k4 b hbF)
      have kf : ∀ j : Nat, V'.frozen? ⟨b, j, none⟩ = V.frozen? ⟨b, j, none⟩ := fun j => World.frozen?_of_block (w := V) (k4 b hbF)
      have HX' := Lib.hid (HX.out.keep (k4 E hEF))
      have HY' := Lib.hid (HY.out.keep (k4 R hRF))
      have b0 := (kc _).trans a0'
      have b1 := (kc _).trans a1'
      have b2 := (kc _).trans a2'
      have b3 := (kc _).trans a3'
      have l0 := (kf _).trans g0'
      have l1 := (kf _).trans g1'
      have l2 := (kf _).trans g2'
      have l3 := (kf _).trans g3'
      have HWF := Lib.hid (HWR.out.four (s' := s) (c' := !c) hPb b0 b1 b2 b3 r1 HXR.out hs)
      clear a0' a1' a2' a3' g0' g1' g2' g3' x0 x1 x2 y0 y1 y2 fy0 fy1 fy2 d0 d1 d2 d3 fd1 fd2 fd3 hV' k4 kc kf hz1'
      have x0 := HX'.out.c0
      have x1 := HX'.out.c1
      have x2 := HX'.out.c2
      have y0 := HY'.out.c0
      have y1 := HY'.out.c1
      have y2 := HY'.out.c2
      have fy0 := HY'.out.f0
      have fy1 := HY'.out.f1
      have fy2 := HY'.out.f2
      have d0 := hD'.c0
      have d1 := hD'.c1
      have d2 := hD'.c2
      have d3 := hD'.c3
      clear hD'
      have hbE : b ≠ E := by omega
      have hbR : b ≠ R := by omega
      go_wp2_with fail
      refine bodyPost_ret (v := .agg #[.string ty, .int .i64 tm, .slice (some ⟨b, o, none⟩) vl vc]) (by simp [results, Tryd.results70, go_sem, x0, x1, x2, y0, y1, y2, hbR, hbE]) rfl ⟨⟨ty, tm, rfl, by omega, HTM.out⟩, ?_⟩
      exact ((HWF.out.new (by omega) _ _).new (by omega) _ _).new (by omega) _ _
    · have s0 : (0 : Int) < (s.size : Int) := by omega
      have s1 : 1 ≤ s.size := by omega
      go_upto_region 11 with fail
      obtain ⟨V', hV'⟩ : ∃ V', V' = ((V.setCell ⟨F, 1, none⟩ (.int .i64 (bits BinOp.xor IntKind.i64 z1 (1 + q % 5)))).setCell ⟨F, 3, none⟩ (.bool !c)).setCell ⟨F, 2, none⟩ (.string (s.extract 1 s.size)) := ⟨_, rfl⟩
      have k4 : ∀ p, p ≠ F → V'.heap[p]? = V.heap[p]? := fun p hp => by rw [hV']; simp only [Below.heap_setCell _ _ _ _ (show p ≠ (⟨F, _, none⟩ : Addr).block from hp)]
      have hD' : Cells4 V' F (.int .i64 z) (.int .i64 (bits BinOp.xor IntKind.i64 z1 (1 + q % 5))) (.string (s.extract 1 s.size)) (.bool !c) := by rw [hV']; exact ((HD.out.put1 _).put3 _).put2 _
      have HWR := Lib.hid (show Wrote P (M + 1) w V' by rw [hV']; exact ((((Wrote.of_below (HB.out.trans (HBV.out.mono HB.out.size))).new (by omega) _ _).new (by omega) _ _).new (by omega) _ _))
      have HXR := Lib.hid (bits_i64 .xor z1 (1 + q % 5))
      obtain ⟨z1', hz1'⟩ : ∃ z1', z1' = bits BinOp.xor IntKind.i64 z1 (1 + q % 5) := ⟨_, rfl⟩
      rw [← hz1'] at hD' hV' HXR ⊢
      rw [← hV']
      have kc : ∀ j : Nat, V'.cell? ⟨b, j, none⟩ = V.cell? ⟨b, j, none⟩ := fun j => World.cell?_of_block (w := V) (k4 b hbF)
      have kf : ∀ j : Nat, V'.frozen? ⟨b, j, none⟩ = V.frozen? ⟨b, j, none⟩ := fun j => World.frozen?_of_block (w := V) (k4 b hbF)
      have HX' := Lib.hid (HX.out.keep (k4 E hEF))
      have HY' := Lib.hid (HY.out.keep (k4 R hRF))
      have b0 := (kc _).trans a0'
      have b1 := (kc _).trans a1'
      have b2 := (kc _).trans a2'
      have b3 := (kc _).trans a3'
      have l0 := (kf _).trans g0'
      have l1 := (kf _).trans g1'
      have l2 := (kf _).trans g2'
      have l3 := (kf _).trans g3'
      have HWF := Lib.hid (HWR.out.four (s' := (s.extract 1 s.size)) (c' := !c) hPb b0 b1 b2 b3 r1 HXR.out (by rw [ByteArray.size_extract]; omega))
      clear a0' a1' a2' a3' g0' g1' g2' g3' x0 x1 x2 y0 y1 y2 fy0 fy1 fy2 d0 d1 d2 d3 fd1 fd2 fd3 hV' k4 kc kf hz1'
      have x0 := HX'.out.c0
      have x1 := HX'.out.c1
      have x2 := HX'.out.c2
      have y0 := HY'.out.c0
      have y1 := HY'.out.c1
      have y2 := HY'.out.c2
      have fy0 := HY'.out.f0
      have fy1 := HY'.out.f1
      have fy2 := HY'.out.f2
      have d0 := hD'.c0
      have d1 := hD'.c1
      have d2 := hD'.c2
      have d3 := hD'.c3
      clear hD'
      have hbE : b ≠ E := by omega
      have hbR : b ≠ R := by omega
      go_wp2_with fail
      refine bodyPost_ret (v := .agg #[.string ty, .int .i64 tm, .slice (some ⟨b, o, none⟩) vl vc]) (by simp [results, Tryd.results70, go_sem, x0, x1, x2, y0, y1, y2, hbR, hbE]) rfl ⟨⟨ty, tm, rfl, by omega, HTM.out⟩, ?_⟩
      exact ((HWF.out.new (by omega) _ _).new (by omega) _ _).new (by omega) _ _
  · have HXR := Lib.hid (bits_i64 .xor tm (1 + q % 9))
    go_wp2_with fail
    refine bodyPost_ret (v := .agg #[.string ty, .int .i64 (bits BinOp.xor IntKind.i64 tm (1 + q % 9)), .slice va vl vc]) (by simp [results, Tryd.results70, go_sem, y0, y1, y2]) rfl ⟨⟨ty, _, rfl, by omega, HXR.out⟩, ?_⟩
    exact ((((Wrote.of_below HB.out).new (by omega) _ _).new (by omega) _ _).new (by omega) _ _).new (by omega) _ _
  · have hsz : (ty ++ ⟨#[120]⟩ : ByteArray).size ≤ M + 1 := by rw [ByteArray.size_append]; exact Nat.add_le_add hty (Nat.le_refl 1)
    go_wp2_with fail
    refine bodyPost_ret (v := .agg #[.string (ty ++ ⟨#[120]⟩), .int .i64 tm, .slice va vl vc]) (by simp [results, Tryd.results70, go_sem, y0, y1, y2]) rfl ⟨⟨_, tm, rfl, hsz, HTM.out⟩, ?_⟩
    exact ((((Wrote.of_below HB.out).new (by omega) _ _).new (by omega) _ _).new (by omega) _ _).new (by omega) _ _
  · subst hv0
    have hsz : (ty ++ ⟨#[120]⟩ : ByteArray).size ≤ M + 1 := by rw [ByteArray.size_append]; exact Nat.add_le_add hty (Nat.le_refl 1)
    go_wp2_with fail
    refine bodyPost_ret (v := .agg #[.string (ty ++ ⟨#[120]⟩), .int .i64 tm, .slice va 0 vc]) (by simp [results, Tryd.results70, go_sem, y0, y1, y2]) rfl ⟨⟨_, tm, rfl, hsz, HTM.out⟩, ?_⟩
    exact ((((Wrote.of_below HB.out).new (by omega) _ _).new (by omega) _ _).new (by omega) _ _).new (by omega) _ _
end Go.Proofs.YtekaimfabadclaaDoor
