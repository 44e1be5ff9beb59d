/- A type, an event and a row that came in. -/
import Derived.Test.YtdkddnlolnbpgaaDoorCarry
import Derived.Test.YtdkddnlolnbpgaaDoorAddRow
import Derived.ChangeSlices
import Derived.ChangeSame
import Derived.Deep.Strs
import Derived.Lib.SmallJoins
import Derived.Carry
import Derived.SizedLaws
namespace Go.Proofs.YtdkddnlolnbpgaaDoor
open Go Go.ChangeShapes Go.WideShapes Go.ChangeAt Go.RowKit

theorem cellsI : Tryd.prog.cellsOf 3 = 1 := by kernel_rfl
theorem cellsI64 : Tryd.prog.cellsOf 2 = 1 := by kernel_rfl
theorem cellsStrC : Tryd.prog.cellsOf 9 = 1 := by kernel_rfl
theorem cellsBool : Tryd.prog.cellsOf 4 = 1 := by kernel_rfl
theorem cellsVal : Tryd.prog.cellsOf 32 = 4 := by kernel_rfl
theorem cellsVals : Tryd.prog.cellsOf 25 = 1 := by kernel_rfl
theorem cellsEv : Tryd.prog.cellsOf 27 = 3 := by kernel_rfl
theorem cellsAttr : Tryd.prog.cellsOf 34 = 2 := by kernel_rfl
theorem cellsAttrs : Tryd.prog.cellsOf 22 = 1 := by kernel_rfl
theorem cellsTy : Tryd.prog.cellsOf 24 = 2 := by kernel_rfl
theorem bytesStrC : Tryd.prog.bytesOf 9 = 16 := by kernel_rfl
theorem bytesVal : Tryd.prog.bytesOf 32 = 40 := by kernel_rfl
theorem bytesAttr : Tryd.prog.bytesOf 34 = 24 := by kernel_rfl
theorem list_ofP {α : Type} {p : Nat → α → Prop} {n : Nat} (h : ∀ i, i < n → ∃ a, p i a) : ∃ l : List α, l.length = n ∧ ∀ i (hi : i < l.length), p i l[i] := by
  induction n with
  | zero => exact ⟨[], rfl, fun i hi => absurd hi (by simp)⟩
  | succ n ih =>
    obtain ⟨l, hl, hp⟩ := ih (fun i hi => h i (by omega))
    obtain ⟨a, ha⟩ := h n (by omega)
    refine ⟨l ++ [a], by simp [hl], fun i hi => ?_⟩
    by_cases hin : i < l.length
    · rw [List.getElem_append_left hin]
      exact hp i hin
    · have e : i = l.length := by simp at hi; omega
      subst e
      rw [List.getElem_append_right (Nat.le_refl _)]
      simpa [hl] using ha
section
variable {H : Type} {enc : TypeId × Value → H} {W : World} {base : Nat} {spare : Nat → Bool} {held : Bool}
theorem spot_none {a : Addr} {v : Value} (h : W.cell? (a.add 0) = some v) : a.spot = none := by
  obtain ⟨b, o, sp⟩ := a
  cases sp with
  | none => rfl
  | some x =>
    simp [World.cell?, Addr.add] at h
    split at h <;> cases h
theorem add_none (b o k : Nat) : (⟨b, o, none⟩ : Addr).add k = ⟨b, o + k, none⟩ := by
  unfold Addr.add
  split
  · subst_vars; rfl
  · rfl
theorem weights_all {P : Program} {e : TypeId} : ∀ {l : List (DataW H)} {d : DataW H}, d ∈ l → ∀ n ∈ d.weights P e, n ∈ DataW.weightsAll P e l
  | x :: r, d, hd, n, hn => by
    simp only [DataW.weightsAll, List.mem_append]
    rcases List.mem_cons.1 hd with rfl | hd
    · exact Or.inl hn
    · exact Or.inr (weights_all hd n hn)
/-- A list that came in, element by element, with what its weights tell. -/
theorem row_trod {fuel : Nat} {t e : TypeId} {cs : List Value} {x : DataW H × List MemPlace} {n : Nat} {R : List Value → Prop} (ht : Tryd.prog.underlying t = some (.slice e)) (hcell : Tryd.prog.cellsOf e = n) (hn : 0 < n)
    (h : DataW.trod enc Tryd.prog W base spare held fuel t cs = some x) (hw : ∀ m ∈ x.1.weights Tryd.prog t, m ≤ reachBytes)
    (he : ∀ {f c y}, DataW.trod enc Tryd.prog W base spare held f e c = some y → (∀ m ∈ y.1.weights Tryd.prog e, m ≤ reachBytes) → R c) :
    ∃ ao len cap, cs = [.slice ao len cap] ∧ len ≤ cap ∧ cap ≤ maxLen ∧ len * Tryd.prog.bytesOf e ≤ reachBytes ∧ (ao = none → cap = 0 ∧ len = 0) ∧
      (len = 0 ∨ ∃ b o, ao = some ⟨b, o, none⟩ ∧ b < W.heap.size ∧ ∀ i, i < len → ∃ c, R c ∧ c.length = n ∧ ∀ j, j < n → W.cell? ⟨b, o + i * n + j, none⟩ = c[j]?) := by
  rcases DataW.trod_slice ht h with ⟨h0, _⟩ | ⟨a, len, cap, elems, rest, m, _, rfl, rfl, hb, hl, hm, hlen, hel, _, _⟩
  · exact ⟨none, 0, 0, h0, by omega, by unfold maxLen; omega, by simp [reachBytes], fun _ => ⟨rfl, rfl⟩, Or.inl rfl⟩
  · have each : ∀ i, i < len → ∃ c, R c ∧ c.length = n ∧ ∀ j, j < n → W.cell? (a.add (i * n + j)) = c[j]? := by
      intro i hi
      have h1 := hel i hi
      rw [List.getElem?_eq_getElem (by omega), hcell] at h1
      cases hc : W.cells? base (a.add (i * n)) n with
      | none => rw [hc] at h1; cases h1
      | some c =>
        rw [hc] at h1
        have h2 := World.cells?_some hc
        refine ⟨c, he h1 (fun k hk => hw k (by
          simp only [DataW.weights, ht, List.mem_cons, List.mem_append]
          exact Or.inr (Or.inl (weights_all (List.mem_map_of_mem (List.getElem_mem (by omega))) k hk)))), h2.2.1, fun j hj => ?_⟩
        have h3 := h2.2.2 j hj
        rw [Addr.add_add] at h3
        exact h3
    have hbytes : len * Tryd.prog.bytesOf e ≤ reachBytes := by
      have h1 := hw ((elems.length + rest.length) * Tryd.prog.bytesOf e) (by simp [DataW.weights, ht])
      refine Nat.le_trans (Nat.mul_le_mul_right _ ?_) h1
      omega
    refine ⟨some a, len, cap, rfl, hl, hm, hbytes, (fun e => nomatch e), ?_⟩
    rcases Nat.eq_zero_or_pos len with h0 | h0
    · exact Or.inl h0
    · have hs : a.spot = none := by
        obtain ⟨c, _, hc, h3⟩ := each 0 h0
        have h4 := h3 0 hn
        rw [List.getElem?_eq_getElem (by omega)] at h4
        rw [Nat.zero_mul, Nat.zero_add] at h4
        exact spot_none h4
      obtain ⟨b, o, sp⟩ := a
      simp only at hs
      subst hs
      have hlt : b < W.heap.size := by
        obtain ⟨c, _, hc, h3⟩ := each 0 h0
        have h4 := h3 0 hn
        rw [List.getElem?_eq_getElem (by omega)] at h4
        rw [add_none] at h4
        exact World.block_lt_of_cell? W _ h4
      refine Or.inr ⟨b, o, rfl, hlt, fun i hi => ?_⟩
      obtain ⟨c, hR, hc, h3⟩ := each i hi
      refine ⟨c, hR, hc, fun j hj => ?_⟩
      have h4 := h3 j hj
      rw [add_none] at h4
      rw [Nat.add_assoc]
      exact h4
def Val.cells (a : Val) : List Value := [.int .i64 a.kind, .int .i64 a.int, .string a.str, .bool a.bool]
def AttrX.cells (a : AttrX) : List Value := [.string a.name, .int .i64 a.kind]
def ValIn (a : Val) : Prop := a.str.size ≤ maxLen ∧ -9223372036854775808 ≤ a.int ∧ a.int ≤ 9223372036854775807
set_option maxRecDepth 100000 in
theorem val_trod {fuel : Nat} {cs : List Value} {x : DataW H × List MemPlace} (h : DataW.trod enc Tryd.prog W base spare held fuel 32 cs = some x) : ∃ a : Val, cs = a.cells ∧ ValIn a := by
  obtain ⟨y0, y1, y2, y3, n, _, hl, h0, h1, h2, h3⟩ := Go.Joins.trod_struct4 Tryd.underlying32 h
  rw [cellsVal] at hl
  match cs, hl with
  | [c0, c1, c2, c3], _ =>
    simp only [cellsI, cellsI64, cellsStrC, cellsBool, List.drop_zero, List.drop_succ_cons, List.take_succ_cons, List.take_zero] at h0 h1 h2 h3
    obtain ⟨k, e0, _, _⟩ := DataW.trod_int Tryd.underlying3 h0
    obtain ⟨i, e1, _, wi⟩ := DataW.trod_int Tryd.underlying2 h1
    obtain ⟨s, e2, _, ws⟩ := DataW.trod_string Tryd.underlying9 h2
    obtain ⟨b, e3, _⟩ := DataW.trod_bool Tryd.underlying4 h3
    cases e0; cases e1; cases e2; cases e3
    exact ⟨⟨k, i, s, b⟩, rfl, ws, bounds_i64 wi⟩
set_option maxRecDepth 100000 in
theorem vals_trod {fuel : Nat} {cs : List Value} {x : DataW H × List MemPlace} (h : DataW.trod enc Tryd.prog W base spare held fuel 25 cs = some x) (hw : ∀ m ∈ x.1.weights Tryd.prog 25, m ≤ reachBytes) :
    ∃ (l : List Val) (ao : Option Addr) (cap : Nat), cs = [.slice ao l.length cap] ∧ ValsIn W.heap.size W ao l ∧ l.length ≤ 3518437208782 ∧ ∀ a ∈ l, ValIn a := by
  obtain ⟨ao, len, cap, rfl, hlc, hcm, hb, hno, hr⟩ := row_trod (R := fun c => ∃ a : Val, c = a.cells ∧ ValIn a) Tryd.underlying25 cellsVal (by omega) h hw (fun h _ => val_trod h)
  rw [bytesVal] at hb
  unfold reachBytes at hb
  rcases hr with rfl | ⟨b, o, rfl, hlt, hr⟩
  · exact ⟨[], ao, cap, rfl, Or.inl rfl, by simp, by simp⟩
  · obtain ⟨l, rfl, hl⟩ := list_ofP (p := fun i (a : Val) => ValIn a ∧ ∀ j, j < 4 → W.cell? ⟨b, o + i * 4 + j, none⟩ = a.cells[j]?) (fun i hi => by
      obtain ⟨c, ⟨a, rfl, h1⟩, _, h3⟩ := hr i hi
      exact ⟨a, h1, h3⟩)
    refine ⟨l, _, cap, rfl, Or.inr ⟨b, o, rfl, hlt, fun i hi => ?_⟩, by omega, fun a ha => ?_⟩
    · have h3 := (hl i hi).2
      exact ⟨h3 0 (by omega), h3 1 (by omega), h3 2 (by omega), h3 3 (by omega)⟩
    · obtain ⟨i, hi, rfl⟩ := List.mem_iff_getElem.1 ha
      exact (hl i hi).1
set_option maxRecDepth 100000 in
theorem attr_trod {fuel : Nat} {cs : List Value} {x : DataW H × List MemPlace} (h : DataW.trod enc Tryd.prog W base spare held fuel 34 cs = some x) : ∃ a : AttrX, cs = a.cells := by
  obtain ⟨y0, y1, n, _, hl, h0, h1⟩ := trod_struct2 Tryd.underlying34 h
  rw [cellsAttr] at hl
  match cs, hl with
  | [c0, c1], _ =>
    simp only [cellsI, cellsStrC, List.drop_zero, List.drop_succ_cons, List.take_succ_cons, List.take_zero] at h0 h1
    obtain ⟨s, e0, _, _⟩ := DataW.trod_string Tryd.underlying9 h0
    obtain ⟨k, e1, _, _⟩ := DataW.trod_int Tryd.underlying3 h1
    cases e0; cases e1
    exact ⟨⟨s, k⟩, rfl⟩
set_option maxRecDepth 100000 in
theorem attrs_trod {fuel : Nat} {cs : List Value} {x : DataW H × List MemPlace} (h : DataW.trod enc Tryd.prog W base spare held fuel 22 cs = some x) (hw : ∀ m ∈ x.1.weights Tryd.prog 22, m ≤ reachBytes) :
    ∃ (l : List AttrX) (ao : Option Addr) (cap : Nat), cs = [.slice ao l.length cap] ∧ AttrsIn W.heap.size W ao l ∧ l.length ≤ 5864062014805 := by
  obtain ⟨ao, len, cap, rfl, hlc, hcm, hb, hno, hr⟩ := row_trod (R := fun c => ∃ a : AttrX, c = a.cells) Tryd.underlying22 cellsAttr (by omega) h hw (fun h _ => attr_trod h)
  rw [bytesAttr] at hb
  unfold reachBytes at hb
  rcases hr with rfl | ⟨b, o, rfl, hlt, hr⟩
  · exact ⟨[], ao, cap, rfl, Or.inl rfl, by simp⟩
  · obtain ⟨l, rfl, hl⟩ := list_ofP (p := fun i (a : AttrX) => ∀ j, j < 2 → W.cell? ⟨b, o + i * 2 + j, none⟩ = a.cells[j]?) (fun i hi => by
      obtain ⟨c, ⟨a, rfl⟩, _, h3⟩ := hr i hi
      exact ⟨a, h3⟩)
    refine ⟨l, _, cap, rfl, Or.inr ⟨b, o, rfl, hlt, fun i hi => ?_⟩, by omega⟩
    have h3 := hl i hi
    exact ⟨h3 0 (by omega), h3 1 (by omega)⟩
set_option maxRecDepth 100000 in
theorem strsC_trod {fuel : Nat} {cs : List Value} {x : DataW H × List MemPlace} (h : DataW.trod enc Tryd.prog W base spare held fuel 28 cs = some x) (hw : ∀ m ∈ x.1.weights Tryd.prog 28, m ≤ reachBytes) :
    ∃ (c : List (List UInt8)) (ao : Option Addr) (cap : Nat), cs = [.slice ao c.length cap] ∧ StrsIn W.heap.size W ao c ∧ c.length ≤ 8796093022208 ∧ ∀ y ∈ c, y.length ≤ 140737488351232 := by
  obtain ⟨ao, len, cap, rfl, hlc, hcm, hb, hno, hr⟩ := row_trod (R := fun c => ∃ y : List UInt8, c = [.string ⟨y.toArray⟩] ∧ y.length ≤ 140737488351232) Tryd.underlying28 cellsStrC (by omega) h hw (fun {f c y} h hw => by
    obtain ⟨s, e, hx, _⟩ := DataW.trod_string Tryd.underlying9 h
    refine ⟨s.data.toList, e, ?_⟩
    have h3 := hw s.data.toList.length (by rw [hx]; simp [DataW.weights])
    unfold reachBytes at h3
    omega)
  rw [bytesStrC] at hb
  unfold reachBytes at hb
  rcases hr with rfl | ⟨b, o, rfl, hlt, hr⟩
  · exact ⟨[], ao, cap, rfl, Or.inl rfl, by simp, by simp⟩
  · obtain ⟨l, rfl, hl⟩ := list_ofP (p := fun i (y : List UInt8) => y.length ≤ 140737488351232 ∧ W.cell? ⟨b, o + i, none⟩ = some (.string ⟨y.toArray⟩)) (fun i hi => by
      obtain ⟨c, ⟨y, rfl, h1⟩, _, h3⟩ := hr i hi
      have h4 := h3 0 (by omega)
      rw [Nat.mul_one, Nat.add_zero] at h4
      exact ⟨y, h1, h4⟩)
    refine ⟨l, _, cap, rfl, Or.inr ⟨b, o, rfl, hlt, fun i hi => (hl i hi).2⟩, by omega, fun y hy => ?_⟩
    obtain ⟨i, hi, rfl⟩ := List.mem_iff_getElem.1 hy
    exact (hl i hi).1
end
end Go.Proofs.YtdkddnlolnbpgaaDoor
