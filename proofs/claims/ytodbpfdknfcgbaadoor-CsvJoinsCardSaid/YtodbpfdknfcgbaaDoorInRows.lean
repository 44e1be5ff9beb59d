/- Lists of strings and rows that came in. -/
import Derived.Test.YtodbpfdknfcgbaaDoorThereWalk
import Derived.ChangeSlices
import Derived.Deep.Strs
import Derived.Lib.SmallJoins
import Derived.Carry
import Derived.SizedLaws
namespace Go.Proofs.YtodbpfdknfcgbaaDoor
open Go Go.ChangeShapes Go.WideShapes Go.ChangeAt Go.RowKit

theorem cellsStr : Tryd.prog.cellsOf 9 = 1 := by kernel_rfl
theorem cellsStrs : Tryd.prog.cellsOf 27 = 1 := by kernel_rfl
theorem bulk_elems {H : Type} (elems spare : List (DataW H)) : Rows.uptoBulkAll elems + 1 ≤ Rows.uptoBulk (.slice elems spare) := by
  simp only [Rows.uptoBulk]
  omega
theorem bulk_mem {H : Type} {d : DataW H} {l : List (DataW H)} (h : d ∈ l) : Rows.uptoBulk d ≤ Rows.uptoBulkAll l := by
  induction l with
  | nil => cases h
  | cons x r ih =>
    simp only [Rows.uptoBulkAll]
    cases List.mem_cons.1 h with
    | inl e => subst e; omega
    | inr e => have := ih e; omega
section
variable {H : Type} {enc : TypeId × Value → H} {W : World} {base : Nat} {spare : Nat → Bool} {held : Bool}
theorem cell_of_one' {a : Addr} {v : Value} (h : W.cells? base a 1 = some [v]) : W.cell? (a.add 0) = some v := by
  have := (World.cells?_some h).2.2 0 (by omega)
  simpa using this
theorem spot_none {a : Addr} {v : Value} (h : W.cell? (a.add 0) = some v) : a.spot = none := by
  obtain ⟨b, o, sp⟩ := a
  cases sp with
  | none => rfl
  | some x =>
    simp [World.cell?, Addr.add] at h
    split at h <;> cases h
theorem add_none (b o k : Nat) : (⟨b, o, none⟩ : Addr).add k = ⟨b, o + k, none⟩ := by
  unfold Addr.add
  split
  · subst_vars; rfl
  · rfl
/-- The bulk of a list of strings. -/
theorem bulk_strs (c : List (List UInt8)) : rowN c ≤ 4 * Rows.uptoBulkAll (c.map fun y => DataW.lit (H := H) (.string y)) := by
  induction c with
  | nil => simp [rowN]
  | cons y c ih =>
    simp only [rowN, List.map_cons, List.sum_cons, Rows.uptoBulkAll, Rows.uptoBulk] at ih ⊢
    omega
set_option maxRecDepth 100000 in
theorem strs_trod {fuel : Nat} {cs : List Value} {x : DataW H × List MemPlace} (h : DataW.trod enc Tryd.prog W base spare held fuel 27 cs = some x) :
    ∃ (c : List (List UInt8)) (ao : Option Addr) (cap : Nat), cs = [.slice ao c.length cap] ∧ StrsIn W.heap.size W ao c ∧ c.length ≤ cap ∧ cap ≤ maxLen ∧ (∀ y ∈ c, y.length ≤ maxLen) ∧ (c = [] ∧ x.1 = .nil ∨ ∃ rest, x.1 = .slice (c.map fun y => DataW.lit (.string y)) rest) := by
  rcases DataW.trod_slice Tryd.underlying27 h with ⟨h0, rfl⟩ | ⟨a, len, cap, elems, rest, n, _, rfl, rfl, hb, hl, hm, hlen, hel, _, _⟩
  · exact ⟨[], none, 0, h0, Or.inl rfl, by simp, by simp [maxLen], by simp, Or.inl ⟨rfl, rfl⟩⟩
  · have each : ∀ i (_ : i < len), ∃ y : List UInt8, W.cell? (a.add i) = some (.string ⟨y.toArray⟩) ∧ y.length ≤ maxLen ∧ ∀ hi2 : i < elems.length, (elems[i]'hi2).1 = .lit (.string y) := by
      intro i hi
      have h1 := hel i hi
      rw [List.getElem?_eq_getElem (by omega), cellsStr, Nat.mul_one] at h1
      cases hc : W.cells? base (a.add i) 1 with
      | none => rw [hc] at h1; cases h1
      | some c =>
        rw [hc] at h1
        obtain ⟨s, e1, e2, ws⟩ := DataW.trod_string Tryd.underlying9 h1
        subst e1
        refine ⟨s.data.toList, ?_, ws, fun _ => by rw [e2]⟩
        have h2 := cell_of_one' hc
        rw [Addr.add_add, Nat.add_zero] at h2
        exact h2
    obtain ⟨f, hf⟩ : ∃ f : Nat → List UInt8, ∀ i (_ : i < len), W.cell? (a.add i) = some (.string ⟨(f i).toArray⟩) ∧ (f i).length ≤ maxLen ∧ ∀ hi2 : i < elems.length, (elems[i]'hi2).1 = .lit (.string (f i)) :=
      ⟨fun i => if h : i < len then (each i h).choose else [], fun i hi => by simp only [hi, dif_pos]; exact (each i hi).choose_spec⟩
    have hll : ((List.range len).map f).length = len := by simp
    refine ⟨(List.range len).map f, some a, cap, by rw [hll], ?_, by rw [hll]; omega, by omega, ?_, Or.inr ⟨rest.map (·.1), ?_⟩⟩
    · rcases Nat.eq_zero_or_pos len with h0 | h0
      · subst h0
        exact Or.inl rfl
      · have hs := spot_none (hf 0 h0).1
        obtain ⟨b, o, sp⟩ := a
        simp only at hs
        subst hs
        refine Or.inr ⟨b, o, rfl, ?_, fun i hi => ?_⟩
        · have h3 := (hf 0 h0).1
          rw [add_none] at h3
          exact World.block_lt_of_cell? W _ h3
        · have h3 := (hf i (by simpa using hi)).1
          rw [add_none] at h3
          simpa using h3
    · intro v hv
      obtain ⟨i, hi, rfl⟩ := List.mem_map.1 hv
      exact (hf i (by simpa using hi)).2.1
    · show DataW.slice _ _ = DataW.slice _ _
      congr 1
      apply List.ext_getElem (by simp; omega)
      intro i h1 h2
      simp only [List.getElem_map, List.getElem_range]
      exact (hf i (by simp at h2; exact h2)).2.2 _
theorem strs_bulk {c : List (List UInt8)} {d : DataW H} (h : c = [] ∧ d = .nil ∨ ∃ rest, d = .slice (c.map fun y => DataW.lit (.string y)) rest) : rowN c ≤ 4 * Rows.uptoBulk d := by
  rcases h with ⟨rfl, _⟩ | ⟨rest, rfl⟩
  · simp [rowN]
  · have h1 := bulk_strs (H := H) c
    have h2 := bulk_elems (c.map fun y => DataW.lit (H := H) (.string y)) rest
    omega
theorem bulk_rows (l : List (List (List UInt8))) : ∀ (ds : List (DataW H)) (_ : ds.length = l.length) (_ : ∀ i (h1 : i < l.length) (h2 : i < ds.length), rowN l[i] ≤ 4 * Rows.uptoBulk ds[i]), bytesN l ≤ 4 * Rows.uptoBulkAll ds := by
  induction l with
  | nil => intro ds _ _; simp [bytesN]
  | cons r l ih =>
    intro ds hl h
    cases ds with
    | nil => simp at hl
    | cons d ds =>
      have h0 := h 0 (by simp) (by simp)
      have h1 := ih ds (by simpa using hl) (fun i h1 h2 => by have := h (i + 1) (by simpa using h1) (by simpa using h2); simpa using this)
      simp only [bytesN, List.map_cons, List.sum_cons, Rows.uptoBulkAll, List.getElem_cons_zero] at h0 h1 ⊢
      omega
set_option maxRecDepth 100000 in
theorem rows_trod {fuel : Nat} {cs : List Value} {x : DataW H × List MemPlace} (h : DataW.trod enc Tryd.prog W base spare held fuel 22 cs = some x) :
    ∃ (l : List RowX) (ao : Option Addr) (cap : Nat), cs = [.slice ao l.length cap] ∧ RowsIn W.heap.size W ao l ∧ l.length ≤ cap ∧ cap ≤ maxLen ∧ (∀ y ∈ l, y.c.length ≤ y.cap ∧ y.cap ≤ maxLen ∧ ∀ z ∈ y.c, z.length ≤ maxLen) ∧ bytesN (cellsOf l) ≤ 4 * Rows.uptoBulk x.1 := by
  rcases DataW.trod_slice Tryd.underlying22 h with ⟨h0, _⟩ | ⟨a, len, cap, elems, rest, n, _, rfl, rfl, hb, hl, hm, hlen, hel, _, _⟩
  · exact ⟨[], none, 0, h0, Or.inl rfl, by simp, by simp [maxLen], by simp, by simp [cellsOf, bytesN]⟩
  · have each : ∀ i (_ : i < len), ∃ y : RowX, W.cell? (a.add i) = some (.slice y.ao y.c.length y.cap) ∧ StrsIn W.heap.size W y.ao y.c ∧ (y.c.length ≤ y.cap ∧ y.cap ≤ maxLen ∧ ∀ z ∈ y.c, z.length ≤ maxLen) ∧ ∀ hi2 : i < elems.length, rowN y.c ≤ 4 * Rows.uptoBulk (elems[i]'hi2).1 := by
      intro i hi
      have h1 := hel i hi
      rw [List.getElem?_eq_getElem (by omega), cellsStrs, Nat.mul_one] at h1
      cases hc : W.cells? base (a.add i) 1 with
      | none => rw [hc] at h1; cases h1
      | some c =>
        rw [hc] at h1
        obtain ⟨c, ao, cp, e1, hy, q0, q1, q2, q3⟩ := strs_trod h1
        subst e1
        refine ⟨⟨c, ao, cp⟩, ?_, hy, ⟨q0, q1, q2⟩, fun _ => strs_bulk q3⟩
        have h2 := cell_of_one' hc
        rw [Addr.add_add, Nat.add_zero] at h2
        exact h2
    obtain ⟨f, hf⟩ : ∃ f : Nat → RowX, ∀ i (_ : i < len), W.cell? (a.add i) = some (.slice (f i).ao (f i).c.length (f i).cap) ∧ StrsIn W.heap.size W (f i).ao (f i).c ∧ ((f i).c.length ≤ (f i).cap ∧ (f i).cap ≤ maxLen ∧ ∀ z ∈ (f i).c, z.length ≤ maxLen) ∧ ∀ hi2 : i < elems.length, rowN (f i).c ≤ 4 * Rows.uptoBulk (elems[i]'hi2).1 :=
      ⟨fun i => if h : i < len then (each i h).choose else ⟨[], none, 0⟩, fun i hi => by simp only [hi, dif_pos]; exact (each i hi).choose_spec⟩
    have hll : ((List.range len).map f).length = len := by simp
    refine ⟨(List.range len).map f, some a, cap, by rw [hll], ?_, by rw [hll]; omega, by omega, ?_, ?_⟩
    · rcases Nat.eq_zero_or_pos len with h0 | h0
      · subst h0
        exact Or.inl rfl
      · have hs := spot_none (hf 0 h0).1
        obtain ⟨b, o, sp⟩ := a
        simp only at hs
        subst hs
        refine Or.inr ⟨b, o, rfl, ?_, fun i hi => ?_⟩
        · have h3 := (hf 0 h0).1
          rw [add_none] at h3
          exact World.block_lt_of_cell? W _ h3
        · have h3 := (hf i (by simpa using hi))
          rw [add_none] at h3
          exact ⟨by simpa using h3.1, by simpa using h3.2.1⟩
    · intro v hv
      obtain ⟨i, hi, rfl⟩ := List.mem_map.1 hv
      exact (hf i (by simpa using hi)).2.2.1
    · have h1 := bulk_rows (H := H) (cellsOf ((List.range len).map f)) (elems.map (·.1)) (by simp [cellsOf]; omega) (fun i h1 h2 => by
        have := (hf i (by simpa [cellsOf] using h1)).2.2.2 (by simpa using h2)
        simpa [cellsOf] using this)
      have h2 := bulk_elems (elems.map (·.1)) (rest.map (·.1))
      simp only at h2 ⊢
      omega
end
end Go.Proofs.YtodbpfdknfcgbaaDoor
