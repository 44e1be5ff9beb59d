/- Lists of rows that came in. -/
import Derived.Test.YtodbpfdknfcgbaaDoorJoinsWalk
import Derived.Test.YtodbpfdknfcgbaaDoorInRows
namespace Go.Proofs.YtodbpfdknfcgbaaDoor
open Go Go.ChangeShapes Go.WideShapes Go.ChangeAt Go.RowKit

theorem bytesStr : Tryd.prog.bytesOf 9 = 16 := by kernel_rfl
theorem bytesStrs : Tryd.prog.bytesOf 27 = 24 := by kernel_rfl
theorem cellsRows : Tryd.prog.cellsOf 22 = 1 := by kernel_rfl
section
variable {H : Type} {enc : TypeId × Value → H} {W : World} {base : Nat} {spare : Nat → Bool} {held : Bool}
theorem weights_in {P : Program} {e : TypeId} : ∀ {l : List (DataW H)} {d : DataW H}, d ∈ l → ∀ n ∈ d.weights P e, n ∈ DataW.weightsAll P e l
  | x :: r, d, hd, n, hn => by
    simp only [DataW.weightsAll, List.mem_append]
    rcases List.mem_cons.1 hd with rfl | hd
    · exact Or.inl hn
    · exact Or.inr (weights_in hd n hn)
theorem strs_none {fuel : Nat} {cs : List Value} {x : DataW H × List MemPlace} (h : DataW.trod enc Tryd.prog W base spare held fuel 27 cs = some x) {n cap : Nat} (e : cs = [.slice none n cap]) : cap = 0 ∧ n = 0 := by
  rcases DataW.trod_slice Tryd.underlying27 h with ⟨h0, rfl⟩ | ⟨a, len, cap, elems, rest, n, _, rfl, rfl, hb, hl, hm, hlen, hel, _, _⟩
  · rw [h0] at e
    injection e with e1 e2
    injection e1 with e1 e2 e3
    exact ⟨e3.symm, e2.symm⟩
  · injection e with e1 e2
    injection e1 with e1 e2 e3
    cases e1
/-- A row that came in, with what its weights tell. -/
theorem strs_fit {fuel : Nat} {cs : List Value} {x : DataW H × List MemPlace} (h : DataW.trod enc Tryd.prog W base spare held fuel 27 cs = some x) :
    ∃ (c : List (List UInt8)) (ao : Option Addr) (cap : Nat), cs = [.slice ao c.length cap] ∧ StrsIn W.heap.size W ao c ∧ (ao = none → cap = 0 ∧ c = []) ∧ ((∀ n ∈ x.1.weights Tryd.prog 27, n ≤ reachBytes) → c.length ≤ 8796093021952 ∧ ∀ z ∈ c, z.length ≤ 140737488355328) := by
  obtain ⟨c, ao, cap, e, hs, _, _, _, hd⟩ := strs_trod h
  refine ⟨c, ao, cap, e, hs, fun h0 => ?_, fun hw => ?_⟩
  · subst h0
    have := strs_none h e
    exact ⟨this.1, List.eq_nil_of_length_eq_zero this.2⟩
  · rcases hd with ⟨rfl, _⟩ | ⟨rest, hx⟩
    · exact ⟨by simp, by simp⟩
    · rw [hx] at hw
      constructor
      · have h1 := hw (((c.map fun y => DataW.lit (H := H) (.string y)).length + rest.length) * Tryd.prog.bytesOf 9) (by simp [DataW.weights, Tryd.underlying27])
        rw [bytesStr, List.length_map] at h1
        unfold reachBytes at h1
        omega
      · intro z hz
        have h1 := hw z.length (by
          simp only [DataW.weights, Tryd.underlying27, List.mem_cons, List.mem_append]
          exact Or.inr (Or.inl (weights_in (List.mem_map_of_mem hz) _ (by simp [DataW.weights]))))
        unfold reachBytes at h1
        omega
set_option maxRecDepth 100000 in
theorem rows_fit {fuel : Nat} {cs : List Value} {x : DataW H × List MemPlace} (h : DataW.trod enc Tryd.prog W base spare held fuel 22 cs = some x) :
    ∃ (y : ListX), cs = [.slice y.ao y.l.length y.cap] ∧ RowsIn W.heap.size W y.ao y.l ∧ ((∀ n ∈ x.1.weights Tryd.prog 22, n ≤ reachBytes) → ListFit y) := by
  rcases DataW.trod_slice Tryd.underlying22 h with ⟨h0, _⟩ | ⟨a, len, cap, elems, rest, n, _, rfl, rfl, hb, hl, hm, hlen, hel, _, _⟩
  · exact ⟨⟨[], none, 0⟩, h0, Or.inl rfl, fun _ => ⟨by simp, by simp⟩⟩
  · have each : ∀ i (_ : i < len), ∃ y : RowX, W.cell? (a.add i) = some (.slice y.ao y.c.length y.cap) ∧ StrsIn W.heap.size W y.ao y.c ∧ ((∀ n ∈ (DataW.slice (elems.map (·.1)) (rest.map (·.1))).weights Tryd.prog 22, n ≤ reachBytes) → Roomy y ∧ ∀ z ∈ y.c, z.length ≤ 140737488355328) := by
      intro i hi
      have h1 := hel i hi
      rw [List.getElem?_eq_getElem (by omega), cellsStrs, Nat.mul_one] at h1
      cases hc : W.cells? base (a.add i) 1 with
      | none => rw [hc] at h1; cases h1
      | some c =>
        rw [hc] at h1
        obtain ⟨c, ao, cp, e1, hy, q0, q1⟩ := strs_fit h1
        subst e1
        refine ⟨⟨c, ao, cp⟩, ?_, hy, fun hw => ?_⟩
        · have h2 := cell_of_one' hc
          rw [Addr.add_add, Nat.add_zero] at h2
          exact h2
        · have q2 := q1 fun n hn => hw n (by
            simp only [DataW.weights, Tryd.underlying22, List.mem_cons, List.mem_append]
            exact Or.inr (Or.inl (weights_in (List.mem_map_of_mem (List.getElem_mem (by omega))) n hn)))
          exact ⟨⟨q2.1, q0⟩, q2.2⟩
    obtain ⟨f, hf⟩ : ∃ f : Nat → RowX, ∀ i (_ : i < len), W.cell? (a.add i) = some (.slice (f i).ao (f i).c.length (f i).cap) ∧ StrsIn W.heap.size W (f i).ao (f i).c ∧ ((∀ n ∈ (DataW.slice (elems.map (·.1)) (rest.map (·.1))).weights Tryd.prog 22, n ≤ reachBytes) → Roomy (f i) ∧ ∀ z ∈ (f i).c, z.length ≤ 140737488355328) :=
      ⟨fun i => if h : i < len then (each i h).choose else ⟨[], none, 0⟩, fun i hi => by simp only [hi, dif_pos]; exact (each i hi).choose_spec⟩
    have hll : ((List.range len).map f).length = len := by simp
    refine ⟨⟨(List.range len).map f, some a, cap⟩, by rw [hll], ?_, fun hw => ⟨?_, ?_⟩⟩
    · rcases Nat.eq_zero_or_pos len with h0 | h0
      · subst h0
        exact Or.inl rfl
      · have hs := spot_none (hf 0 h0).1
        obtain ⟨b, o, sp⟩ := a
        simp only at hs
        subst hs
        refine Or.inr ⟨b, o, rfl, ?_, fun i hi => ?_⟩
        · have h3 := (hf 0 h0).1
          rw [add_none] at h3
          exact World.block_lt_of_cell? W _ h3
        · have h3 := (hf i (by simpa using hi))
          rw [add_none] at h3
          exact ⟨by simpa using h3.1, by simpa using h3.2.1⟩
    · have h1 := hw (((elems.map (·.1)).length + (rest.map (·.1)).length) * Tryd.prog.bytesOf 27) (by simp [DataW.weights, Tryd.underlying22])
      rw [bytesStrs, List.length_map] at h1
      unfold reachBytes at h1
      simp only [hll]
      omega
    · intro v hv
      obtain ⟨i, hi, rfl⟩ := List.mem_map.1 hv
      exact (hf i (by simpa using hi)).2.2 hw
set_option maxRecDepth 100000 in
theorem lists_fit {fuel : Nat} {cs : List Value} {x : DataW H × List MemPlace} (h : DataW.trod enc Tryd.prog W base spare held fuel 34 cs = some x) :
    ∃ (ls : List ListX) (ao : Option Addr) (cap : Nat), cs = [.slice ao ls.length cap] ∧ ListsIn W.heap.size W ao ls ∧ ls.length ≤ cap ∧ cap ≤ maxLen ∧ ((∀ n ∈ x.1.weights Tryd.prog 34, n ≤ reachBytes) → ∀ y ∈ ls, ListFit y) := by
  rcases DataW.trod_slice Tryd.underlying34 h with ⟨h0, _⟩ | ⟨a, len, cap, elems, rest, n, _, rfl, rfl, hb, hl, hm, hlen, hel, _, _⟩
  · exact ⟨[], none, 0, h0, Or.inl rfl, by simp, by simp [maxLen], by simp⟩
  · have each : ∀ i (_ : i < len), ∃ y : ListX, W.cell? (a.add i) = some (.slice y.ao y.l.length y.cap) ∧ RowsIn W.heap.size W y.ao y.l ∧ ((∀ n ∈ (DataW.slice (elems.map (·.1)) (rest.map (·.1))).weights Tryd.prog 34, n ≤ reachBytes) → ListFit y) := by
      intro i hi
      have h1 := hel i hi
      rw [List.getElem?_eq_getElem (by omega), cellsRows, Nat.mul_one] at h1
      cases hc : W.cells? base (a.add i) 1 with
      | none => rw [hc] at h1; cases h1
      | some c =>
        rw [hc] at h1
        obtain ⟨y, e1, hy, q1⟩ := rows_fit h1
        subst e1
        refine ⟨y, ?_, hy, fun hw => q1 fun n hn => hw n ?_⟩
        · have h2 := cell_of_one' hc
          rw [Addr.add_add, Nat.add_zero] at h2
          exact h2
        · simp only [DataW.weights, Tryd.underlying34, List.mem_cons, List.mem_append]
          exact Or.inr (Or.inl (weights_in (List.mem_map_of_mem (List.getElem_mem (by omega))) n hn))
    obtain ⟨f, hf⟩ : ∃ f : Nat → ListX, ∀ i (_ : i < len), W.cell? (a.add i) = some (.slice (f i).ao (f i).l.length (f i).cap) ∧ RowsIn W.heap.size W (f i).ao (f i).l ∧ ((∀ n ∈ (DataW.slice (elems.map (·.1)) (rest.map (·.1))).weights Tryd.prog 34, n ≤ reachBytes) → ListFit (f i)) :=
      ⟨fun i => if h : i < len then (each i h).choose else ⟨[], none, 0⟩, fun i hi => by simp only [hi, dif_pos]; exact (each i hi).choose_spec⟩
    have hll : ((List.range len).map f).length = len := by simp
    refine ⟨(List.range len).map f, some a, cap, by rw [hll], ?_, by rw [hll]; omega, by omega, fun hw => ?_⟩
    · rcases Nat.eq_zero_or_pos len with h0 | h0
      · subst h0
        exact Or.inl rfl
      · have hs := spot_none (hf 0 h0).1
        obtain ⟨b, o, sp⟩ := a
        simp only at hs
        subst hs
        refine Or.inr ⟨b, o, rfl, ?_, fun i hi => ?_⟩
        · have h3 := (hf 0 h0).1
          rw [add_none] at h3
          exact World.block_lt_of_cell? W _ h3
        · have h3 := (hf i (by simpa using hi))
          rw [add_none] at h3
          exact ⟨by simpa using h3.1, by simpa using h3.2.1⟩
    · intro v hv
      obtain ⟨i, hi, rfl⟩ := List.mem_map.1 hv
      exact (hf i (by simpa using hi)).2.2 hw
end
end Go.Proofs.YtodbpfdknfcgbaaDoor
