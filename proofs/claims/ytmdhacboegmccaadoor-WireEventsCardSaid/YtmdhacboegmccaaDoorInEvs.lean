/- Events that came in, as the walks want them. -/
import Derived.Test.YtmdhacboegmccaaDoorBatchWalk
import Derived.Test.YtmdhacboegmccaaDoorIn
namespace Go.Proofs.YtmdhacboegmccaaDoor
open Go Go.ChangeShapes Go.WideShapes Go.ChangeAt Go.RowKit

section
variable {H : Type} {enc : TypeId × Value → H} {W : World} {base : Nat} {spare : Nat → Bool} {held : Bool}
set_option maxRecDepth 100000 in
theorem evs_trod {fuel : Nat} {cs : List Value} {x : DataW H × List MemPlace} (h : DataW.trod enc Tryd.prog W base spare held fuel 38 cs = some x) :
    ∃ (l : List EvX) (ao : Option Addr) (cap : Nat), cs = [.slice ao l.length cap] ∧ EvsIn W.heap.size W ao l ∧ l.length ≤ cap ∧ cap ≤ maxLen ∧ ∀ x ∈ l, (∀ a ∈ x.ev.vals, valGo a) ∧ x.ev.vals.length ≤ maxLen := by
  rcases DataW.trod_slice Tryd.underlying38 h with ⟨h0, _⟩ | ⟨a, len, cap, elems, rest, n, _, rfl, rfl, hb, hl, hm, hlen, hel, _, _⟩
  · exact ⟨[], none, 0, h0, Or.inl rfl, by simp, by simp, by simp⟩
  · have each : ∀ i, i < len → ∃ v : EvX, ((∀ a ∈ v.ev.vals, valGo a) ∧ v.ev.vals.length ≤ maxLen) ∧ ValsIn W.heap.size W v.va v.ev.vals ∧ ∀ j, j < 3 → W.cell? (a.add (i * 3 + j)) = v.cells[j]? := by
      intro i hi
      have h1 := hel i hi
      rw [List.getElem?_eq_getElem (by omega), cellsEv] at h1
      cases hc : W.cells? base (a.add (i * 3)) 3 with
      | none => rw [hc] at h1; cases h1
      | some c =>
        rw [hc] at h1
        obtain ⟨e, va, vc, rfl, hv, hvl, hvi⟩ := event_trod h1
        refine ⟨⟨e, va, vc⟩, ⟨fun a ha => hvi a ha, hvl⟩, hv, fun j hj => ?_⟩
        have h2 := (World.cells?_some hc).2.2 j hj
        rw [Addr.add_add] at h2
        exact h2
    obtain ⟨f, hf⟩ : ∃ f : Nat → EvX, ∀ i, i < len → ((∀ a ∈ (f i).ev.vals, valGo a) ∧ (f i).ev.vals.length ≤ maxLen) ∧ ValsIn W.heap.size W (f i).va (f i).ev.vals ∧ ∀ j, j < 3 → W.cell? (a.add (i * 3 + j)) = (f i).cells[j]? :=
      ⟨fun i => if h : i < len then (each i h).choose else ⟨zeroEv, none, 0⟩, fun i hi => by simp only [hi, dif_pos]; exact (each i hi).choose_spec⟩
    have hll : ((List.range len).map f).length = len := by simp
    refine ⟨(List.range len).map f, some a, cap, by rw [hll], ?_, by rw [hll]; omega, hm, ?_⟩
    · rcases Nat.eq_zero_or_pos len with h0 | h0
      · subst h0
        exact Or.inl rfl
      · obtain ⟨b, o, sp⟩ := a
        have hsp : sp = none := by
          have h3 := (hf 0 h0).2.2 0 (by omega)
          cases sp with
          | none => rfl
          | some x =>
            simp [World.cell?, Addr.add, EvX.cells] at h3
            split at h3 <;> cases h3
        subst hsp
        have ea : ∀ k, (⟨b, o, none⟩ : Addr).add k = ⟨b, o + k, none⟩ := by
          intro k
          unfold Addr.add
          split
          · subst_vars; rfl
          · rfl
        have hlt : b < W.heap.size := by
          have h3 := (hf 0 h0).2.2 0 (by omega)
          rw [ea] at h3
          exact World.block_lt_of_cell? W _ h3
        refine Or.inr ⟨b, o, rfl, hlt, fun i hi => ?_⟩
        have hi' : i < len := by simpa using hi
        have h3 := (hf i hi').2.2
        simp only [List.getElem_map, List.getElem_range]
        have g0 := h3 0 (by omega)
        have g1 := h3 1 (by omega)
        have g2 := h3 2 (by omega)
        rw [ea] at g0 g1 g2
        exact ⟨⟨g0, g1, g2⟩, (hf i hi').2.1⟩
    · intro v hv
      obtain ⟨i, hi, rfl⟩ := List.mem_map.1 hv
      exact (hf i (by simpa using hi)).1
end
end Go.Proofs.YtmdhacboegmccaaDoor
