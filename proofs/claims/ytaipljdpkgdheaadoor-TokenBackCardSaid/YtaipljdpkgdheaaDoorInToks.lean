/- Tokens that came in, as the walks want them. -/
import Derived.Test.YtaipljdpkgdheaaDoorSpellSpec
import Derived.Test.YtaipljdpkgdheaaDoorIn
namespace Go.Proofs.YtaipljdpkgdheaaDoor
open Go Go.ChangeShapes Go.WideShapes Go.ChangeAt Go.RowKit

theorem cellsI : Tryd.prog.cellsOf 3 = 1 := by kernel_rfl
theorem cellsStr : Tryd.prog.cellsOf 9 = 1 := by kernel_rfl
theorem cellsTok : Tryd.prog.cellsOf 28 = 3 := by kernel_rfl
section
variable {H : Type} {enc : TypeId × Value → H} {W : World} {base : Nat} {spare : Nat → Bool} {held : Bool}
set_option maxRecDepth 100000 in
theorem tok_trod {fuel : Nat} {cs : List Value} {x : DataW H × List MemPlace} (h : DataW.trod enc Tryd.prog W base spare held fuel 28 cs = some x) :
    ∃ t : Tok, cs = t.cells ∧ t.str.size ≤ maxLen ∧ ((∀ n ∈ x.1.weights Tryd.prog 28, n ≤ reachBytes) → t.str.size ≤ reachBytes) := by
  obtain ⟨y0, y1, y2, n, hx, hl, h0, h1, h2⟩ := Go.Deep.trod_struct3 Tryd.underlying28 h
  rw [cellsTok] at hl
  match cs, hl with
  | [c0, c1, c2], _ =>
    simp only [cellsI, cellsStr, List.drop_zero, List.drop_succ_cons, List.take_succ_cons, List.take_zero] at h0 h1 h2
    obtain ⟨k, e0, _, _⟩ := DataW.trod_int Tryd.underlying3 h0
    obtain ⟨s, e1, hd1, ws⟩ := DataW.trod_string Tryd.underlying9 h1
    obtain ⟨a, e2, _, _⟩ := DataW.trod_int Tryd.underlying3 h2
    cases e0; cases e1; cases e2
    refine ⟨⟨k, s, a⟩, rfl, ws, fun hw => ?_⟩
    have h3 := hw s.data.toList.length (by
      rw [hx]
      simp only [DataW.weights, Tryd.underlying28]
      simp [DataW.weightsEach, hd1, DataW.weights])
    exact h3
theorem weights_in {P : Program} {e : TypeId} : ∀ {l : List (DataW H)} {d : DataW H}, d ∈ l → ∀ n ∈ d.weights P e, n ∈ DataW.weightsAll P e l
  | [], _, hd, _, _ => by simp at hd
  | x :: r, d, hd, n, hn => by
    rw [DataW.weightsAll, List.mem_append]
    rcases List.mem_cons.1 hd with rfl | hd
    · exact Or.inl hn
    · exact Or.inr (weights_in hd n hn)
set_option maxRecDepth 100000 in
theorem toks_trod {fuel : Nat} {cs : List Value} {x : DataW H × List MemPlace} (h : DataW.trod enc Tryd.prog W base spare held fuel 23 cs = some x) :
    ∃ (l : List Tok) (ao : Option Addr) (cap : Nat), cs = [.slice ao l.length cap] ∧ ToksAt W ao l ∧ l.length ≤ maxLen ∧ ((∀ n ∈ x.1.weights Tryd.prog 23, n ≤ reachBytes) → ∀ t ∈ l, t.str.size ≤ reachBytes) := by
  rcases DataW.trod_slice Tryd.underlying23 h with ⟨h0, _⟩ | ⟨a, len, cap, elems, rest, n, _, rfl, rfl, hb, hl, hm, hlen, hel, _, _⟩
  · exact ⟨[], none, 0, h0, Or.inl rfl, by simp, by simp⟩
  · have each : ∀ i (_ : i < len), ∃ v : Tok, (∀ j, j < 3 → W.cell? (a.add (i * 3 + j)) = v.cells[j]?) ∧ ((∀ n ∈ (DataW.slice (elems.map (·.1)) (rest.map (·.1))).weights Tryd.prog 23, n ≤ reachBytes) → v.str.size ≤ reachBytes) := by
      intro i hi
      have h1 := hel i hi
      rw [List.getElem?_eq_getElem (by omega), cellsTok] at h1
      cases hc : W.cells? base (a.add (i * 3)) 3 with
      | none => rw [hc] at h1; cases h1
      | some c =>
        rw [hc] at h1
        obtain ⟨t, rfl, _, hw⟩ := tok_trod h1
        refine ⟨t, fun j hj => ?_, fun hq => hw fun n hn => hq n ?_⟩
        · have h2 := (World.cells?_some hc).2.2 j hj
          rw [Addr.add_add] at h2
          exact h2
        · simp only [DataW.weights, Tryd.underlying23, List.mem_cons, List.mem_append]
          exact Or.inr (Or.inl (weights_in (List.mem_map_of_mem (List.getElem_mem (by omega))) n hn))
    obtain ⟨f, hf⟩ : ∃ f : Nat → Tok, ∀ i (_ : i < len), (∀ j, j < 3 → W.cell? (a.add (i * 3 + j)) = (f i).cells[j]?) ∧ ((∀ n ∈ (DataW.slice (elems.map (·.1)) (rest.map (·.1))).weights Tryd.prog 23, n ≤ reachBytes) → (f i).str.size ≤ reachBytes) :=
      ⟨fun i => if h : i < len then (each i h).choose else ⟨0, ⟨#[]⟩, 0⟩, fun i hi => by simp only [hi, dif_pos]; exact (each i hi).choose_spec⟩
    have hll : ((List.range len).map f).length = len := by simp
    refine ⟨(List.range len).map f, some a, cap, by rw [hll], ?_, by rw [hll]; omega, fun hw => ?_⟩
    · rcases Nat.eq_zero_or_pos len with h0 | h0
      · subst h0
        exact Or.inl rfl
      · obtain ⟨b, o, sp⟩ := a
        have hsp : sp = none := by
          have h3 := (hf 0 h0).1 0 (by omega)
          cases sp with
          | none => rfl
          | some x =>
            simp [World.cell?, Addr.add, Tok.cells] at h3
            split at h3 <;> cases h3
        subst hsp
        have ea : ∀ k, (⟨b, o, none⟩ : Addr).add k = ⟨b, o + k, none⟩ := by
          intro k
          unfold Addr.add
          split
          · subst_vars; rfl
          · rfl
        refine Or.inr ⟨b, o, rfl, fun i hi => ?_⟩
        have hi' : i < len := by simpa using hi
        have h3 := (hf i hi').1
        simp only [List.getElem_map, List.getElem_range]
        have g0 := h3 0 (by omega)
        have g1 := h3 1 (by omega)
        have g2 := h3 2 (by omega)
        rw [ea] at g0 g1 g2
        exact ⟨g0, g1, g2⟩
    · intro v hv
      obtain ⟨i, hi, rfl⟩ := List.mem_map.1 hv
      exact (hf i (by simpa using hi)).2 hw
end
end Go.Proofs.YtaipljdpkgdheaaDoor
