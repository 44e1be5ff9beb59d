/- Numbers and lists of bytes that came in. -/
import Derived.Test.YtmdhacboegmccaaDoorIntsWalk
import Derived.Test.YtmdhacboegmccaaDoorIn
namespace Go.Proofs.YtmdhacboegmccaaDoor
open Go Go.ChangeShapes Go.WideShapes Go.ChangeAt Go.RowKit

theorem cellsBs : Tryd.prog.cellsOf 25 = 1 := by kernel_rfl
section
variable {H : Type} {enc : TypeId × Value → H} {W : World} {base : Nat} {spare : Nat → Bool} {held : Bool}
theorem spot_none {a : Addr} {v : Value} (h : W.cell? (a.add 0) = some v) : a.spot = none := by
  obtain ⟨b, o, sp⟩ := a
  cases sp with
  | none => rfl
  | some x =>
    simp [World.cell?, Addr.add] at h
    split at h <;> cases h
theorem add_none (b o k : Nat) : (⟨b, o, none⟩ : Addr).add k = ⟨b, o + k, none⟩ := by
  unfold Addr.add
  split
  · subst_vars; rfl
  · rfl
set_option maxRecDepth 100000 in
theorem nums_trod {fuel : Nat} {cs : List Value} {x : DataW H × List MemPlace} (h : DataW.trod enc Tryd.prog W base spare held fuel 46 cs = some x) :
    ∃ (l : List Int) (ao : Option Addr) (cap : Nat), cs = [.slice ao l.length cap] ∧ NumsAt W ao l ∧ l.length ≤ maxLen ∧ ∀ n ∈ l, -9223372036854775808 ≤ n ∧ n ≤ 9223372036854775807 := by
  rcases DataW.trod_slice Tryd.underlying46 h with ⟨h0, _⟩ | ⟨a, len, cap, elems, rest, n, _, rfl, rfl, hb, hl, hm, hlen, hel, _, _⟩
  · exact ⟨[], none, 0, h0, Or.inl rfl, by simp, by simp⟩
  · have each : ∀ i, i < len → ∃ v : Int, (-9223372036854775808 ≤ v ∧ v ≤ 9223372036854775807) ∧ W.cell? (a.add i) = some (.int .i64 v) := by
      intro i hi
      have h1 := hel i hi
      rw [List.getElem?_eq_getElem (by omega), cellsI64, Nat.mul_one] at h1
      cases hc : W.cells? base (a.add i) 1 with
      | none => rw [hc] at h1; cases h1
      | some c =>
        rw [hc] at h1
        obtain ⟨z, e0, _, wz⟩ := DataW.trod_int Tryd.underlying2 h1
        subst e0
        exact ⟨z, bounds_i64 wz, cell_of_cells?_one hc⟩
    obtain ⟨f, hf⟩ : ∃ f : Nat → Int, ∀ i, i < len → (-9223372036854775808 ≤ f i ∧ f i ≤ 9223372036854775807) ∧ W.cell? (a.add i) = some (.int .i64 (f i)) :=
      ⟨fun i => if h : i < len then (each i h).choose else 0, fun i hi => by simp only [hi, dif_pos]; exact (each i hi).choose_spec⟩
    have hll : ((List.range len).map f).length = len := by simp
    refine ⟨(List.range len).map f, some a, cap, by rw [hll], ?_, by rw [hll]; omega, ?_⟩
    · rcases Nat.eq_zero_or_pos len with h0 | h0
      · subst h0
        exact Or.inl rfl
      · have hs := spot_none (hf 0 h0).2
        obtain ⟨b, o, sp⟩ := a
        simp only at hs
        subst hs
        refine Or.inr ⟨b, o, rfl, fun i hi => ?_⟩
        have h3 := (hf i (by simpa using hi)).2
        rw [add_none] at h3
        simpa using h3
    · intro v hv
      obtain ⟨i, hi, rfl⟩ := List.mem_map.1 hv
      exact (hf i (by simpa using hi)).1
theorem weights_all {P : Program} {e : TypeId} : ∀ {l : List (DataW H)} {d : DataW H}, d ∈ l → ∀ n ∈ d.weights P e, n ∈ DataW.weightsAll P e l
  | x :: r, d, hd, n, hn => by
    simp only [DataW.weightsAll, List.mem_append]
    rcases List.mem_cons.1 hd with rfl | hd
    · exact Or.inl hn
    · exact Or.inr (weights_all hd n hn)
set_option maxRecDepth 100000 in
theorem raws_trod {fuel : Nat} {cs : List Value} {x : DataW H × List MemPlace} (h : DataW.trod enc Tryd.prog W base spare held fuel 47 cs = some x) :
    ∃ (l : List RawX) (ao : Option Addr) (cap : Nat), cs = [.slice ao l.length cap] ∧ RawsIn W ao l ∧ l.length ≤ maxLen ∧ ∀ y ∈ l, y.l.length ≤ y.cap ∧ y.cap ≤ maxLen ∧ ((∀ n ∈ x.1.weights Tryd.prog 47, n ≤ reachBytes) → y.l.length ≤ reachBytes) := by
  rcases DataW.trod_slice Tryd.underlying47 h with ⟨h0, _⟩ | ⟨a, len, cap, elems, rest, n, _, rfl, rfl, hb, hl, hm, hlen, hel, _, _⟩
  · exact ⟨[], none, 0, h0, Or.inl rfl, by simp, by simp⟩
  · have each : ∀ i, i < len → ∃ y : RawX, (y.l.length ≤ y.cap ∧ y.cap ≤ maxLen ∧ ((∀ n ∈ (DataW.slice (elems.map (·.1)) (rest.map (·.1))).weights Tryd.prog 47, n ≤ reachBytes) → y.l.length ≤ reachBytes)) ∧ W.cell? (a.add i) = some (.slice y.ao y.l.length y.cap) ∧ BytesAt W y.ao y.l := by
      intro i hi
      have h1 := hel i hi
      rw [List.getElem?_eq_getElem (by omega), cellsBs, Nat.mul_one] at h1
      cases hc : W.cells? base (a.add i) 1 with
      | none => rw [hc] at h1; cases h1
      | some c =>
        rw [hc] at h1
        obtain ⟨l, ao, cp, rfl, _, hy, q1, q2, q3⟩ := bytes_trod h1
        refine ⟨⟨l, ao, cp⟩, ⟨q1, q2, fun hw => q3 fun n hn => hw n ?_⟩, cell_of_cells?_one hc, hy⟩
        simp only [DataW.weights, Tryd.underlying47, List.mem_cons, List.mem_append]
        exact Or.inr (Or.inl (weights_all (List.mem_map_of_mem (List.getElem_mem (by omega))) n hn))
    obtain ⟨f, hf⟩ : ∃ f : Nat → RawX, ∀ i, i < len → ((f i).l.length ≤ (f i).cap ∧ (f i).cap ≤ maxLen ∧ ((∀ n ∈ (DataW.slice (elems.map (·.1)) (rest.map (·.1))).weights Tryd.prog 47, n ≤ reachBytes) → (f i).l.length ≤ reachBytes)) ∧ W.cell? (a.add i) = some (.slice (f i).ao (f i).l.length (f i).cap) ∧ BytesAt W (f i).ao (f i).l :=
      ⟨fun i => if h : i < len then (each i h).choose else ⟨[], none, 0⟩, fun i hi => by simp only [hi, dif_pos]; exact (each i hi).choose_spec⟩
    have hll : ((List.range len).map f).length = len := by simp
    refine ⟨(List.range len).map f, some a, cap, by rw [hll], ?_, by rw [hll]; omega, ?_⟩
    · rcases Nat.eq_zero_or_pos len with h0 | h0
      · subst h0
        exact Or.inl rfl
      · have hs := spot_none (hf 0 h0).2.1
        obtain ⟨b, o, sp⟩ := a
        simp only at hs
        subst hs
        refine Or.inr ⟨b, o, rfl, fun i hi => ?_⟩
        have h3 := (hf i (by simpa using hi)).2
        rw [add_none] at h3
        simpa using h3
    · intro v hv
      obtain ⟨i, hi, rfl⟩ := List.mem_map.1 hv
      exact (hf i (by simpa using hi)).1
end
end Go.Proofs.YtmdhacboegmccaaDoor
