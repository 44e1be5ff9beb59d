/- An event and bytes that came in, as the walks want them. -/
import Derived.Test.YtmdhacboegmccaaDoorOneForm
import Derived.ChangeSlices
import Derived.Deep.Strs
import Derived.Lib.SmallJoins
import Derived.Carry
import Derived.SizedLaws
namespace Go.Proofs.YtmdhacboegmccaaDoor
open Go Go.ChangeShapes Go.WideShapes Go.ChangeAt Go.RowKit

theorem cellsI : Tryd.prog.cellsOf 3 = 1 := by kernel_rfl
theorem cellsI64 : Tryd.prog.cellsOf 2 = 1 := by kernel_rfl
theorem cellsStr : Tryd.prog.cellsOf 9 = 1 := by kernel_rfl
theorem cellsBool : Tryd.prog.cellsOf 4 = 1 := by kernel_rfl
theorem cellsU8 : Tryd.prog.cellsOf 5 = 1 := by kernel_rfl
theorem cellsVals : Tryd.prog.cellsOf 22 = 1 := by kernel_rfl
theorem cellsVal : Tryd.prog.cellsOf 95 = 4 := by kernel_rfl
theorem cellsEv : Tryd.prog.cellsOf 24 = 3 := by kernel_rfl
theorem bytesU8 : Tryd.prog.bytesOf 5 = 1 := by kernel_rfl

def valIn (a : Val) : Prop := a.str.size ≤ maxLen ∧ -9223372036854775808 ≤ a.int ∧ a.int ≤ 9223372036854775807
section
variable {H : Type} {enc : TypeId × Value → H} {W : World} {base : Nat} {spare : Nat → Bool} {held : Bool}
set_option maxRecDepth 100000 in
theorem val_trod {fuel : Nat} {cs : List Value} {x : DataW H × List MemPlace} (h : DataW.trod enc Tryd.prog W base spare held fuel 95 cs = some x) : ∃ a : Val, cs = a.cells ∧ valIn a := by
  obtain ⟨y0, y1, y2, y3, n, _, hl, h0, h1, h2, h3⟩ := Go.Joins.trod_struct4 Tryd.underlying95 h
  rw [cellsVal] at hl
  match cs, hl with
  | [c0, c1, c2, c3], _ =>
    simp only [cellsI, cellsI64, cellsStr, cellsBool, List.drop_zero, List.drop_succ_cons, List.take_succ_cons, List.take_zero] at h0 h1 h2 h3
    obtain ⟨k, e0, _, _⟩ := DataW.trod_int Tryd.underlying3 h0
    obtain ⟨i, e1, _, wi⟩ := DataW.trod_int Tryd.underlying2 h1
    obtain ⟨s, e2, _, ws⟩ := DataW.trod_string Tryd.underlying9 h2
    obtain ⟨b, e3, _⟩ := DataW.trod_bool Tryd.underlying4 h3
    cases e0; cases e1; cases e2; cases e3
    exact ⟨⟨k, i, s, b⟩, rfl, ws, bounds_i64 wi⟩
set_option maxRecDepth 100000 in
theorem vals_trod {fuel : Nat} {cs : List Value} {x : DataW H × List MemPlace} (h : DataW.trod enc Tryd.prog W base spare held fuel 22 cs = some x) :
    ∃ (l : List Val) (va : Option Addr) (vc : Nat), cs = [.slice va l.length vc] ∧ ValsIn W.heap.size W va l ∧ l.length ≤ maxLen ∧ ∀ a ∈ l, valIn a := by
  rcases DataW.trod_slice Tryd.underlying22 h with ⟨h0, _⟩ | ⟨a, len, cap, elems, rest, n, _, rfl, rfl, hb, hl, hm, hlen, hel, _, _⟩
  · exact ⟨[], none, 0, h0, Or.inl rfl, by simp, by simp⟩
  · have each : ∀ i, i < len → ∃ v : Val, valIn v ∧ ∀ j, j < 4 → W.cell? (a.add (i * 4 + j)) = v.cells[j]? := by
      intro i hi
      have h1 := hel i hi
      rw [List.getElem?_eq_getElem (by omega), cellsVal] at h1
      cases hc : W.cells? base (a.add (i * 4)) 4 with
      | none => rw [hc] at h1; cases h1
      | some c =>
        rw [hc] at h1
        obtain ⟨v, rfl, hv⟩ := val_trod h1
        refine ⟨v, hv, fun j hj => ?_⟩
        have h2 := (World.cells?_some hc).2.2 j hj
        rw [Addr.add_add] at h2
        exact h2
    obtain ⟨f, hf⟩ : ∃ f : Nat → Val, ∀ i, i < len → valIn (f i) ∧ ∀ j, j < 4 → W.cell? (a.add (i * 4 + j)) = (f i).cells[j]? :=
      ⟨fun i => if h : i < len then (each i h).choose else zeroVal, fun i hi => by simp only [hi, dif_pos]; exact (each i hi).choose_spec⟩
    have hll : ((List.range len).map f).length = len := by simp
    refine ⟨(List.range len).map f, some a, cap, by rw [hll], ?_, by rw [hll]; omega, ?_⟩
    · rcases Nat.eq_zero_or_pos len with h0 | h0
      · subst h0
        exact Or.inl rfl
      · obtain ⟨b, o, sp⟩ := a
        have hsp : sp = none := by
          have h3 := (hf 0 h0).2 0 (by omega)
          cases sp with
          | none => rfl
          | some x =>
            simp [World.cell?, Addr.add, Val.cells] at h3
            split at h3 <;> cases h3
        subst hsp
        have ea : ∀ k, (⟨b, o, none⟩ : Addr).add k = ⟨b, o + k, none⟩ := by
          intro k
          unfold Addr.add
          split
          · subst_vars; rfl
          · rfl
        have hlt : b < W.heap.size := by
          have h3 := (hf 0 h0).2 0 (by omega)
          rw [ea] at h3
          exact World.block_lt_of_cell? W _ h3
        refine Or.inr ⟨b, o, rfl, hlt, fun i hi => ?_⟩
        have hi' : i < len := by simpa using hi
        have h3 := (hf i hi').2
        simp only [List.getElem_map, List.getElem_range]
        have g0 := h3 0 (by omega)
        have g1 := h3 1 (by omega)
        have g2 := h3 2 (by omega)
        have g3 := h3 3 (by omega)
        rw [ea] at g0 g1 g2 g3
        exact ⟨g0, g1, g2, g3⟩
    · intro v hv
      obtain ⟨i, hi, rfl⟩ := List.mem_map.1 hv
      exact (hf i (by simpa using hi)).1
set_option maxRecDepth 100000 in
theorem event_trod {fuel : Nat} {cs : List Value} {x : DataW H × List MemPlace} (h : DataW.trod enc Tryd.prog W base spare held fuel 24 cs = some x) :
    ∃ (e : Ev) (va : Option Addr) (vc : Nat), cs = [.string e.ty, .int .i64 e.time, .slice va e.vals.length vc] ∧ ValsIn W.heap.size W va e.vals ∧ e.vals.length ≤ maxLen ∧ ∀ a ∈ e.vals, valIn a := by
  obtain ⟨y0, y1, y2, n, _, hl, h0, h1, h2⟩ := Go.Deep.trod_struct3 Tryd.underlying24 h
  rw [cellsEv] at hl
  match cs, hl with
  | [c0, c1, c2], _ =>
    simp only [cellsI64, cellsStr, cellsVals, List.drop_zero, List.drop_succ_cons, List.take_succ_cons, List.take_zero] at h0 h1 h2
    obtain ⟨s, e0, _, ws⟩ := DataW.trod_string Tryd.underlying9 h0
    obtain ⟨i, e1, _, wi⟩ := DataW.trod_int Tryd.underlying2 h1
    obtain ⟨l, va, vc, e2, hv, hm, hi⟩ := vals_trod h2
    cases e0; cases e1; cases e2
    exact ⟨⟨s, i, l⟩, va, vc, rfl, hv, hm, hi⟩
set_option maxRecDepth 100000 in
/-- Bytes that came in. -/
theorem bytes_trod {fuel : Nat} {cs : List Value} {x : DataW H × List MemPlace} (h : DataW.trod enc Tryd.prog W base spare held fuel 25 cs = some x) :
    ∃ (l : List UInt8) (ao : Option Addr) (cap : Nat), cs = [.slice ao l.length cap] ∧ BytesArg W ao cap l ∧ BytesAt W ao l ∧ l.length ≤ cap ∧ cap ≤ maxLen ∧ ((∀ n ∈ x.1.weights Tryd.prog 25, n ≤ reachBytes) → l.length ≤ reachBytes) := by
  rcases DataW.trod_slice Tryd.underlying25 h with ⟨h0, hx⟩ | ⟨a, len, cap, elems, rest, n, _, rfl, rfl, hb, hl, hm, hlen, hel, _, _⟩
  · exact ⟨[], none, 0, h0, Or.inl ⟨rfl, rfl, rfl⟩, Or.inl rfl, by simp, by simp, by simp⟩
  · have each : ∀ i, i < len → ∃ v : UInt8, W.cell? (a.add i) = some (.int .u8 (v.toNat : Int)) := by
      intro i hi
      have h1 := hel i hi
      rw [List.getElem?_eq_getElem (by omega), cellsU8, Nat.mul_one] at h1
      cases hc : W.cells? base (a.add i) 1 with
      | none => rw [hc] at h1; cases h1
      | some c =>
        rw [hc] at h1
        obtain ⟨z, e0, _, wz⟩ := DataW.trod_int Tryd.underlying5 h1
        subst e0
        have hz := bounds_u8 wz
        refine ⟨UInt8.ofNat z.toNat, ?_⟩
        rw [cell_of_cells?_one hc]
        congr 2
        simp
        omega
    obtain ⟨f, hf⟩ : ∃ f : Nat → UInt8, ∀ i, i < len → W.cell? (a.add i) = some (.int .u8 ((f i).toNat : Int)) :=
      ⟨fun i => if h : i < len then (each i h).choose else 0, fun i hi => by simp only [hi, dif_pos]; exact (each i hi).choose_spec⟩
    have hll : ((List.range len).map f).length = len := by simp
    have hw : (∀ n ∈ (DataW.slice (elems.map (·.1)) (rest.map (·.1))).weights Tryd.prog 25, n ≤ reachBytes) → ((List.range len).map f).length ≤ reachBytes := by
      intro hw
      have h1 := hw ((elems.length + rest.length) * Tryd.prog.bytesOf 5) (by simp [DataW.weights, Tryd.underlying25])
      rw [bytesU8, Nat.mul_one] at h1
      rw [hll]
      omega
    rcases Nat.eq_zero_or_pos len with h0 | h0
    · subst h0
      exact ⟨[], some a, cap, rfl, Or.inr ⟨a, rfl, fun j u hu => by simp [bytesC] at hu⟩, Or.inl rfl, by simp, hm, fun _ => by simp⟩
    · obtain ⟨b, o, sp⟩ := a
      have hsp : sp = none := by
        have h3 := hf 0 h0
        cases sp with
        | none => rfl
        | some x =>
          simp [World.cell?, Addr.add] at h3
          split at h3 <;> cases h3
      subst hsp
      have ea : ∀ k, (⟨b, o, none⟩ : Addr).add k = ⟨b, o + k, none⟩ := by
        intro k
        unfold Addr.add
        split
        · subst_vars; rfl
        · rfl
      have hcell : ∀ i (h : i < ((List.range len).map f).length), W.cell? ⟨b, o + i, none⟩ = some (.int .u8 ((((List.range len).map f)[i]).toNat : Int)) := by
        intro i hi
        have h3 := hf i (by simpa using hi)
        rw [ea] at h3
        simpa using h3
      exact ⟨(List.range len).map f, some ⟨b, o, none⟩, cap, by rw [hll], Or.inr ⟨⟨b, o, none⟩, rfl, news_of hcell⟩, Or.inr ⟨b, o, rfl, hcell⟩, by rw [hll]; exact hl, hm, hw⟩
end
end Go.Proofs.YtmdhacboegmccaaDoor
