/- Bytes that came in, as the walks want them. -/
import Derived.Test.YtaipljdpkgdheaaDoorStringWalk
import Derived.ChangeSlices
import Derived.Deep.Strs
import Derived.Lib.SmallJoins
import Derived.Carry
import Derived.SizedLaws
namespace Go.Proofs.YtaipljdpkgdheaaDoor
open Go Go.ChangeShapes Go.WideShapes Go.ChangeAt Go.RowKit

theorem cellsU8 : Tryd.prog.cellsOf 5 = 1 := by kernel_rfl
theorem bytesU8 : Tryd.prog.bytesOf 5 = 1 := by kernel_rfl
section
variable {H : Type} {enc : TypeId × Value → H} {W : World} {base : Nat} {spare : Nat → Bool} {held : Bool}
set_option maxRecDepth 100000 in
/-- Bytes that came in. -/
theorem bytes_trod {fuel : Nat} {cs : List Value} {x : DataW H × List MemPlace} (h : DataW.trod enc Tryd.prog W base spare held fuel 22 cs = some x) :
    ∃ (l : List UInt8) (ao : Option Addr) (cap : Nat), cs = [.slice ao l.length cap] ∧ BytesAt W ao l ∧ l.length ≤ cap ∧ cap ≤ maxLen ∧ ((∀ n ∈ x.1.weights Tryd.prog 22, n ≤ reachBytes) → l.length ≤ reachBytes) := by
  rcases DataW.trod_slice Tryd.underlying22 h with ⟨h0, hx⟩ | ⟨a, len, cap, elems, rest, n, _, rfl, rfl, hb, hl, hm, hlen, hel, _, _⟩
  · exact ⟨[], none, 0, h0, Or.inl rfl, by simp, by simp, by simp⟩
  · have each : ∀ i, i < len → ∃ v : UInt8, W.cell? (a.add i) = some (.int .u8 (v.toNat : Int)) := by
      intro i hi
      have h1 := hel i hi
      rw [List.getElem?_eq_getElem (by omega), cellsU8, Nat.mul_one] at h1
      cases hc : W.cells? base (a.add i) 1 with
      | none => rw [hc] at h1; cases h1
      | some c =>
        rw [hc] at h1
        obtain ⟨z, e0, _, wz⟩ := DataW.trod_int Tryd.underlying5 h1
        subst e0
        have hz := bounds_u8 wz
        refine ⟨UInt8.ofNat z.toNat, ?_⟩
        rw [cell_of_cells?_one hc]
        congr 2
        simp
        omega
    obtain ⟨f, hf⟩ : ∃ f : Nat → UInt8, ∀ i, i < len → W.cell? (a.add i) = some (.int .u8 ((f i).toNat : Int)) :=
      ⟨fun i => if h : i < len then (each i h).choose else 0, fun i hi => by simp only [hi, dif_pos]; exact (each i hi).choose_spec⟩
    have hll : ((List.range len).map f).length = len := by simp
    have hw : (∀ n ∈ (DataW.slice (elems.map (·.1)) (rest.map (·.1))).weights Tryd.prog 22, n ≤ reachBytes) → ((List.range len).map f).length ≤ reachBytes := by
      intro hw
      have h1 := hw ((elems.length + rest.length) * Tryd.prog.bytesOf 5) (by simp [DataW.weights, Tryd.underlying22])
      rw [bytesU8, Nat.mul_one] at h1
      rw [hll]
      omega
    rcases Nat.eq_zero_or_pos len with h0 | h0
    · subst h0
      exact ⟨[], some a, cap, rfl, Or.inl rfl, by simp, hm, fun _ => by simp⟩
    · obtain ⟨b, o, sp⟩ := a
      have hsp : sp = none := by
        have h3 := hf 0 h0
        cases sp with
        | none => rfl
        | some x =>
          simp [World.cell?, Addr.add] at h3
          split at h3 <;> cases h3
      subst hsp
      have ea : ∀ k, (⟨b, o, none⟩ : Addr).add k = ⟨b, o + k, none⟩ := by
        intro k
        unfold Addr.add
        split
        · subst_vars; rfl
        · rfl
      have hcell : ∀ i (h : i < ((List.range len).map f).length), W.cell? ⟨b, o + i, none⟩ = some (.int .u8 ((((List.range len).map f)[i]).toNat : Int)) := by
        intro i hi
        have h3 := hf i (by simpa using hi)
        rw [ea] at h3
        simpa using h3
      exact ⟨(List.range len).map f, some ⟨b, o, none⟩, cap, by rw [hll], Or.inr ⟨b, o, rfl, hcell⟩, by rw [hll]; exact hl, hm, hw⟩
end
end Go.Proofs.YtaipljdpkgdheaaDoor
