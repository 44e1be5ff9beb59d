/- Split of any text; what is told of it. -/
import Derived.Test.YtdkddnlolnbpgaaDoorBegun
namespace Go.Proofs.YtdkddnlolnbpgaaDoor
open Go Go.RowKit

/-- Split of any text. -/
def SplitR (t : List UInt8) : List (List (List UInt8)) × List UInt8 × Int := if 65536 < t.length then ([], [], 2) else splitR [] t
theorem SplitR_long {t : List UInt8} (h : 65536 < t.length) : SplitR t = ([], [], 2) := if_pos h
theorem SplitR_short {t : List UInt8} (h : ¬ 65536 < t.length) : SplitR t = splitR [] t := if_neg h
/-- The place that is told, of any text. -/
def AtR (t : List UInt8) : Int := if (SplitR t).2.2 = 0 ∨ (SplitR t).2.2 = 2 then 0 else ((t.length - (SplitR t).2.1.length : Nat) : Int)
theorem splitR_two (t : List UInt8) : (splitR [] t).2.2 ≠ 2 := by
  rcases split_err _ [] t (Nat.le_refl _) with ⟨h, _⟩ | ⟨h | h, _⟩ <;> rw [h] <;> decide
theorem SplitR_fit (t : List UInt8) : ∀ r ∈ (SplitR t).1, ∀ y ∈ r, y.length ≤ 65536 := by
  by_cases h : 65536 < t.length
  · rw [SplitR_long h]; intro r hr; cases hr
  · rw [SplitR_short h]
    exact split_fit 65536 _ [] t (Nat.le_refl _) (by omega) (by simp)

set_option maxHeartbeats 8000000 in
set_option maxRecDepth 100000 in
theorem split_all (t : ByteArray) (w : World) (ht : t.size ≤ 9223372036854775807) :
    Calls Tryd.prog 8 #[.string t] w fun e w' => (∃ (l : List RowX) (va : Option Addr) (cap : Nat), e = .returned (.tuple #[.slice va l.length cap, .int .i64 (AtR t.data.toList), .int .i64 (SplitR t.data.toList).2.2]) ∧ cellsOf l = (SplitR t.data.toList).1 ∧ w'.ownsRow w.heap.size 28 1 (.slice va l.length cap) l.length (rowsC l) ∧ ∀ x ∈ l, ROwn w.heap.size (fun g => (Value.slice va l.length cap).ownBlock = some g) w' x) ∧ Below w.heap.size w w' := by
  have hsz : t.data.toList.length = t.size := rfl
  by_cases h : 65536 < t.size
  · refine (split_long t w h ht).mono fun e w' ⟨h1, h2⟩ => ?_
    subst h2
    have hR := SplitR_long (t := t.data.toList) (by omega)
    refine ⟨⟨[], none, 0, ?_, by rw [hR]; rfl, World.ownsRow_nil _ _ _ _, by simp⟩, Below.refl _ _⟩
    rw [h1]
    unfold AtR
    rw [hR]
    rfl
  · refine (split_any t w (by omega)).mono fun e w' ⟨⟨l, va, cap, h1, h2, h3, h4⟩, h5⟩ => ?_
    have hR := SplitR_short (t := t.data.toList) (by omega)
    refine ⟨⟨l, va, cap, ?_, by rw [hR]; exact h2, h3, h4⟩, h5⟩
    rw [h1]
    unfold AtR atR
    rw [hR, hsz]
    have h6 := splitR_two t.data.toList
    by_cases h0 : (splitR [] t.data.toList).2.2 = 0
    · rw [if_pos h0, if_pos (Or.inl h0)]
    · rw [if_neg h0, if_neg (by rintro (h | h); exact h0 h; exact h6 h)]
theorem fit_all {l : List RowX} {t : List UInt8} {B : Nat} {no : Nat → Prop} {w : World} (hc : cellsOf l = (SplitR t).1) (hx : ∀ x ∈ l, ROwn B no w x) : ∀ x ∈ l, Fit x := by
  intro x hm
  refine ⟨(strs_in (hx x hm)).2, fun y hy => ?_⟩
  have := SplitR_fit t x.c (by rw [← hc]; exact mem_cellsOf hm) y hy
  omega
/-- What a fault's place is. -/
theorem AtR_fault {t : List UInt8} (h0 : (SplitR t).2.2 ≠ 0) (h2 : (SplitR t).2.2 ≠ 2) : 0 ≤ AtR t ∧ AtR t < t.length ∧ (SplitR t).1 = [] := by
  have hs : ¬ 65536 < t.length := by
    intro h
    rw [SplitR_long h] at h2
    exact h2 rfl
  unfold AtR
  rw [if_neg (by rintro (h | h); exact h0 h; exact h2 h)]
  rw [SplitR_short hs] at h0 ⊢
  rcases split_err _ [] t (Nat.le_refl _) with ⟨h, _⟩ | ⟨_, h3, h4, h5⟩
  · exact absurd h h0
  · exact ⟨by omega, by omega, h5⟩
theorem SplitR_ok {t : List UInt8} (h : (SplitR t).2.2 = 0) : ¬ 65536 < t.length ∧ [] ∉ (SplitR t).1 ∧ AtR t = 0 := by
  have hs : ¬ 65536 < t.length := by
    intro h1
    rw [SplitR_long h1] at h
    cases h
  refine ⟨hs, ?_, by unfold AtR; rw [if_pos (Or.inl h)]⟩
  rw [SplitR_short hs]
  exact split_cells _ [] t (Nat.le_refl _) (by simp)
/-- Rows behind the rows of a text are rows more. -/
theorem SplitR_behind {rows : List (List (List UInt8))} {more : List UInt8} (h : [] ∉ rows) (h1 : (SplitR (joinB rows ++ more)).2.2 = 0) (h2 : (SplitR more).2.2 = 0) : (SplitR (joinB rows ++ more)).1 = rows ++ (SplitR more).1 := by
  have k1 := (SplitR_ok h1).1
  have k2 := (SplitR_ok h2).1
  rw [SplitR_short k1, split_back rows [] more h, List.nil_append]
  rw [SplitR_short k2] at h2 ⊢
  exact (split_acc _ rows more (Nat.le_refl _)).2 h2
theorem RowsIn.slice {B : Nat} {w : World} {b o : Nat} {l : List RowX} (k : Nat) (h : RowsIn B w (some ⟨b, o, none⟩) l) : RowsIn B w (some ⟨b, o + k, none⟩) (l.drop k) := by
  rcases h with h | ⟨b', o', e, hl, h⟩
  · exact Or.inl (by rw [h]; simp)
  · cases e
    refine Or.inr ⟨b, o + k, rfl, hl, fun i hi => ?_⟩
    have hi2 : k + i < l.length := by rw [List.length_drop] at hi; omega
    have := h (k + i) hi2
    rw [← Nat.add_assoc] at this
    simpa using this
theorem RowsIn.take {B : Nat} {w : World} {ao : Option Addr} {l : List RowX} (k : Nat) (h : RowsIn B w ao l) : RowsIn B w ao (l.take k) := by
  rcases h with h | ⟨b, o, e, hl, h⟩
  · exact Or.inl (by rw [h]; simp)
  · refine Or.inr ⟨b, o, e, hl, fun i hi => ?_⟩
    have hi2 : i < l.length := by rw [List.length_take] at hi; omega
    simpa using h i hi2
end Go.Proofs.YtdkddnlolnbpgaaDoor
