/- The laws' mark, wide: an event whose values have marks behind them. -/
import Derived.Test.YtmdhacboegmccaaDoorRefDecode
import Derived.Test.YtmdhacboegmccaaDoorRoomy
namespace Go.Proofs.YtmdhacboegmccaaDoor
open Go Go.RowKit

def markV (z : Int) : Val := ⟨1, 77 + z, ⟨#[]⟩, false⟩
def wideAt (l : List Val) (i : Nat) : Val := if i < l.length then l.getD i zeroVal else markV ((i : Int) - (l.length : Int))
theorem wideAt_in (l : List Val) (i : Nat) (h : i < l.length) : wideAt l i = l[i] := by simp [wideAt, h]
theorem wideAt_out (l : List Val) (i : Nat) (h : ¬ i < l.length) : wideAt l i = markV ((i : Int) - (l.length : Int)) := by simp [wideAt, h]

set_option maxRecDepth 100000 in
theorem mark_any (z : Int) (w : World) (h1 : -1000000000000000 ≤ z) (h2 : z ≤ 1000000000000000) : Calls Tryd.prog 54 #[.int .i64 z] w fun en w' => en = .returned (.agg #[.int .i64 1, .int .i64 (77 + z), .string ⟨#[]⟩, .bool false]) ∧ Below w.heap.size w w' := by
  obtain ⟨W1, hW1⟩ : ∃ W1, W1 = w.alloc (Obj.cells #[.int .i64 0, .int .i64 0, .string ⟨#[]⟩, .bool false] 95) := ⟨_, rfl⟩
  have HB1 := Lib.hid (show Below w.heap.size w W1 by rw [hW1]; exact (Below.refl _ _).alloc (Nat.le_refl _) _)
  have HC := Lib.hid (show Cells4 W1 w.heap.size (.int .i64 0) (.int .i64 0) (.string ⟨#[]⟩) (.bool false) by rw [hW1]; exact Cells4.made _ _ _ _ _ _)
  have HW1 := Lib.hid hW1
  have a0 := HC.out.c0
  have b0 := HC.out.f0
  have a1 := HC.out.c1
  have b1 := HC.out.f1
  have a2 := HC.out.c2
  have b2 := HC.out.f2
  have a3 := HC.out.c3
  have b3 := HC.out.f3
  clear hW1
  go_enter Tryd.func54, Tryd.ntmps54
  go_upto_region 1 with fail
  rw [← HW1.out]
  go_wp2_with fail
  refine bodyPost_ret (v := .agg #[.int .i64 1, .int .i64 (77 + z), .string ⟨#[]⟩, .bool false]) (by simp [results, Tryd.results54, go_sem, a0, a1, a2, a3]) rfl ⟨rfl, ?_⟩
  exact (((HB1.out.setCell (Nat.le_refl _) _).setCell (Nat.le_refl _) _).setCell (Nat.le_refl _) _).setCell (Nat.le_refl _) _

/-- A row of values of the call's own. -/
structure VRow (w : World) (B g : Nat) (r : List Val) : Prop where
  c : ∀ i (h : i < r.length), w.cell? ⟨g, i * 4, none⟩ = some (.int .i64 r[i].kind) ∧ w.cell? ⟨g, i * 4 + 1, none⟩ = some (.int .i64 r[i].int) ∧ w.cell? ⟨g, i * 4 + 2, none⟩ = some (.string r[i].str) ∧ w.cell? ⟨g, i * 4 + 3, none⟩ = some (.bool r[i].bool)
  f : ∀ j, j < r.length * 4 → w.frozen? ⟨g, j, none⟩ = false
  lo : B ≤ g
  lt : g < w.heap.size
theorem VRow.keep {w w' : World} {B g : Nat} {r : List Val} (h : VRow w B g r) (hk : w'.heap[g]? = w.heap[g]?) (hs : w.heap.size ≤ w'.heap.size) : VRow w' B g r := by
  have e : ∀ j : Nat, w'.cell? ⟨g, j, none⟩ = w.cell? ⟨g, j, none⟩ := fun j => World.cell?_of_block (w := w) hk
  refine ⟨fun i hi => ?_, fun j hj => (World.frozen?_of_block (w := w) (a := ⟨g, j, none⟩) hk).trans (h.f j hj), h.lo, Nat.lt_of_lt_of_le h.lt hs⟩
  have hc := h.c i hi
  exact ⟨(e _).trans hc.1, (e _).trans hc.2.1, (e _).trans hc.2.2.1, (e _).trans hc.2.2.2⟩
theorem VRow.below {w w' : World} {B g : Nat} {r : List Val} (h : VRow w B g r) (hb : Below w.heap.size w w') : VRow w' B g r := h.keep (hb.block g h.lt) hb.size
theorem VRow.at' {w : World} {B g : Nat} {r : List Val} (h : VRow w B g r) : ValsIn w.heap.size w (some ⟨g, 0, none⟩) r := by
  refine Or.inr ⟨g, 0, rfl, h.lt, fun i hi => ?_⟩
  have := h.c i hi
  rw [Nat.zero_add]
  exact this
theorem ValsIn.take {B : Nat} {w : World} {ao : Option Addr} {l : List Val} (h : ValsIn B w ao l) (n : Nat) : ValsIn B w ao (l.take n) := by
  rcases h with h | ⟨b, o, rfl, h1, h2⟩
  · exact Or.inl (by rw [h]; simp)
  · refine Or.inr ⟨b, o, rfl, h1, fun i hi => ?_⟩
    have hi' : i < l.length := by rw [List.length_take] at hi; omega
    rw [List.getElem_take]
    exact h2 i hi'
def storeV (w : World) (g j : Nat) (v : Val) : World := (((w.setCell ⟨g, j * 4, none⟩ (.int .i64 v.kind)).setCell ⟨g, j * 4 + 1, none⟩ (.int .i64 v.int)).setCell ⟨g, j * 4 + 2, none⟩ (.string v.str)).setCell ⟨g, j * 4 + 3, none⟩ (.bool v.bool)
theorem storeV_below {w wE : World} {g j E : Nat} {v : Val} (hb : Below E wE w) (h : E ≤ g) : Below E wE (storeV w g j v) :=
  (((hb.setCell h _).setCell h _).setCell h _).setCell h _
theorem storeV_size (w : World) (g j : Nat) (v : Val) : (storeV w g j v).heap.size = w.heap.size := by simp [storeV, World.setCell]
theorem set_ne {w : World} {g p q : Nat} {v : Value} (h : p ≠ q) : (w.setCell ⟨g, p, none⟩ v).cell? ⟨g, q, none⟩ = w.cell? ⟨g, q, none⟩ :=
  World.cell?_setCell_other _ _ _ _ (by intro e; injection e with _ e _; exact h e)
theorem VRow.set {w : World} {B g : Nat} {r : List Val} (h : VRow w B g r) (k : Nat) (hk : k < r.length) (a : Val) : VRow (storeV w g k a) B g (r.set k a) := by
  obtain ⟨k0, k1, k2, k3⟩ := h.c k hk
  refine ⟨fun i hi => ?_, fun j hj => ?_, h.lo, by rw [storeV_size]; exact h.lt⟩
  · rw [List.length_set] at hi
    obtain ⟨i0, i1, i2, i3⟩ := h.c i hi
    unfold storeV
    by_cases e : k = i
    · subst e
      rw [List.getElem_set_self]
      refine ⟨?_, ?_, ?_, ?_⟩
      · rw [set_ne (by omega), set_ne (by omega), set_ne (by omega)]
        exact World.cell?_setCell_same _ _ _ k0
      · rw [set_ne (by omega), set_ne (by omega)]
        exact World.cell?_setCell_same _ _ _ ((set_ne (by omega)).trans k1)
      · rw [set_ne (by omega)]
        exact World.cell?_setCell_same _ _ _ ((set_ne (by omega)).trans ((set_ne (by omega)).trans k2))
      · exact World.cell?_setCell_same _ _ _ ((set_ne (by omega)).trans ((set_ne (by omega)).trans ((set_ne (by omega)).trans k3)))
    · rw [List.getElem_set_ne e]
      refine ⟨?_, ?_, ?_, ?_⟩
      · rw [set_ne (by omega), set_ne (by omega), set_ne (by omega), set_ne (by omega)]; exact i0
      · rw [set_ne (by omega), set_ne (by omega), set_ne (by omega), set_ne (by omega)]; exact i1
      · rw [set_ne (by omega), set_ne (by omega), set_ne (by omega), set_ne (by omega)]; exact i2
      · rw [set_ne (by omega), set_ne (by omega), set_ne (by omega), set_ne (by omega)]; exact i3
  · rw [List.length_set] at hj
    unfold storeV
    rw [World.frozen?_setCell, World.frozen?_setCell, World.frozen?_setCell, World.frozen?_setCell]
    exact h.f j hj
theorem made_four (z0 z1 z2 z3 : Value) (N i r : Nat) (hi : i < N) (hr : r < 4) : (madeCells #[z0, z1, z2, z3] (N * 4)).toList[i * 4 + r]? = #[z0, z1, z2, z3][r]? := by
  unfold madeCells
  have e : (i * 4 + r) % 4 = r := by omega
  have h4 : (#[z0, z1, z2, z3] : Array Value).size = 4 := rfl
  have hlt : i * 4 + r < N * 4 := by omega
  rw [Array.getElem?_toList, Array.getElem?_map, Array.getElem?_range]
  simp only [hlt, h4, if_true, Option.map_some, e]
  rcases r with _ | _ | _ | _ | r
  · rfl
  · rfl
  · rfl
  · rfl
  · omega
theorem vrow_made {w : World} {B g N : Nat} (h : w.ownsRow B 95 4 (.slice (some ⟨g, 0, none⟩) N N) N (madeCells #[.int .i64 0, .int .i64 0, .string ⟨#[]⟩, .bool false] (N * 4)).toList) : VRow w B g (List.replicate N zeroVal) := by
  rcases h.2 with ⟨e, _⟩ | ⟨g', cap, cur, e, hb, hh, hn, hc, hs, ht⟩
  · cases e
  · injection e with e1 e2 e3
    injection e1 with e1
    injection e1 with e1
    subst e1
    have hget : ∀ i r, i < N → r < 4 → w.cell? ⟨g, i * 4 + r, none⟩ = #[Value.int .i64 0, .int .i64 0, .string ⟨#[]⟩, .bool false][r]? := by
      intro i r hi hr
      have hg := made_four (.int .i64 0) (.int .i64 0) (.string ⟨#[]⟩) (.bool false) N i r hi hr
      rw [← ht, List.getElem?_take, if_pos (by omega)] at hg
      rw [cell_of_row w g _ _ _ (0, 0) hh]
      simpa using hg
    refine ⟨fun i hi => ?_, fun j hj => by simp [World.frozen?, hh], hb, (Array.getElem?_eq_some_iff.1 hh).1⟩
    have hi' : i < N := by rw [List.length_replicate] at hi; exact hi
    rw [List.getElem_replicate]
    exact ⟨hget i 0 hi' (by omega), hget i 1 hi' (by omega), hget i 2 hi' (by omega), hget i 3 hi' (by omega)⟩
end Go.Proofs.YtmdhacboegmccaaDoor
