/- What damage does to a batch: plain. -/
import Derived.Test.YtmdhacboegmccaaDoorInEvs
namespace Go.Proofs.YtmdhacboegmccaaDoor
open Go Go.RowKit

theorem unF_of (M S : List UInt8) (hS : S.length = 4) (hM : 1 ≤ M.length) (hl : M.length + 4 ≤ 1048576) (hne : sumB M ≠ S) : unF (M ++ S) = 32 := by
  have e : (M ++ S).length - 4 = M.length := by rw [List.length_append, hS]; omega
  have e2 : (M ++ S).length = M.length + 4 := by rw [List.length_append, hS]
  unfold unF
  rw [e, List.take_left, List.drop_left, if_neg (by omega), if_neg (by omega), if_pos hne]
theorem cut_at (l : List UInt8) (i : Nat) (h : i < l.length) : l = l.take i ++ l[i] :: l.drop (i + 1) := by
  rw [List.getElem_cons_drop, List.take_append_drop]
theorem set_at (l : List UInt8) (i : Nat) (h : i < l.length) (y : UInt8) : l.set i y = l.take i ++ y :: l.drop (i + 1) := List.set_eq_take_append_cons_drop .. |>.trans (by simp [h])
theorem damage_turn (es : List Ev) (hpo : packOk es) (i : Nat) (hi : i < (packB es).length) (y : UInt8) (hy : y ≠ (packB es)[i]) : unF ((packB es).set i y) = 32 := by
  have h1 := packB_len es
  have h2 := batchE_pos es
  have h3 := hpo.2.2
  have hS := sumB_len (batchE es)
  by_cases hc : i < (batchE es).length
  · have hx : (packB es)[i] = (batchE es)[i] := by simp [packB, List.getElem_append_left hc]
    rw [hx] at hy
    have e : (packB es).set i y = (batchE es).set i y ++ sumB (batchE es) := by unfold packB; rw [List.set_append_left _ _ hc]
    rw [e]
    refine unF_of _ _ hS (by rw [List.length_set]; exact h2) (by rw [List.length_set]; exact h3) fun h => ?_
    have h4 := sumB_inj h
    rw [set_at _ i hc y] at h4
    have h5 := sum_turn ((batchE es).take i) ((batchE es).drop (i + 1)) y (batchE es)[i] hy
    rw [← cut_at _ i hc] at h5
    exact h5 h4
  · have hk : i - (batchE es).length < (sumB (batchE es)).length := by rw [hS]; omega
    have hx : (packB es)[i] = (sumB (batchE es))[i - (batchE es).length] := by simp [packB, List.getElem_append_right (Nat.le_of_not_lt hc)]
    rw [hx] at hy
    have e : (packB es).set i y = batchE es ++ (sumB (batchE es)).set (i - (batchE es).length) y := by unfold packB; rw [List.set_append_right _ _ (Nat.le_of_not_lt hc)]
    rw [e]
    refine unF_of _ _ (by rw [List.length_set]; exact hS) h2 h3 fun h => hy ?_
    have h6 : ((sumB (batchE es)).set (i - (batchE es).length) y)[i - (batchE es).length]? = some y := by simp [hk]
    rw [← h, List.getElem?_eq_getElem hk] at h6
    exact (Option.some.inj h6).symm
theorem swap_at (l : List UInt8) (j : Nat) (h : j + 1 < l.length) : l = l.take j ++ l[j] :: l[j + 1] :: l.drop (j + 2) ∧ (l.set j l[j + 1]).set (j + 1) l[j] = l.take j ++ l[j + 1] :: l[j] :: l.drop (j + 2) := by
  have e : l = l.take j ++ l[j] :: l[j + 1] :: l.drop (j + 2) := by
    conv => lhs; rw [cut_at l j (by omega)]
    rw [show l.drop (j + 1) = l[j + 1] :: l.drop (j + 2) from (List.getElem_cons_drop (h := h)).symm]
  refine ⟨e, ?_⟩
  have hlt : (l.take j).length = j := by rw [List.length_take]; omega
  obtain ⟨x, hx⟩ : ∃ x, x = l[j] := ⟨_, rfl⟩
  obtain ⟨y, hy⟩ : ∃ y, y = l[j + 1] := ⟨_, rfl⟩
  rw [← hx, ← hy] at e ⊢
  obtain ⟨p, hp⟩ : ∃ p, p = l.take j := ⟨_, rfl⟩
  obtain ⟨r, hr⟩ : ∃ r, r = l.drop (j + 2) := ⟨_, rfl⟩
  rw [← hp, ← hr] at e ⊢
  rw [← hp] at hlt
  clear hx hy hp hr h
  rw [e]
  subst hlt
  rw [List.set_append_right _ _ (Nat.le_refl _), Nat.sub_self, List.set_append_right _ _ (by omega)]
  simp
theorem damage_swap (es : List Ev) (hpo : packOk es) (j : Nat) (hj : j + 5 < (packB es).length) (hne : (packB es)[j] ≠ (packB es)[j + 1]) : unF (((packB es).set j (packB es)[j + 1]).set (j + 1) (packB es)[j]) = 32 := by
  have h1 := packB_len es
  have h2 := batchE_pos es
  have h3 := hpo.2.2
  have hS := sumB_len (batchE es)
  have hc : j + 1 < (batchE es).length := by omega
  have hx : (packB es)[j] = (batchE es)[j] := by simp [packB, List.getElem_append_left (show j < (batchE es).length by omega)]
  have hy : (packB es)[j + 1] = (batchE es)[j + 1] := by simp [packB, List.getElem_append_left hc]
  rw [hx, hy] at hne ⊢
  obtain ⟨e1, e2⟩ := swap_at (batchE es) j hc
  have e : ((packB es).set j (batchE es)[j + 1]).set (j + 1) (batchE es)[j] = ((batchE es).set j (batchE es)[j + 1]).set (j + 1) (batchE es)[j] ++ sumB (batchE es) := by
    unfold packB
    rw [List.set_append_left _ _ (by omega), List.set_append_left _ _ (by rw [List.length_set]; exact hc)]
  rw [e]
  refine unF_of _ _ hS (by rw [List.length_set, List.length_set]; exact h2) (by rw [List.length_set, List.length_set]; exact h3) fun h => ?_
  have h4 := sumB_inj h
  rw [e2] at h4
  have h5 := sum_swap ((batchE es).take j) ((batchE es).drop (j + 2)) (batchE es)[j + 1] (batchE es)[j] (fun e => hne e.symm)
  rw [← e1] at h5
  exact h5 h4
theorem swap_same (l : List UInt8) (j : Nat) (h : j + 1 < l.length) (he : l[j] = l[j + 1]) : (l.set j l[j + 1]).set (j + 1) l[j] = l := by
  obtain ⟨e1, e2⟩ := swap_at l j h
  rw [e2]
  conv => rhs; rw [e1]
  rw [he]

/-- A row of the call's own, as it is turned. -/
structure Copy (w : World) (B g cap : Nat) (l : List UInt8) : Prop where
  cells : ∀ i (h : i < l.length), w.cell? ⟨g, 0 + i, none⟩ = some (.int .u8 (l[i].toNat : Int))
  free : ∀ i, i < l.length → w.frozen? ⟨g, i, none⟩ = false
  lo : B ≤ g
  len : l.length ≤ cap
  cap : cap ≤ maxLen
theorem copy_of {w : World} {B : Nat} {v : Value} {l : List UInt8} (h : w.ownsRow B 5 1 v l.length (bytesC l)) (hl : 0 < l.length) : ∃ g cap, v = .slice (some ⟨g, 0, none⟩) l.length cap ∧ Copy w B g cap l := by
  rcases h.2 with ⟨e, h0⟩ | ⟨g, cap, cur, e, hb, hh, hn, hc, hs, ht⟩
  · omega
  · refine ⟨g, cap, e, ⟨fun i hi => ?_, fun i hi => ?_, hb, hn, hc⟩⟩
    · have hg := bytesC_get l i hi
      rw [← ht, List.getElem?_take, if_pos (by omega)] at hg
      rw [Nat.zero_add, cell_of_row w g i _ _ (0, 0) hh]
      simpa using hg
    · simp [World.frozen?, hh]
theorem Copy.at' {w : World} {B g cap : Nat} {l : List UInt8} (h : Copy w B g cap l) : BytesAt w (some ⟨g, 0, none⟩) l := Or.inr ⟨g, 0, rfl, h.cells⟩
theorem Copy.set {w : World} {B g cap : Nat} {l : List UInt8} (h : Copy w B g cap l) (i : Nat) (_hi : i < l.length) (y : UInt8) : Copy (w.setCell ⟨g, i, none⟩ (.int .u8 (y.toNat : Int))) B g cap (l.set i y) := by
  refine ⟨fun k hk => ?_, fun k hk => ?_, h.lo, by rw [List.length_set]; exact h.len, h.cap⟩
  · rw [List.length_set] at hk
    have hc := h.cells k hk
    rw [Nat.zero_add] at hc ⊢
    by_cases e : i = k
    · subst e
      rw [World.cell?_setCell_same _ _ _ hc]
      simp
    · rw [World.cell?_setCell_other _ _ _ _ (by intro h2; injection h2 with _ h3 _; exact e (by omega)), hc]
      simp [e]
  · rw [List.length_set] at hk
    rw [World.frozen?_setCell]
    exact h.free k hk
theorem Copy.below {w w' : World} {B g cap : Nat} {l : List UInt8} (h : Copy w B g cap l) (hl : 0 < l.length) (hb : Below w.heap.size w w') : Copy w' B g cap l := by
  have hlt := World.block_lt_of_cell? w _ (h.cells 0 hl)
  exact ⟨fun i hi => (hb.cell (p := ⟨g, 0 + i, none⟩) hlt).trans (h.cells i hi), fun i _ => (hb.frozen (p := ⟨g, i, none⟩) hlt).trans (h.free i ‹_›), h.lo, h.len, h.cap⟩
end Go.Proofs.YtmdhacboegmccaaDoor
