/- What an event's row is, and that it is one event's alone. -/
import Derived.Test.YtdkddnlolnbpgaaDoorEventC
import Derived.Test.YtdkddnlolnbpgaaDoorSplitAll
namespace Go.Proofs.YtdkddnlolnbpgaaDoor
open Go Go.RowKit

theorem evB_ne (x : EvX) : ([] : List (List UInt8)) ∉ [evB x] := by simp [evB]
theorem evB_len (x : EvX) : (evB x).length = x.vals.length + 1 := by simp [evB]
def IntsIn (x : EvX) : Prop := ∀ v ∈ x.vals, -9223372036854775808 ≤ v.int ∧ v.int ≤ 9223372036854775807
theorem good_cells {t : TyX} {x : EvX} (h : Good t x) (hb : IntsIn x) : ∀ y ∈ evB x, y.length ≤ 256 := by
  intro y hy
  rcases List.mem_cons.1 hy with rfl | hy
  · have h1 := num_size x.time (by have := h.2.1.1; omega) (by have := h.2.1.2; omega)
    show (numS x.time).data.toList.length ≤ 256
    have e : (numS x.time).data.toList.length = (numS x.time).size := Array.length_toList
    omega
  · obtain ⟨v, hv, rfl⟩ := List.mem_map.1 hy
    obtain ⟨i, hi, rfl⟩ := List.mem_iff_getElem.1 hv
    have hg := h.2.2.2 i hi (by have := h.2.2.1; omega)
    have h1 := cellB_size hg.1 (hb _ hv).1 (hb _ hv).2
    have e : (cellB x.vals[i]).data.toList.length = (cellB x.vals[i]).size := Array.length_toList
    omega
theorem sum_le {l : List (List UInt8)} (h : ∀ y ∈ l, y.length ≤ 256) : (l.map fun c => 2 * c.length + 4).sum ≤ 516 * l.length := by
  induction l with
  | nil => simp
  | cons a r ih =>
    have h1 := h a (by simp)
    have h2 := ih (fun y hy => h y (by simp [hy]))
    simp only [List.map_cons, List.sum_cons, List.length_cons]
    omega
theorem small_join {t : TyX} {x : EvX} (h : Good t x) (hb : IntsIn x) (hn : x.vals.length ≤ 16) : ¬ 65536 < (joinB [evB x]).length := by
  have h1 : joinB [evB x] = rowText (evB x) := by simp [joinB]
  have h2 := rowText_len (numS x.time).data.toList (x.vals.map fun v => (cellB v).data.toList)
  have h3 := sum_le (good_cells h hb)
  have h4 := evB_len x
  rw [h1]
  have h5 : evB x = (numS x.time).data.toList :: (x.vals.map fun v => (cellB v).data.toList) := rfl
  rw [← h5] at h2
  omega
theorem join_err (x : EvX) : (65536 < (joinB [evB x]).length → joinE [evB x] = 2) ∧ (¬ 65536 < (joinB [evB x]).length → joinE [evB x] = 0) := by
  constructor <;> intro h <;> unfold joinE <;> rw [if_neg (evB_ne x)]
  · rw [if_pos h]
  · rw [if_neg h]
theorem bool_inj {a b : Bool} (h : boolS a = boolS b) : a = b := by
  cases a <;> cases b <;> first | rfl | (exfalso; have := congrArg ByteArray.size h; revert this; decide)
theorem val_inj {v u : Val} (hv : validB v = true) (hu : validB u = true) (hk : v.kind = u.kind) (hc : cellB v = cellB u) (h0 : -9223372036854775808 ≤ v.int ∧ v.int ≤ 9223372036854775807) (h1 : -9223372036854775808 ≤ u.int ∧ u.int ≤ 9223372036854775807) : v = u := by
  rcases val_forms hv with ⟨k1, e1⟩ | ⟨k1, e1, _⟩ | ⟨k1, e1⟩
  · rcases val_forms hu with ⟨k2, e2⟩ | ⟨k2, e2, _⟩ | ⟨k2, e2⟩
    · rw [e1, e2, cellB_num, cellB_num] at hc
      rw [e1, e2, num_inj hc h0.1 h0.2 h1.1 h1.2]
    · rw [k1, k2] at hk; cases hk
    · rw [k1, k2] at hk; cases hk
  · rcases val_forms hu with ⟨k2, e2⟩ | ⟨k2, e2, _⟩ | ⟨k2, e2⟩
    · rw [k1, k2] at hk; cases hk
    · rw [e1, e2, cellB_str, cellB_str] at hc
      rw [e1, e2, hc]
    · rw [k1, k2] at hk; cases hk
  · rcases val_forms hu with ⟨k2, e2⟩ | ⟨k2, e2, _⟩ | ⟨k2, e2⟩
    · rw [k1, k2] at hk; cases hk
    · rw [k1, k2] at hk; cases hk
    · rw [e1, e2, cellB_bool, cellB_bool] at hc
      rw [e1, e2, bool_inj hc]
theorem bytes_inj {a b : ByteArray} (h : a.data.toList = b.data.toList) : a = b := by
  rw [← arr_bytes a, ← arr_bytes b, h]
theorem event_one {t : TyX} {x e : EvX} (hx : EventGood t (evB e) x) (he : Good t e) (hb : IntsIn e) : x = e := by
  obtain ⟨⟨h1, h2, h3, h4⟩, h5, h6⟩ := hx
  obtain ⟨g1, g2, g3, g4⟩ := he
  obtain ⟨xt, xm, xv⟩ := x
  obtain ⟨et, em, ev⟩ := e
  simp only at h1 h2 h3 h4 h6 g1 g2 g3 g4
  have e1 : xt = et := h1.trans g1.symm
  simp only [evB, List.cons.injEq] at h5
  have e2 : xm = em := num_inj (bytes_inj h5.1) (by have := h2.1; omega) (by have := h2.2; omega) (by have := g2.1; omega) (by have := g2.2; omega)
  have e3 : xv = ev := by
    apply List.ext_getElem (by omega)
    intro i hi hi2
    have k1 := h4 i hi (by omega)
    have k2 := g4 i hi2 (by omega)
    have k3 := congrArg (fun l : List (List UInt8) => l[i]?) h5.2
    simp only [List.getElem?_map, List.getElem?_eq_getElem hi, List.getElem?_eq_getElem hi2, Option.map_some, Option.some.injEq] at k3
    exact val_inj k1.1 k2.1 (k1.2.trans k2.2.symm) (bytes_inj k3) (h6 _ (List.getElem_mem hi)) (hb _ (List.getElem_mem hi2))
  rw [e1, e2, e3]
theorem vals_in {w : World} {B g cap n : Nat} {l : List Val} (h : w.ownsRow B 32 4 (.slice (some ⟨g, 0, none⟩) n cap) n (valsC l)) : ValsIn w.heap.size w (some ⟨g, 0, none⟩) l := by
  refine Or.inr ⟨g, 0, rfl, own_lt_size h g rfl, fun i hi => ?_⟩
  have hg : ∀ (l : List Val) (i : Nat) (hi : i < l.length), (valsC l)[i * 4]? = some (.int .i64 l[i].kind) ∧ (valsC l)[i * 4 + 1]? = some (.int .i64 l[i].int) ∧ (valsC l)[i * 4 + 2]? = some (.string l[i].str) ∧ (valsC l)[i * 4 + 3]? = some (.bool l[i].bool) := by
    intro l
    induction l with
    | nil => intro i hi; simp at hi
    | cons a r ih =>
      intro i hi
      cases i with
      | zero => simp [valsC]
      | succ i =>
        have := ih i (by simpa using hi)
        have e1 : (i + 1) * 4 = i * 4 + 4 := by omega
        rw [e1]
        simp only [valsC, List.flatMap_cons, List.cons_append, List.nil_append, List.getElem_cons_succ] at this ⊢
        exact this
  have at_ : ∀ (j : Nat) (v : Value), (valsC l)[j]? = some v → w.cell? ⟨g, 0 + j, none⟩ = some v := by
    intro j v hv
    have h5 := h.cells (g := g) rfl j v hv
    rw [show (⟨g, 0, none⟩ : Addr).add j = ⟨g, 0 + j, none⟩ by unfold Addr.add; split; (subst_vars; rfl); simp] at h5
    exact h5
  obtain ⟨k0, k1, k2, k3⟩ := hg l i hi
  exact ⟨at_ _ _ k0, at_ _ _ k1, at_ _ _ k2, at_ _ _ k3⟩
theorem strs_own {w : World} {B g cap n : Nat} {c : List (List UInt8)} (h : w.ownsRow B 9 1 (.slice (some ⟨g, 0, none⟩) n cap) n (strC c)) : StrsIn w.heap.size w (some ⟨g, 0, none⟩) c := by
  refine Or.inr ⟨g, 0, rfl, own_lt_size h g rfl, fun i hi => ?_⟩
  have h5 := h.cells (g := g) rfl i (.string ⟨c[i].toArray⟩) (by simp [strC, hi])
  rw [show (⟨g, 0, none⟩ : Addr).add i = ⟨g, 0 + i, none⟩ by unfold Addr.add; split; (subst_vars; rfl); simp] at h5
  exact h5
end Go.Proofs.YtdkddnlolnbpgaaDoor
