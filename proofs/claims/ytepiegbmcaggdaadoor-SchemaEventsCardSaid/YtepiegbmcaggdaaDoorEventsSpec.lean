/- Plain facts for the law on events: the values that it makes are without fault, a spoilt one has its error. -/
import Derived.Test.YtepiegbmcaggdaaDoorValid
namespace Go.Proofs.YtepiegbmcaggdaaDoor
open Go Go.RowKit

/-- The values behind k rounds. -/
def valsL (l : List Attr) (n : Int) (s : ByteArray) : Nat → List Val
  | 0 => []
  | k + 1 => valsL l n s k ++ [valueB (l.getD k (⟨#[]⟩, 0)).2 (wrap64 (n + k)) s]
theorem valsL_length (l : List Attr) (n : Int) (s : ByteArray) (k : Nat) : (valsL l n s k).length = k := by
  induction k with
  | zero => rfl
  | succ k ih => simp [valsL, ih]
theorem valsL_get (l : List Attr) (n : Int) (s : ByteArray) (k i : Nat) (hi : i < k) : (valsL l n s k)[i]? = some (valueB (l.getD i (⟨#[]⟩, 0)).2 (wrap64 (n + i)) s) := by
  induction k with
  | zero => omega
  | succ k ih =>
    rw [valsL]
    rcases Nat.lt_or_ge i k with h | h
    · rw [List.getElem?_append_left (by rw [valsL_length]; exact h)]
      exact ih h
    · obtain rfl : i = k := by omega
      rw [List.getElem?_append_right (by rw [valsL_length]; omega), valsL_length]
      simp

theorem cut_size (s : ByteArray) : (cut256 s).size ≤ 256 := by
  unfold cut256
  split
  · assumption
  · simp [ByteArray.size_extract]; omega
theorem valueB_ok (k n : Int) (s : ByteArray) (h1 : 1 ≤ k) (h2 : k ≤ 3) : valFault k (valueB k n s) = 0 := by
  have h : k = 1 ∨ k = 2 ∨ k = 3 := by omega
  rcases h with rfl | rfl | rfl
  · simp [valFault, valueB, validB]
  · have := cut_size s
    simp [valFault, valueB, validB, this]
  · simp [valFault, valueB, validB]
theorem valueB_str (k n : Int) (s : ByteArray) : (valueB k n s).str.size ≤ 256 := by
  unfold valueB
  split
  · exact Nat.zero_le _
  · split
    · exact cut_size s
    · exact Nat.zero_le _
theorem valueB_kind (k n : Int) (s : ByteArray) (h1 : 1 ≤ k) (h2 : k ≤ 3) : (valueB k n s).kind = k := by
  have h : k = 1 ∨ k = 2 ∨ k = 3 := by omega
  rcases h with rfl | rfl | rfl <;> simp [valueB]

theorem valsFault_all (l : List Attr) (vs : List Val) (h : ∀ i (h1 : i < l.length) (h2 : i < vs.length), valFault l[i].2 vs[i] = 0) : valsFault l vs = 0 := by
  induction l generalizing vs with
  | nil => cases vs <;> rfl
  | cons a l ih =>
    cases vs with
    | nil => rfl
    | cons v r =>
      have h0 := h 0 (by simp) (by simp)
      simp only [List.getElem_cons_zero] at h0
      rw [valsFault, if_pos h0]
      exact ih r (fun i h1 h2 => h (i + 1) (Nat.succ_lt_succ h1) (Nat.succ_lt_succ h2))
theorem valsFault_at (l : List Attr) (vs : List Val) (j : Nat) (f : Int) (hf : f ≠ 0) (h1 : j < l.length) (h2 : j < vs.length) (h : ∀ i (h1 : i < l.length) (h2 : i < vs.length), i < j → valFault l[i].2 vs[i] = 0) (hj : valFault l[j].2 vs[j] = f) : valsFault l vs = f := by
  induction l generalizing vs j with
  | nil => simp at h1
  | cons a l ih =>
    cases vs with
    | nil => simp at h2
    | cons v r =>
      cases j with
      | zero =>
        simp only [List.getElem_cons_zero] at hj
        rw [valsFault, hj, if_neg hf]
      | succ j =>
        have h0 := h 0 (by simp) (by simp) (by omega)
        simp only [List.getElem_cons_zero] at h0
        rw [valsFault, if_pos h0]
        exact ih r j (by simpa using h1) (by simpa using h2) (fun i h1 h2 hi => h (i + 1) (Nat.succ_lt_succ h1) (Nat.succ_lt_succ h2) (Nat.succ_lt_succ hi)) hj

/-- All of them are without fault. -/
theorem vals_fine (l : List Attr) (n : Int) (s : ByteArray) (hk : ∀ a ∈ l, 1 ≤ a.2 ∧ a.2 ≤ 3) (i : Nat) (h1 : i < l.length) (h2 : i < (valsL l n s l.length).length) : valFault l[i].2 (valsL l n s l.length)[i] = 0 := by
  have e := valsL_get l n s l.length i h1
  rw [List.getElem?_eq_getElem h2] at e
  have e := Option.some.inj e
  have e2 : (l.getD i (⟨#[]⟩, 0)).2 = l[i].2 := by simp [List.getD, List.getElem?_eq_getElem h1]
  rw [e, e2]
  have := hk l[i] (List.getElem_mem h1)
  exact valueB_ok _ _ _ this.1 this.2
theorem vals_kind (l : List Attr) (n : Int) (s : ByteArray) (hk : ∀ a ∈ l, 1 ≤ a.2 ∧ a.2 ≤ 3) (i : Nat) (h1 : i < l.length) (h2 : i < (valsL l n s l.length).length) : (valsL l n s l.length)[i].kind = l[i].2 := by
  have e := valsL_get l n s l.length i h1
  rw [List.getElem?_eq_getElem h2] at e
  have e := Option.some.inj e
  have e2 : (l.getD i (⟨#[]⟩, 0)).2 = l[i].2 := by simp [List.getD, List.getElem?_eq_getElem h1]
  rw [e, e2]
  have := hk l[i] (List.getElem_mem h1)
  exact valueB_kind _ _ _ this.1 this.2
/-- One of them is another one: its fault is told. -/
theorem vals_spoilt (l : List Attr) (n : Int) (s : ByteArray) (hk : ∀ a ∈ l, 1 ≤ a.2 ∧ a.2 ≤ 3) (j : Nat) (hj : j < l.length) (v : Val) (f : Int) (hf : f ≠ 0) (hv : valFault l[j].2 v = f) : valsFault l ((valsL l n s l.length).set j v) = f := by
  refine valsFault_at l _ j f hf hj (by rw [List.length_set, valsL_length]; exact hj) (fun i h1 h2 hi => ?_) ?_
  · rw [List.getElem_set_ne (by omega)]
    exact vals_fine l n s hk i h1 (by rw [valsL_length]; exact h1)
  · rw [List.getElem_set_self]
    exact hv
theorem vals_str (l : List Attr) (n : Int) (s : ByteArray) (k : Nat) : ∀ v ∈ valsL l n s k, v.str.size ≤ 256 := by
  induction k with
  | zero => intro v hv; simp [valsL] at hv
  | succ k ih =>
    intro v hv
    rw [valsL, List.mem_append] at hv
    rcases hv with hv | hv
    · exact ih v hv
    · simp only [List.mem_singleton] at hv
      subst hv
      exact valueB_str _ _ _
/-- The cells of a list of values. -/
def valCells (l : List Val) : List Value := l.flatMap fun a => a.cells
theorem valCells_length (l : List Val) : (valCells l).length = l.length * 4 := by
  induction l with
  | nil => rfl
  | cons a r ih =>
    simp only [valCells, List.flatMap_cons, List.length_append, List.length_cons, Val.cells, List.length_nil] at ih ⊢
    omega
theorem valCells_get (l : List Val) (i : Nat) (h : i < l.length) : (valCells l)[i * 4]? = some (.int .i64 l[i].kind) ∧ (valCells l)[i * 4 + 1]? = some (.int .i64 l[i].int) ∧ (valCells l)[i * 4 + 2]? = some (.string l[i].str) ∧ (valCells l)[i * 4 + 3]? = some (.bool l[i].bool) := by
  induction l generalizing i with
  | nil => simp at h
  | cons a r ih =>
    cases i with
    | zero => simp [valCells, Val.cells]
    | succ i =>
      have := ih i (by simp at h; omega)
      have e1 : (i + 1) * 4 = i * 4 + 4 := by omega
      rw [e1]
      simp only [valCells, Val.cells, List.flatMap_cons, List.cons_append, List.nil_append, List.getElem_cons_succ] at this ⊢
      exact ⟨this.1, this.2.1, this.2.2.1, this.2.2.2⟩
end Go.Proofs.YtepiegbmcaggdaaDoor
