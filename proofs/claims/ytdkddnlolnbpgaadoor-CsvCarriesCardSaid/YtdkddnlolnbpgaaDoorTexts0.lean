/- Package csv, the document's words over lists of bytes: a cell, a row, a text of rows. -/
import Derived.Lib.Strings
namespace Go.Proofs.YtdkddnlolnbpgaaDoor
open Go

/-- The bytes of which none stands in a plain cell. -/
def specC : List UInt8 := [44, 34, 13, 10]
/-- The rest of a quoted cell: its bytes, and what stands behind its closing quote. -/
def quotedG : List UInt8 → List UInt8 → Option (List UInt8 × List UInt8)
  | _, [] => none
  | acc, [b] => if b = 34 then some (acc, []) else none
  | acc, b :: c :: r => if b = 34 then (if c = 34 then quotedG (acc ++ [34]) r else some (acc, c :: r)) else quotedG (acc ++ [b]) (c :: r)
def plainL (l : List UInt8) : List UInt8 := l.takeWhile fun b => !specC.contains b
def plainD (l : List UInt8) : List UInt8 := l.dropWhile fun b => !specC.contains b
/-- A cell, and what stands behind it. -/
def cellR (l : List UInt8) : Option (List UInt8 × List UInt8) :=
  if Lib.hasPrefix l [34] then quotedG [] (l.drop 1) else some (plainL l, plainD l)
/-- A row's end: what stands behind it, or the fault. -/
def endR (l : List UInt8) : List UInt8 × Int :=
  if l = [] then ([], 0) else if Lib.hasPrefix l [10] then (l.drop 1, 0) else if Lib.hasPrefix l [13, 10] then (l.drop 2, 0) else (l, if l.head? = some 13 then 41 else 40)
/-- A row, what stands behind it or from its fault on, and the error. -/
def rowR (acc : List (List UInt8)) (l : List UInt8) : List (List UInt8) × List UInt8 × Int :=
  match cellR l with
  | none => ([], l, 40)
  | some x =>
    if Lib.hasPrefix x.2 [44] then
      (if _h : (x.2.drop 1).length < l.length then rowR (acc ++ [x.1]) (x.2.drop 1) else ([], [], 0))
    else (acc ++ [x.1], endR x.2)
  termination_by l.length
  decreasing_by assumption
/-- A text of rows: the rows, what stands from the fault on, and the error. -/
def splitR (acc : List (List (List UInt8))) (l : List UInt8) : List (List (List UInt8)) × List UInt8 × Int :=
  if l = [] then (acc, [], 0)
  else if (rowR [] l).2.2 ≠ 0 then ([], (rowR [] l).2.1, (rowR [] l).2.2)
  else if _h : (rowR [] l).2.1.length < l.length then splitR (acc ++ [(rowR [] l).1]) (rowR [] l).2.1 else ([], [], 0)
  termination_by l.length
  decreasing_by assumption

theorem quoted_len : ∀ (acc l : List UInt8) {c r : List UInt8}, quotedG acc l = some (c, r) → r.length < l.length
  | _, [], _, _, h => by simp [quotedG] at h
  | acc, [b], c, r, h => by
    unfold quotedG at h
    split at h
    · cases h; simp
    · cases h
  | acc, b :: d :: t, c, r, h => by
    unfold quotedG at h
    split at h
    · split at h
      · have := quoted_len _ _ h
        simp only [List.length_cons]
        omega
      · cases h; simp
    · have := quoted_len _ _ h
      simp only [List.length_cons] at this ⊢
      omega
theorem plain_split (l : List UInt8) : plainL l ++ plainD l = l := List.takeWhile_append_dropWhile ..
theorem plain_len (l : List UInt8) : (plainL l).length + (plainD l).length = l.length := by rw [← List.length_append, plain_split]
theorem prefix_one (l : List UInt8) (b : UInt8) : Lib.hasPrefix l [b] = true ↔ ∃ r, l = b :: r := by
  cases l with
  | nil => simp [Lib.hasPrefix]
  | cons a r => simp [Lib.hasPrefix, List.isPrefixOf]; exact eq_comm
theorem cell_len {l c r : List UInt8} (h : cellR l = some (c, r)) : r.length ≤ l.length := by
  unfold cellR at h
  split at h
  · have := quoted_len _ _ h
    rw [List.length_drop] at this
    omega
  · cases h
    have := plain_len l
    omega
theorem rowR_eq (acc : List (List UInt8)) (l : List UInt8) : rowR acc l = match cellR l with
    | none => ([], l, 40)
    | some x => if Lib.hasPrefix x.2 [44] then rowR (acc ++ [x.1]) (x.2.drop 1) else (acc ++ [x.1], endR x.2) := by
  conv => lhs; unfold rowR
  cases h : cellR l with
  | none => rfl
  | some x =>
    obtain ⟨c, r⟩ := x
    simp only
    split
    · rename_i hp
      obtain ⟨r', rfl⟩ := (prefix_one _ _).1 hp
      have := cell_len h
      rw [dif_pos (by simp only [List.length_cons, List.drop_one, List.tail_cons] at this ⊢; omega)]
    · rfl
theorem rowR_quote {acc : List (List UInt8)} {l : List UInt8} (h : cellR l = none) : rowR acc l = ([], l, 40) := by rw [rowR_eq, h]
theorem rowR_more {acc : List (List UInt8)} {l c r : List UInt8} (h : cellR l = some (c, r)) (hp : Lib.hasPrefix r [44] = true) : rowR acc l = rowR (acc ++ [c]) (r.drop 1) := by
  rw [rowR_eq, h]; simp only; rw [if_pos hp]
theorem rowR_last {acc : List (List UInt8)} {l c r : List UInt8} (h : cellR l = some (c, r)) (hp : Lib.hasPrefix r [44] = false) : rowR acc l = (acc ++ [c], endR r) := by
  rw [rowR_eq, h]; simp only; rw [if_neg (by rw [hp]; simp)]
theorem endR_len (r : List UInt8) : (endR r).1.length ≤ r.length := by
  unfold endR
  split
  · simp
  · split
    · simp
    · split
      · simp
      · exact Nat.le_refl _
theorem endR_ok {r : List UInt8} (h : (endR r).2 = 0) (hr : r ≠ []) : (endR r).1.length < r.length := by
  have hl : 0 < r.length := List.length_pos_iff.2 hr
  unfold endR at h ⊢
  rw [if_neg hr] at h ⊢
  split
  · rw [List.length_drop]; omega
  · split
    · rw [List.length_drop]; omega
    · rename_i h1 h2
      rw [if_neg h1, if_neg h2] at h
      simp only at h
      split at h <;> cases h
theorem row_len : ∀ (n : Nat) (acc : List (List UInt8)) (l : List UInt8), l.length ≤ n → (rowR acc l).2.1.length ≤ l.length := by
  intro n
  induction n with
  | zero =>
    intro acc l hl
    obtain rfl : l = [] := List.eq_nil_of_length_eq_zero (by omega)
    have hc : cellR [] = some ([], []) := by decide
    rw [rowR_last hc (by decide)]
    exact Nat.le_refl _
  | succ n ih =>
    intro acc l hl
    cases hc : cellR l with
    | none => rw [rowR_quote hc]; exact Nat.le_refl _
    | some x =>
      obtain ⟨c, r⟩ := x
      have h1 := cell_len hc
      cases hp : Lib.hasPrefix r [44]
      · rw [rowR_last hc hp]
        exact Nat.le_trans (endR_len r) h1
      · rw [rowR_more hc hp]
        obtain ⟨r', rfl⟩ := (prefix_one _ _).1 hp
        simp only [List.drop_one, List.tail_cons, List.length_cons] at h1 ⊢
        have := ih (acc ++ [c]) r' (by omega)
        omega
theorem row_ok : ∀ (n : Nat) (acc : List (List UInt8)) (l : List UInt8), l.length ≤ n → l ≠ [] → (rowR acc l).2.2 = 0 → (rowR acc l).2.1.length < l.length := by
  intro n
  induction n with
  | zero => intro acc l hl hne; exact absurd (List.eq_nil_of_length_eq_zero (by omega)) hne
  | succ n ih =>
    intro acc l hl hne h0
    have hpos : 0 < l.length := List.length_pos_iff.2 hne
    cases hc : cellR l with
    | none => rw [rowR_quote hc] at h0; cases h0
    | some x =>
      obtain ⟨c, r⟩ := x
      have h1 := cell_len hc
      cases hp : Lib.hasPrefix r [44]
      · rw [rowR_last hc hp] at h0 ⊢
        simp only at h0 ⊢
        by_cases hr : r = []
        · subst hr; exact hpos
        · exact Nat.lt_of_lt_of_le (endR_ok h0 hr) h1
      · rw [rowR_more hc hp] at h0 ⊢
        obtain ⟨r', rfl⟩ := (prefix_one _ _).1 hp
        simp only [List.drop_one, List.tail_cons, List.length_cons] at h0 h1 ⊢
        have := row_len r'.length (acc ++ [c]) r' (Nat.le_refl _)
        omega
theorem splitR_nil (acc : List (List (List UInt8))) : splitR acc [] = (acc, [], 0) := by unfold splitR; simp
theorem splitR_bad {acc : List (List (List UInt8))} {l : List UInt8} (hl : l ≠ []) (h : (rowR [] l).2.2 ≠ 0) : splitR acc l = ([], (rowR [] l).2.1, (rowR [] l).2.2) := by
  unfold splitR; rw [if_neg hl, if_pos h]
theorem splitR_more {acc : List (List (List UInt8))} {l : List UInt8} (hl : l ≠ []) (h : (rowR [] l).2.2 = 0) : splitR acc l = splitR (acc ++ [(rowR [] l).1]) (rowR [] l).2.1 := by
  conv => lhs; unfold splitR
  rw [if_neg hl, if_neg (by simp [h]), dif_pos (row_ok _ [] l (Nat.le_refl _) hl h)]
/-- A row that is read has a cell. -/
theorem row_cells : ∀ (n : Nat) (acc : List (List UInt8)) (l : List UInt8), l.length ≤ n → (rowR acc l).2.2 = 0 → (rowR acc l).1 ≠ [] := by
  intro n
  induction n with
  | zero =>
    intro acc l hl _
    obtain rfl : l = [] := List.eq_nil_of_length_eq_zero (by omega)
    have hc : cellR [] = some ([], []) := by decide
    rw [rowR_last hc (by decide)]
    simp
  | succ n ih =>
    intro acc l hl h0
    cases hc : cellR l with
    | none => rw [rowR_quote hc] at h0; cases h0
    | some x =>
      obtain ⟨c, r⟩ := x
      have h1 := cell_len hc
      cases hp : Lib.hasPrefix r [44]
      · rw [rowR_last hc hp]; simp
      · rw [rowR_more hc hp] at h0 ⊢
        obtain ⟨r', rfl⟩ := (prefix_one _ _).1 hp
        simp only [List.drop_one, List.tail_cons, List.length_cons] at h0 h1 ⊢
        exact ih _ _ (by omega) h0
/-- The cells that stand ahead stay in front. -/
theorem row_acc : ∀ (n : Nat) (acc : List (List UInt8)) (l : List UInt8), l.length ≤ n → (rowR acc l).2 = (rowR [] l).2 ∧ ((rowR [] l).2.2 ≠ 40 → (rowR acc l).1 = acc ++ (rowR [] l).1) := by
  intro n
  induction n with
  | zero =>
    intro acc l hl
    obtain rfl : l = [] := List.eq_nil_of_length_eq_zero (by omega)
    have hc : cellR [] = some ([], []) := by decide
    rw [rowR_last hc (by decide), rowR_last hc (by decide)]
    simp
  | succ n ih =>
    intro acc l hl
    cases hc : cellR l with
    | none => rw [rowR_quote hc, rowR_quote hc]; simp
    | some x =>
      obtain ⟨c, r⟩ := x
      have h1 := cell_len hc
      cases hp : Lib.hasPrefix r [44]
      · rw [rowR_last hc hp, rowR_last hc hp]; simp
      · rw [rowR_more hc hp, rowR_more hc hp]
        obtain ⟨r', rfl⟩ := (prefix_one _ _).1 hp
        simp only [List.drop_one, List.tail_cons, List.length_cons] at h1 ⊢
        have i1 := ih (acc ++ [c]) r' (by omega)
        have i2 := ih ([] ++ [c]) r' (by omega)
        refine ⟨i1.1.trans i2.1.symm, fun h => ?_⟩
        rw [i2.1] at h
        rw [i1.2 h, i2.2 h]
        simp
/-- The errors of a row. -/
theorem row_err : ∀ (n : Nat) (acc : List (List UInt8)) (l : List UInt8), l.length ≤ n → (rowR acc l).2.2 = 0 ∨ (((rowR acc l).2.2 = 40 ∨ (rowR acc l).2.2 = 41) ∧ (l ≠ [] → (rowR acc l).2.1 ≠ [])) := by
  intro n
  induction n with
  | zero =>
    intro acc l hl
    obtain rfl : l = [] := List.eq_nil_of_length_eq_zero (by omega)
    have hc : cellR [] = some ([], []) := by decide
    rw [rowR_last hc (by decide)]
    exact Or.inl rfl
  | succ n ih =>
    intro acc l hl
    cases hc : cellR l with
    | none => rw [rowR_quote hc]; right; simp
    | some x =>
      obtain ⟨c, r⟩ := x
      have h1 := cell_len hc
      cases hp : Lib.hasPrefix r [44]
      · rw [rowR_last hc hp]
        simp only [endR]
        by_cases e1 : r = []
        · simp [e1]
        · rw [if_neg e1]
          cases e2 : Lib.hasPrefix r [10]
          · cases e3 : Lib.hasPrefix r [13, 10]
            · right
              simp only [Bool.false_eq_true, if_false]
              refine ⟨?_, fun _ => e1⟩
              by_cases e4 : r.head? = some 13
              · right; simp [e4]
              · left; simp [e4]
            · left; simp
          · left; simp
      · rw [rowR_more hc hp]
        obtain ⟨r', rfl⟩ := (prefix_one _ _).1 hp
        simp only [List.drop_one, List.tail_cons, List.length_cons] at h1 ⊢
        rcases ih (acc ++ [c]) r' (by omega) with h | ⟨h, h2⟩
        · exact Or.inl h
        · refine Or.inr ⟨h, fun _ => ?_⟩
          by_cases hr : r' = []
          · subst hr
            have hc0 : cellR [] = some ([], []) := by decide
            rw [rowR_last hc0 (by decide)] at h
            rcases h with h | h <;> cases h
          · exact h2 hr
end Go.Proofs.YtdkddnlolnbpgaaDoor
