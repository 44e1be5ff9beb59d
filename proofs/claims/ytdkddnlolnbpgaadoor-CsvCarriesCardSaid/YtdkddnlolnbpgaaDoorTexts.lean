/- Package csv, the document's words: rows as a text, and that it is read back. -/
import Derived.Test.YtdkddnlolnbpgaaDoorTexts0
namespace Go.Proofs.YtdkddnlolnbpgaaDoor
open Go

def dblB (c : List UInt8) : List UInt8 := c.flatMap fun b => if b = 34 then [34, 34] else [b]
def specAny (c : List UInt8) : Bool := c.any fun b => specC.contains b
/-- A cell as it stands in a text. -/
def writtenB (c : List UInt8) : List UInt8 := if specAny c then 34 :: (dblB c ++ [34]) else c
/-- A row's cells with commas between. -/
def sepB : List (List UInt8) → List UInt8
  | [] => []
  | c :: r => writtenB c ++ r.flatMap fun d => 44 :: writtenB d
def rowText (r : List (List UInt8)) : List UInt8 := sepB r ++ [13, 10]
def joinB (rows : List (List (List UInt8))) : List UInt8 := rows.flatMap rowText
/-- Join's error. -/
def joinE (rows : List (List (List UInt8))) : Int := if [] ∈ rows then 41 else if 65536 < (joinB rows).length then 2 else 0

theorem sep_snoc (l : List (List UInt8)) (d : List UInt8) : sepB (l ++ [d]) = if l = [] then writtenB d else sepB l ++ 44 :: writtenB d := by
  cases l with
  | nil => simp [sepB]
  | cons c r => simp [sepB, List.flatMap_append]
theorem dbl_cons (b : UInt8) (c : List UInt8) : dblB (b :: c) = (if b = 34 then [34, 34] else [b]) ++ dblB c := by simp [dblB]
theorem dbl_len : ∀ c : List UInt8, c.length ≤ (dblB c).length ∧ (dblB c).length ≤ 2 * c.length
  | [] => by simp [dblB]
  | b :: c => by
    have := dbl_len c
    rw [dbl_cons]
    split <;> simp only [List.length_append, List.length_cons, List.length_nil] <;> omega
theorem written_len (c : List UInt8) : c.length ≤ (writtenB c).length ∧ (writtenB c).length ≤ 2 * c.length + 2 := by
  have := dbl_len c
  unfold writtenB
  split
  · simp only [List.length_cons, List.length_append, List.length_nil]; omega
  · omega
theorem quoted_back : ∀ (c acc r : List UInt8), r.head? ≠ some 34 → quotedG acc (dblB c ++ 34 :: r) = some (acc ++ c, r) := by
  intro c
  induction c with
  | nil =>
    intro acc r hr
    cases r with
    | nil => simp [dblB, quotedG]
    | cons d t =>
      have hd : ¬ d = 34 := fun h => hr (by rw [h]; rfl)
      simp [dblB, quotedG, hd]
  | cons b c ih =>
    intro acc r hr
    rw [dbl_cons]
    by_cases hb : b = 34
    · subst hb
      simp only [if_true, List.cons_append, List.nil_append]
      rw [quotedG, if_pos rfl, if_pos rfl, ih _ _ hr]
      simp
    · simp only [if_neg hb, List.cons_append, List.nil_append]
      obtain ⟨d, t, ht⟩ : ∃ d t, dblB c ++ 34 :: r = d :: t := by
        cases h : dblB c ++ 34 :: r with
        | nil => simp at h
        | cons d t => exact ⟨d, t, rfl⟩
      have := ih (acc ++ [b]) r hr
      rw [ht] at this ⊢
      rw [quotedG, if_neg hb, this]
      simp
theorem plain_back : ∀ (c r : List UInt8), specAny c = false → (r = [] ∨ ∃ b t, r = b :: t ∧ specC.contains b = true) → plainL (c ++ r) = c ∧ plainD (c ++ r) = r := by
  intro c
  induction c with
  | nil =>
    intro r _ h
    rcases h with rfl | ⟨b, t, rfl, hb⟩
    · exact ⟨rfl, rfl⟩
    · simp only [List.nil_append, plainL, plainD, List.takeWhile_cons, List.dropWhile_cons, hb]
      exact ⟨rfl, rfl⟩
  | cons b c ih =>
    intro r h hr
    simp only [specAny, List.any_cons, Bool.or_eq_false_iff] at h
    have := ih r h.2 hr
    simp only [List.cons_append, plainL, plainD, List.takeWhile_cons, List.dropWhile_cons, h.1, Bool.not_false, if_true] at this ⊢
    exact ⟨by rw [this.1], this.2⟩
/-- What may stand behind a cell. -/
def Behind (r : List UInt8) : Prop := ∃ b t, r = b :: t ∧ (b = 44 ∨ b = 13)
theorem cell_back (c r : List UInt8) (hr : Behind r) : cellR (writtenB c ++ r) = some (c, r) := by
  obtain ⟨b, t, rfl, hb⟩ := hr
  have hb34 : ¬ b = 34 := by rcases hb with rfl | rfl <;> decide
  unfold writtenB
  cases h : specAny c
  · rw [if_neg (by simp)]
    have hs : specC.contains b = true := by rcases hb with rfl | rfl <;> decide
    have := plain_back c (b :: t) h (Or.inr ⟨b, t, rfl, hs⟩)
    unfold cellR
    have hp : Lib.hasPrefix (c ++ b :: t) [34] = false := by
      rw [← Bool.not_eq_true]
      intro hp
      obtain ⟨u, hu⟩ := (prefix_one _ _).1 hp
      cases c with
      | nil => simp only [List.nil_append, List.cons.injEq] at hu; exact hb34 hu.1
      | cons d e =>
        simp only [List.cons_append, List.cons.injEq] at hu
        rw [hu.1] at h
        simp [specAny, specC] at h
    rw [hp, if_neg (by simp), this.1, this.2]
  · rw [if_pos rfl]
    unfold cellR
    simp only [List.cons_append]
    rw [if_pos ((prefix_one _ _).2 ⟨_, rfl⟩)]
    simp only [List.drop_one, List.tail_cons, List.append_assoc, List.cons_append, List.nil_append]
    rw [quoted_back c [] (b :: t) (by simpa using hb34)]
    rfl
theorem end_back (more : List UInt8) : endR (13 :: 10 :: more) = (more, 0) := by
  unfold endR
  rw [if_neg (by simp), if_neg (by simp [Lib.hasPrefix, List.isPrefixOf]), if_pos (by simp [Lib.hasPrefix, List.isPrefixOf])]
  rfl
theorem row_back : ∀ (r : List (List UInt8)) (c : List UInt8) (acc : List (List UInt8)) (more : List UInt8), rowR acc (rowText (c :: r) ++ more) = (acc ++ c :: r, more, 0) := by
  intro r
  induction r with
  | nil =>
    intro c acc more
    have e : rowText [c] ++ more = writtenB c ++ 13 :: 10 :: more := by simp [rowText, sepB]
    rw [e, rowR_last (cell_back c _ ⟨13, _, rfl, Or.inr rfl⟩) (by simp [Lib.hasPrefix, List.isPrefixOf]), end_back]
  | cons d r ih =>
    intro c acc more
    have e : rowText (c :: d :: r) ++ more = writtenB c ++ 44 :: (rowText (d :: r) ++ more) := by simp [rowText, sepB]
    rw [e, rowR_more (cell_back c _ ⟨44, _, rfl, Or.inl rfl⟩) ((prefix_one _ _).2 ⟨_, rfl⟩)]
    simp only [List.drop_one, List.tail_cons]
    rw [ih]
    simp
theorem rowText_ne (r : List (List UInt8)) (more : List UInt8) : rowText r ++ more ≠ [] := by
  intro h
  have := congrArg List.length h
  simp [rowText] at this
/-- THERE AND BACK. -/
theorem split_back : ∀ (rows acc : List (List (List UInt8))) (more : List UInt8), [] ∉ rows → splitR acc (joinB rows ++ more) = splitR (acc ++ rows) more := by
  intro rows
  induction rows with
  | nil => intro acc more _; simp [joinB]
  | cons r rows ih =>
    intro acc more h
    simp only [List.mem_cons, not_or] at h
    obtain ⟨c, r', rfl⟩ : ∃ c r', r = c :: r' := by
      cases r with
      | nil => exact absurd rfl h.1
      | cons c r' => exact ⟨c, r', rfl⟩
    have e : joinB ((c :: r') :: rows) ++ more = rowText (c :: r') ++ (joinB rows ++ more) := by simp [joinB]
    have hb := row_back r' c [] (joinB rows ++ more)
    rw [e, splitR_more (rowText_ne _ _) (by rw [hb]), hb]
    simp only
    rw [ih _ _ h.2]
    simp
theorem split_join (rows : List (List (List UInt8))) (h : [] ∉ rows) : splitR [] (joinB rows) = (rows, [], 0) := by
  have := split_back rows [] [] h
  rw [List.append_nil] at this
  rw [this, splitR_nil, List.nil_append]
theorem split_acc : ∀ (n : Nat) (acc : List (List (List UInt8))) (l : List UInt8), l.length ≤ n → (splitR acc l).2 = (splitR [] l).2 ∧ ((splitR [] l).2.2 = 0 → (splitR acc l).1 = acc ++ (splitR [] l).1) := by
  intro n
  induction n with
  | zero =>
    intro acc l hl
    obtain rfl : l = [] := List.eq_nil_of_length_eq_zero (by omega)
    rw [splitR_nil, splitR_nil]
    simp
  | succ n ih =>
    intro acc l hl
    by_cases hne : l = []
    · subst hne; rw [splitR_nil, splitR_nil]; simp
    · by_cases h0 : (rowR [] l).2.2 = 0
      · have hlt := row_ok _ [] l (Nat.le_refl _) hne h0
        rw [splitR_more hne h0, splitR_more hne h0]
        have i1 := ih (acc ++ [(rowR [] l).1]) (rowR [] l).2.1 (by omega)
        have i2 := ih ([] ++ [(rowR [] l).1]) (rowR [] l).2.1 (by omega)
        refine ⟨i1.1.trans i2.1.symm, fun h => ?_⟩
        rw [i2.1] at h
        rw [i1.2 h, i2.2 h]
        simp
      · rw [splitR_bad hne h0, splitR_bad hne h0]
        exact ⟨rfl, fun h => absurd h h0⟩
theorem split_cells : ∀ (n : Nat) (acc : List (List (List UInt8))) (l : List UInt8), l.length ≤ n → [] ∉ acc → [] ∉ (splitR acc l).1 := by
  intro n
  induction n with
  | zero =>
    intro acc l hl ha
    obtain rfl : l = [] := List.eq_nil_of_length_eq_zero (by omega)
    rw [splitR_nil]
    exact ha
  | succ n ih =>
    intro acc l hl ha
    by_cases hne : l = []
    · subst hne; rw [splitR_nil]; exact ha
    · by_cases h0 : (rowR [] l).2.2 = 0
      · have hlt := row_ok _ [] l (Nat.le_refl _) hne h0
        rw [splitR_more hne h0]
        refine ih _ _ (by omega) ?_
        have := row_cells _ [] l (Nat.le_refl _) h0
        simp only [List.mem_append, List.mem_singleton, not_or]
        exact ⟨ha, fun e => this e.symm⟩
      · rw [splitR_bad hne h0]
        simp
/-- The errors of a text: none, or a fault at a place of the text, and no rows. -/
theorem split_err : ∀ (n : Nat) (acc : List (List (List UInt8))) (l : List UInt8), l.length ≤ n → ((splitR acc l).2.2 = 0 ∧ (splitR acc l).2.1 = []) ∨ (((splitR acc l).2.2 = 40 ∨ (splitR acc l).2.2 = 41) ∧ 0 < (splitR acc l).2.1.length ∧ (splitR acc l).2.1.length ≤ l.length ∧ (splitR acc l).1 = []) := by
  intro n
  induction n with
  | zero =>
    intro acc l hl
    obtain rfl : l = [] := List.eq_nil_of_length_eq_zero (by omega)
    rw [splitR_nil]
    exact Or.inl ⟨rfl, rfl⟩
  | succ n ih =>
    intro acc l hl
    by_cases hne : l = []
    · subst hne; rw [splitR_nil]; exact Or.inl ⟨rfl, rfl⟩
    · by_cases h0 : (rowR [] l).2.2 = 0
      · have hlt := row_ok _ [] l (Nat.le_refl _) hne h0
        rw [splitR_more hne h0]
        rcases ih (acc ++ [(rowR [] l).1]) (rowR [] l).2.1 (by omega) with h | ⟨h1, h2, h3, h4⟩
        · exact Or.inl h
        · exact Or.inr ⟨h1, h2, by omega, h4⟩
      · rw [splitR_bad hne h0]
        rcases row_err _ [] l (Nat.le_refl _) with h | ⟨h1, h2⟩
        · exact absurd h h0
        · exact Or.inr ⟨h1, List.length_pos_iff.2 (h2 hne), row_len _ [] l (Nat.le_refl _), rfl⟩
theorem sep_len (l : List (List UInt8)) : (sepB l).length ≤ (l.map fun c => 2 * c.length + 4).sum := by
  cases l with
  | nil => simp [sepB]
  | cons c r =>
    have h : ∀ r : List (List UInt8), (r.flatMap fun d => 44 :: writtenB d).length ≤ (r.map fun c => 2 * c.length + 4).sum := by
      intro r
      induction r with
      | nil => simp
      | cons d r ih =>
        have := written_len d
        simp only [List.flatMap_cons, List.length_append, List.length_cons, List.map_cons, List.sum_cons]
        omega
    have h1 := h r
    have := written_len c
    simp only [sepB, List.length_append, List.map_cons, List.sum_cons]
    omega
theorem rowText_len (c : List UInt8) (r : List (List UInt8)) : (rowText (c :: r)).length ≤ ((c :: r).map fun c => 2 * c.length + 4).sum := by
  have h : ∀ r : List (List UInt8), (r.flatMap fun d => 44 :: writtenB d).length ≤ (r.map fun c => 2 * c.length + 4).sum := by
    intro r
    induction r with
    | nil => simp
    | cons d r ih =>
      have := written_len d
      simp only [List.flatMap_cons, List.length_append, List.length_cons, List.map_cons, List.sum_cons]
      omega
  have h1 := h r
  have := written_len c
  simp only [rowText, sepB, List.length_append, List.map_cons, List.sum_cons, List.length_cons, List.length_nil]
  omega
theorem join_snoc (l : List (List (List UInt8))) (r : List (List UInt8)) : joinB (l ++ [r]) = joinB l ++ rowText r := by simp [joinB]
end Go.Proofs.YtdkddnlolnbpgaaDoor
