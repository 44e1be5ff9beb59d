/- The document's own reader of rows, as a plain function on bytes; it gives what the rows' words give. -/
import Derived.Test.YtodbpfdknfcgbaaDoorAgainWalk
namespace Go.Proofs.YtodbpfdknfcgbaaDoor
open Go

/-- Where the reader is: the rows, the row, the cell, its state, where a quoted cell began. -/
structure St where
  rows : List (List (List UInt8))
  row : List (List UInt8)
  cell : List UInt8
  state : Nat
  op : Nat
def St.endCell (s : St) : St := ⟨s.rows, s.row ++ [s.cell], [], 0, s.op⟩
def St.endRow (s : St) : St := ⟨s.rows ++ [s.row ++ [s.cell]], [], [], 0, s.op⟩
def refR (s : St) (i : Nat) : List UInt8 → List (List (List UInt8)) × Nat × Int
  | [] => if s.state = 2 then ([], s.op, 40) else if s.state = 0 then (s.rows, 0, 0) else (s.endRow.rows, 0, 0)
  | c :: l =>
    if s.state = 2 then (if c = 34 then refR { s with state := 3 } (i + 1) l else refR { s with cell := s.cell ++ [c] } (i + 1) l)
    else if c = 44 then (if l = [] then refR s.endCell.endRow (i + 1) l else refR s.endCell (i + 1) l)
    else if c = 10 then refR s.endRow (i + 1) l
    else if c = 13 then (if l.head? = some 10 then refR s (i + 1) l else ([], i, 41))
    else if c = 34 then (if s.state = 0 then refR { s with state := 2, op := i } (i + 1) l else if s.state = 3 then refR { s with cell := s.cell ++ [34], state := 2 } (i + 1) l else ([], i, 40))
    else if s.state = 3 then ([], i, 40) else refR { s with cell := s.cell ++ [c], state := 1 } (i + 1) l

/-- What stands behind a cell that has been begun. -/
def afterR (rows : List (List (List UInt8))) (acc : List (List UInt8)) (c : List UInt8) (op j : Nat) : List UInt8 → List (List (List UInt8)) × Nat × Int
  | [] => (rows ++ [acc ++ [c]], 0, 0)
  | b :: r =>
    if b = 44 then (if r = [] then (rows ++ [acc ++ [c] ++ [[]]], 0, 0) else refR ⟨rows, acc ++ [c], [], 0, op⟩ (j + 1) r)
    else if b = 10 then refR ⟨rows ++ [acc ++ [c]], [], [], 0, op⟩ (j + 1) r
    else if b = 13 then (if r.head? = some 10 then refR ⟨rows ++ [acc ++ [c]], [], [], 0, op⟩ (j + 2) (r.drop 1) else ([], j, 41))
    else ([], j, 40)
theorem spec_cases (b : UInt8) : specC.contains b = true ↔ b = 44 ∨ b = 34 ∨ b = 13 ∨ b = 10 := by simp [specC]
/-- Behind a plain cell's special byte, or its end. -/
theorem after_plain (rows : List (List (List UInt8))) (acc : List (List UInt8)) (c : List UInt8) (op j : Nat) (st : Nat) (r : List UInt8) (hst : st = 0 ∨ st = 1) (h0 : st = 0 → r ≠ [] ∧ ∀ x, r = 34 :: x → False) (hr : r = [] ∨ ∃ b t, r = b :: t ∧ specC.contains b = true) : refR ⟨rows, acc, c, st, op⟩ j r = afterR rows acc c op j r := by
  have h2 : ¬ st = 2 := by omega
  have h3 : ¬ st = 3 := by omega
  rcases hr with rfl | ⟨b, t, rfl, hb⟩
  · have h1 : st = 1 := by
      rcases hst with h | h
      · exact absurd rfl (h0 h).1
      · exact h
    subst h1
    simp [refR, afterR, St.endRow]
  · rcases (spec_cases b).1 hb with rfl | rfl | rfl | rfl
    · simp only [refR, afterR, if_neg h2, if_true]
      by_cases ht : t = []
      · subst ht; simp [refR, St.endCell, St.endRow]
      · simp [ht, St.endCell]
    · have h1 : ¬ st = 0 := fun h => (h0 h).2 t rfl
      simp [refR, afterR, h2, h1, h3]
    · simp only [refR, afterR, if_neg h2]
      simp only [show ¬ (13 : UInt8) = 44 by decide, show ¬ (13 : UInt8) = 10 by decide, if_false, if_true]
      by_cases ht : t.head? = some 10
      · rw [if_pos ht, if_pos ht]
        cases t with
        | nil => cases ht
        | cons x u =>
          obtain rfl : x = 10 := by simpa using ht
          simp [refR, h2, St.endRow]
      · rw [if_neg ht, if_neg ht]
    · simp only [refR, afterR, if_neg h2]
      simp only [show ¬ (10 : UInt8) = 44 by decide, if_false, if_true, St.endRow]
/-- A plain cell. -/
theorem ref_plain : ∀ (l : List UInt8) (rows : List (List (List UInt8))) (acc : List (List UInt8)) (c : List UInt8) (op j st : Nat), (st = 0 ∨ st = 1) → (st = 0 → l ≠ [] ∧ ∀ x, l = 34 :: x → False) → refR ⟨rows, acc, c, st, op⟩ j l = afterR rows acc (c ++ plainL l) op (j + (plainL l).length) (plainD l)
  | [], rows, acc, c, op, j, st, hst, h0 => by
    have := after_plain rows acc c op j st [] hst h0 (Or.inl rfl)
    simpa [plainL, plainD] using this
  | b :: l, rows, acc, c, op, j, st, hst, h0 => by
    cases hb : specC.contains b
    · have e1 : plainL (b :: l) = b :: plainL l := by simp only [plainL, List.takeWhile_cons, hb, Bool.not_false, if_true]
      have e2 : plainD (b :: l) = plainD l := by simp only [plainD, List.dropWhile_cons, hb, Bool.not_false, if_true]
      have hn : ¬ (b = 44 ∨ b = 34 ∨ b = 13 ∨ b = 10) := fun h => by rw [(spec_cases b).2 h] at hb; cases hb
      have n1 : ¬ b = 44 := fun h => hn (Or.inl h)
      have n2 : ¬ b = 34 := fun h => hn (Or.inr (Or.inl h))
      have n3 : ¬ b = 13 := fun h => hn (Or.inr (Or.inr (Or.inl h)))
      have n4 : ¬ b = 10 := fun h => hn (Or.inr (Or.inr (Or.inr h)))
      have h2 : ¬ st = 2 := by omega
      have h3 : ¬ st = 3 := by omega
      simp only [refR, if_neg h2, if_neg n1, if_neg n2, if_neg n3, if_neg n4, if_neg h3]
      rw [ref_plain l rows acc (c ++ [b]) op (j + 1) 1 (Or.inr rfl) (fun h => by cases h), e1, e2]
      simp only [List.append_assoc, List.cons_append, List.nil_append, List.length_cons]
      rw [Nat.add_assoc, Nat.add_comm 1]
    · have e1 : plainL (b :: l) = [] := by simp only [plainL, List.takeWhile_cons, hb, Bool.not_true, Bool.false_eq_true, if_false]
      have e2 : plainD (b :: l) = b :: l := by simp only [plainD, List.dropWhile_cons, hb, Bool.not_true, Bool.false_eq_true, if_false]
      rw [e1, e2, List.append_nil, List.length_nil, Nat.add_zero]
      exact after_plain rows acc c op j st (b :: l) hst h0 (Or.inr ⟨b, l, rfl, hb⟩)
/-- Behind a quoted cell's closing quote. -/
theorem after_shut (rows : List (List (List UInt8))) (acc : List (List UInt8)) (c : List UInt8) (op j : Nat) (r : List UInt8) (h : r.head? ≠ some 34) : refR ⟨rows, acc, c, 3, op⟩ j r = afterR rows acc c op j r := by
  cases r with
  | nil => simp [refR, afterR, St.endRow]
  | cons b t =>
    have hb : ¬ b = 34 := fun e => h (by rw [e]; rfl)
    simp only [refR, afterR, show ¬ (3 : Nat) = 2 by decide, if_false, if_neg hb]
    by_cases h1 : b = 44
    · rw [if_pos h1, if_pos h1]
      by_cases ht : t = []
      · subst ht; simp [refR, St.endCell, St.endRow]
      · simp [ht, St.endCell]
    · rw [if_neg h1, if_neg h1]
      by_cases h2 : b = 10
      · rw [if_pos h2, if_pos h2]; rfl
      · rw [if_neg h2, if_neg h2]
        by_cases h3 : b = 13
        · rw [if_pos h3, if_pos h3]
          by_cases ht : t.head? = some 10
          · rw [if_pos ht, if_pos ht]
            cases t with
            | nil => cases ht
            | cons x u =>
              obtain rfl : x = 10 := by simpa using ht
              simp [refR, St.endRow]
          · rw [if_neg ht, if_neg ht]
        · rw [if_neg h3, if_neg h3, if_pos trivial]
/-- A quoted cell. -/
theorem ref_quoted : ∀ (c l : List UInt8) (rows : List (List (List UInt8))) (acc : List (List UInt8)) (op j : Nat), refR ⟨rows, acc, c, 2, op⟩ j l = match quotedG c l with
    | none => ([], op, 40)
    | some x => afterR rows acc x.1 op (j + (l.length - x.2.length)) x.2
  | c, [], rows, acc, op, j => by simp [refR, quotedG]
  | c, [b], rows, acc, op, j => by
    by_cases hb : b = 34
    · subst hb
      simp [refR, quotedG, afterR, St.endRow]
    · simp [refR, quotedG, hb]
  | c, b :: d :: t, rows, acc, op, j => by
    by_cases hb : b = 34
    · subst hb
      by_cases hd : d = 34
      · subst hd
        rw [quotedG, if_pos rfl, if_pos rfl]
        simp only [refR, if_true, show ¬ (3 : Nat) = 2 by decide, if_false, show ¬ (34 : UInt8) = 44 by decide, show ¬ (34 : UInt8) = 10 by decide, show ¬ (34 : UInt8) = 13 by decide, show ¬ (3 : Nat) = 0 by decide]
        rw [ref_quoted (c ++ [34]) t rows acc op (j + 1 + 1)]
        cases hq : quotedG (c ++ [34]) t with
        | none => rfl
        | some x =>
          have := quoted_len _ _ (show quotedG (c ++ [34]) t = some (x.1, x.2) from hq)
          simp only [List.length_cons]
          congr 1
          omega
      · rw [quotedG, if_pos rfl, if_neg hd]
        have h1 : refR ⟨rows, acc, c, 2, op⟩ j (34 :: d :: t) = refR ⟨rows, acc, c, 3, op⟩ (j + 1) (d :: t) := by simp only [refR, if_true]
        rw [h1, after_shut _ _ _ _ _ _ (by simpa using hd)]
        simp only [List.length_cons]
        congr 1
        omega
    · rw [quotedG, if_neg hb]
      have h1 : refR ⟨rows, acc, c, 2, op⟩ j (b :: d :: t) = refR ⟨rows, acc, c ++ [b], 2, op⟩ (j + 1) (d :: t) := by
        conv => lhs; unfold refR
        simp only [if_true, if_neg hb]
      rw [h1, ref_quoted (c ++ [b]) (d :: t) rows acc op (j + 1)]
      cases hq : quotedG (c ++ [b]) (d :: t) with
      | none => rfl
      | some x =>
        have := quoted_len _ _ (show quotedG (c ++ [b]) (d :: t) = some (x.1, x.2) from hq)
        simp only [List.length_cons] at this ⊢
        congr 1
        omega
theorem hp_ne {b c : UInt8} {r : List UInt8} (h : ¬ b = c) (s : List UInt8) : Lib.hasPrefix (b :: r) (c :: s) = false := by
  simp only [Lib.hasPrefix, List.isPrefixOf]
  rw [beq_eq_false_iff_ne.2 (fun e => h e.symm), Bool.false_and]
theorem ref_row (rows : List (List (List UInt8))) : ∀ (n : Nat) (acc : List (List UInt8)) (l : List UInt8) (op i : Nat), l.length ≤ n → l ≠ [] → ∃ op', refR ⟨rows, acc, [], 0, op⟩ i l = if (rowR acc l).2.2 = 0 then refR ⟨rows ++ [(rowR acc l).1], [], [], 0, op'⟩ (i + (l.length - (rowR acc l).2.1.length)) (rowR acc l).2.1 else ([], i + (l.length - (rowR acc l).2.1.length), (rowR acc l).2.2) := by
  intro n
  induction n with
  | zero => intro acc l op i hl hne; exact absurd (List.eq_nil_of_length_eq_zero (by omega)) hne
  | succ n ih =>
    intro acc l op i hl hne
    -- what stands behind the cell
    have key : ∀ (c r : List UInt8) (op2 : Nat), cellR l = some (c, r) → ∃ op', afterR rows acc c op2 (i + (l.length - r.length)) r = if (rowR acc l).2.2 = 0 then refR ⟨rows ++ [(rowR acc l).1], [], [], 0, op'⟩ (i + (l.length - (rowR acc l).2.1.length)) (rowR acc l).2.1 else ([], i + (l.length - (rowR acc l).2.1.length), (rowR acc l).2.2) := by
      intro c r op2 hc
      have hrl := cell_len hc
      cases r with
      | nil =>
        rw [rowR_last hc (by decide)]
        exact ⟨0, by simp [afterR, endR, refR]⟩
      | cons b r =>
        simp only [List.length_cons] at hrl
        by_cases h1 : b = 44
        · subst h1
          rw [rowR_more hc ((prefix_one _ _).2 ⟨_, rfl⟩)]
          simp only [afterR, if_true, List.drop_one, List.tail_cons]
          by_cases hr : r = []
          · subst hr
            have hc0 : cellR [] = some ([], []) := by decide
            rw [if_pos rfl, rowR_last hc0 (by decide)]
            exact ⟨0, by simp [endR, refR]⟩
          · rw [if_neg hr]
            obtain ⟨op', h⟩ := ih (acc ++ [c]) r op2 (i + (l.length - (44 :: r : List UInt8).length) + 1) (by omega) hr
            refine ⟨op', ?_⟩
            have hle := row_len _ (acc ++ [c]) r (Nat.le_refl _)
            have e : i + (l.length - (44 :: r : List UInt8).length) + 1 + (r.length - (rowR (acc ++ [c]) r).2.1.length) = i + (l.length - (rowR (acc ++ [c]) r).2.1.length) := by simp only [List.length_cons]; omega
            rw [h, e]
        · rw [rowR_last hc (hp_ne h1 [])]
          simp only [afterR, if_neg h1]
          by_cases h2 : b = 10
          · subst h2
            rw [show endR (10 :: r) = (r, 0) by unfold endR; rw [if_neg (by simp), if_pos ((prefix_one _ _).2 ⟨_, rfl⟩)]; rfl]
            refine ⟨op2, ?_⟩
            simp only [if_true]
            congr 1
            simp only [List.length_cons]
            omega
          · rw [if_neg h2]
            by_cases h3 : b = 13
            · subst h3
              rw [if_pos rfl]
              by_cases h4 : r.head? = some 10
              · cases r with
                | nil => cases h4
                | cons x u =>
                  obtain rfl : x = 10 := by simpa using h4
                  rw [end_back u, if_pos h4]
                  refine ⟨op2, ?_⟩
                  simp only [if_true, List.drop_one, List.tail_cons, List.length_cons] at hrl ⊢
                  congr 1
                  omega
              · rw [if_neg h4]
                have he : endR (13 :: r) = (13 :: r, 41) := by
                  unfold endR
                  rw [if_neg (by simp), if_neg (by rw [hp_ne (by decide)]; simp), if_neg (by
                    cases r with
                    | nil => decide
                    | cons x u =>
                      have hx : ¬ x = 10 := fun e => h4 (by rw [e]; rfl)
                      simp only [Lib.hasPrefix, List.isPrefixOf]
                      rw [beq_eq_false_iff_ne.2 (fun e => hx e.symm)]
                      simp)]
                  simp
                rw [he]
                exact ⟨0, by simp⟩
            · rw [if_neg h3]
              have he : endR (b :: r) = (b :: r, 40) := by
                unfold endR
                rw [if_neg (by simp), if_neg (by rw [hp_ne h2]; simp), if_neg (by rw [hp_ne h3]; simp)]
                simp [h3]
              rw [he]
              exact ⟨0, by simp⟩
    cases hq : Lib.hasPrefix l [34]
    · have hc : cellR l = some (plainL l, plainD l) := by unfold cellR; rw [hq]; rfl
      obtain ⟨op', h⟩ := key _ _ op hc
      refine ⟨op', ?_⟩
      have hp := ref_plain l rows acc [] op i 0 (Or.inl rfl) (fun _ => ⟨hne, fun x e => by rw [e, (prefix_one _ _).2 ⟨x, rfl⟩] at hq; cases hq⟩)
      rw [hp, List.nil_append, ← h]
      congr 1
      have := plain_len l
      omega
    · obtain ⟨r, rfl⟩ := (prefix_one _ _).1 hq
      have hc : cellR (34 :: r) = quotedG [] r := by unfold cellR; rw [if_pos hq]; rfl
      have hp : refR ⟨rows, acc, [], 0, op⟩ i (34 :: r) = refR ⟨rows, acc, [], 2, i⟩ (i + 1) r := by
        conv => lhs; unfold refR
        simp only [show ¬ (0 : Nat) = 2 by decide, if_false, show ¬ (34 : UInt8) = 44 by decide, show ¬ (34 : UInt8) = 10 by decide, show ¬ (34 : UInt8) = 13 by decide, if_true]
      rw [hp, ref_quoted]
      cases hg : quotedG [] r with
      | none =>
        rw [rowR_quote (hc.trans hg)]
        exact ⟨0, by simp⟩
      | some x =>
        obtain ⟨op', h⟩ := key x.1 x.2 i (hc.trans hg)
        refine ⟨op', ?_⟩
        rw [← h]
        have := quoted_len _ _ (show quotedG [] r = some (x.1, x.2) from hg)
        simp only [List.length_cons]
        congr 1
        omega
/-- THE DOCUMENT's READER IS THE ROWS' WORDS. -/
theorem ref_split : ∀ (n : Nat) (rows : List (List (List UInt8))) (l : List UInt8) (op i : Nat), l.length ≤ n → refR ⟨rows, [], [], 0, op⟩ i l = ((splitR rows l).1, if (splitR rows l).2.2 = 0 then 0 else i + (l.length - (splitR rows l).2.1.length), (splitR rows l).2.2) := by
  intro n
  induction n with
  | zero =>
    intro rows l op i hl
    obtain rfl : l = [] := List.eq_nil_of_length_eq_zero (by omega)
    rw [splitR_nil]
    simp [refR]
  | succ n ih =>
    intro rows l op i hl
    by_cases hne : l = []
    · subst hne
      rw [splitR_nil]
      simp [refR]
    · obtain ⟨op', h⟩ := ref_row rows _ [] l op i (Nat.le_refl _) hne
      rw [h]
      by_cases h0 : (rowR [] l).2.2 = 0
      · have hlt := row_ok _ [] l (Nat.le_refl _) hne h0
        rw [if_pos h0, splitR_more hne h0, ih _ _ op' _ (by omega)]
        congr 2
        rcases split_err _ (rows ++ [(rowR [] l).1]) (rowR [] l).2.1 (Nat.le_refl _) with ⟨h1, _⟩ | ⟨h1, _, h3, _⟩
        · rw [if_pos h1, if_pos h1]
        · rw [if_neg (by rcases h1 with h1 | h1 <;> rw [h1] <;> decide), if_neg (by rcases h1 with h1 | h1 <;> rw [h1] <;> decide)]
          omega
      · rw [if_neg h0, splitR_bad hne h0]
        simp only
        rw [if_neg h0]
end Go.Proofs.YtodbpfdknfcgbaaDoor
