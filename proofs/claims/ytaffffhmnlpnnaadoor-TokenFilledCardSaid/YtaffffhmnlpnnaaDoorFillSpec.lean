/- Plain tokens with blanks and comments between them. -/
import Derived.Test.YtaffffhmnlpnnaaDoorBackSpec
namespace Go.Proofs.YtaffffhmnlpnnaaDoor
open Go Go.RowKit

theorem wordL_blank : ∀ {x : List UInt8} {b : UInt8} {s : List UInt8}, (∀ c ∈ x, wordByte c = true) → wordByte b = false → wordL (x ++ b :: s) = x
  | [], b, s, _, hb => by
    unfold wordL
    rw [List.nil_append, List.takeWhile_cons, hb]
    simp
  | a :: x, b, s, h, hb => by
    have ih := wordL_blank (x := x) (b := b) (s := s) (fun c hc => h c (by simp [hc])) hb
    unfold wordL at ih ⊢
    rw [List.cons_append, List.takeWhile_cons, h a (by simp)]
    simp only [if_true]
    rw [ih]
/-- A plain token is read back, whatever stands behind its blank. -/
theorem next_blanks {k : Int} {x : List UInt8} {b : UInt8} {s : List UInt8} (h : Plain k x) (hb3 : b = 32 ∨ b = 9 ∨ b = 10) : nextR (writtenB k x ++ b :: s) = ⟨k, x, writtenB k x ++ b :: s, b :: s, 0⟩ := by
  have hwb : wordByte b = false := by rcases hb3 with rfl | rfl | rfl <;> decide
  rcases h with ⟨rfl, a, y, rfl, hb, hy, hl⟩ | ⟨rfl, i, y, rfl, hi, hy⟩ | ⟨rfl, hl⟩ | ⟨rfl, hx⟩
  · have hw : wordL (a :: y ++ b :: s) = a :: y := wordL_blank (fun c hc => by
      rcases List.mem_cons.1 hc with rfl | hc
      · exact let_word hb
      · exact hy c hc) hwb
    have e : writtenB 1 (a :: y) = a :: y := rfl
    rw [e]
    unfold nextR
    rw [List.cons_append, let_skip hb]
    rw [List.cons_append] at hw
    simp only [oneR, hb, if_true, hw, if_pos hl]
    rw [show (a :: (y ++ b :: s)).drop (a :: y).length = b :: s by simp]
  · obtain ⟨h1, h2, _⟩ := num_plain hi hy
    have hw : wordL (UInt8.ofNat (49 + i) :: y ++ b :: s) = UInt8.ofNat (49 + i) :: y := wordL_blank h2 hwb
    have e : writtenB 2 (UInt8.ofNat (49 + i) :: y) = UInt8.ofNat (49 + i) :: y := rfl
    obtain ⟨a1, _, a3, a4, a5⟩ := digU_of ⟨i + 1, by omega⟩
    rw [show 48 + (i + 1) = 49 + i by omega] at a1 a3 a4 a5
    rw [e]
    unfold nextR
    rw [List.cons_append, skip_none a4 (fun h => a5 h.1)]
    rw [List.cons_append] at hw
    simp only [oneR, a1, a3, Bool.false_eq_true, if_false, if_true, hw, h1]
    rw [show (UInt8.ofNat (49 + i) :: (y ++ b :: s)).drop (UInt8.ofNat (49 + i) :: y).length = b :: s by simp]
  · have e : writtenB 3 x ++ b :: s = 34 :: (x.flatMap escB ++ 34 :: b :: s) := by simp [writtenB]
    rw [e, next_string (enc_esc x) (by omega)]
  · have e : writtenB 4 x = x := rfl
    rw [e]
    have hx2 := hx
    simp only [signsL, List.mem_cons, List.not_mem_nil, or_false] at hx2
    rcases hb3 with rfl | rfl | rfl
    all_goals rcases hx2 with rfl | rfl | rfl | rfl | rfl | rfl | rfl | rfl | rfl | rfl | rfl | rfl | rfl | rfl | rfl | rfl | rfl | rfl | rfl <;> rfl
/-- What may stand between two tokens. -/
structure Fill (F : List UInt8) : Prop where
  head : ∃ b s, F = b :: s ∧ (b = 32 ∨ b = 9 ∨ b = 10)
  skip : ∀ r, skipR false (F ++ r) = skipR false r
  len : F.length ≤ 30
theorem drop_line {n r : List UInt8} (h : ∀ c ∈ n, c ≠ 10) : (n ++ 10 :: r).dropWhile (fun b => b != 10) = 10 :: r := by
  induction n with
  | nil => simp
  | cons a n ih =>
    have ha : (a != 10) = true := by simp [h a (by simp)]
    rw [List.cons_append, List.dropWhile_cons, if_pos ha]
    exact ih (fun c hc => h c (by simp [hc]))
theorem skip_comment {n r : List UInt8} (h : ∀ c ∈ n, c ≠ 10) : skipR false (45 :: 45 :: (n ++ 10 :: r)) = skipR false r := by
  rw [skip_note, skip_line, drop_line h, skip_blank (by decide)]
theorem fill0 : Fill [10] := ⟨⟨10, [], rfl, by simp⟩, fun r => by rw [List.cons_append, skip_blank (by decide)]; rfl, by simp⟩
theorem fill1 : Fill [9, 32, 13, 10] := ⟨⟨9, _, rfl, by simp⟩, fun r => by
  simp only [List.cons_append, List.nil_append]
  rw [skip_blank (by decide), skip_blank (by decide), skip_blank (by decide), skip_blank (by decide)], by simp⟩
theorem fill4 : Fill [32, 32] := ⟨⟨32, _, rfl, by simp⟩, fun r => by
  simp only [List.cons_append, List.nil_append]
  rw [skip_blank (by decide), skip_blank (by decide)], by simp⟩
theorem fill2 {n : List UInt8} (h : ∀ c ∈ n, c ≠ 10) (hl : n.length ≤ 20) : Fill (32 :: 45 :: 45 :: (n ++ [10])) := ⟨⟨32, _, rfl, by simp⟩, fun r => by
  have e : (32 :: 45 :: 45 :: (n ++ [10])) ++ r = 32 :: 45 :: 45 :: (n ++ 10 :: r) := by simp
  rw [e, skip_blank (by decide), skip_comment h], by simp; omega⟩
theorem fill3 {n : List UInt8} (h : ∀ c ∈ n, c ≠ 10) (hl : n.length ≤ 20) : Fill (32 :: 45 :: 45 :: 32 :: 120 :: 10 :: 45 :: 45 :: (n ++ [10, 32])) := ⟨⟨32, _, rfl, by simp⟩, fun r => by
  have e : (32 :: 45 :: 45 :: 32 :: 120 :: 10 :: 45 :: 45 :: (n ++ [10, 32])) ++ r = 32 :: 45 :: 45 :: ([32, 120] ++ 10 :: (45 :: 45 :: (n ++ 10 :: (32 :: r)))) := by simp
  rw [e, skip_blank (by decide), skip_comment (by decide), skip_comment h, skip_blank (by decide)], by simp; omega⟩
/-- The text of a row of tokens, each behind its filler. -/
def fillL : List (List UInt8 × Tok) → List UInt8
  | [] => []
  | (F, t) :: r => F ++ (t.wr ++ fillL r)
theorem fillL_snoc (l : List (List UInt8 × Tok)) (F : List UInt8) (t : Tok) : fillL (l ++ [(F, t)]) = fillL l ++ F ++ t.wr := by
  induction l with
  | nil => simp [fillL]
  | cons a r ih =>
    obtain ⟨G, u⟩ := a
    rw [List.cons_append, fillL, ih, fillL]
    simp
theorem next_fill {F : List UInt8} (h : Fill F) (l : List UInt8) : nextR (F ++ l) = nextR l := by
  unfold nextR
  rw [h.skip]
theorem scan_fill {F : List UInt8} (h : Fill F) (n : Nat) (acc : List Tk) (l : List UInt8) : scanR n acc (F ++ l) = scanR n acc l := by
  by_cases he : (nextR l).err = 0
  · by_cases h5 : (nextR l).kind = 5
    · rw [scanR_end he h5, scanR_end (by rw [next_fill h]; exact he) (by rw [next_fill h]; exact h5), next_fill h]
    · rw [scanR_more he h5, scanR_more (by rw [next_fill h]; exact he) (by rw [next_fill h]; exact h5), next_fill h]
  · rw [scanR_bad he, scanR_bad (by rw [next_fill h]; exact he), next_fill h]
/-- What comes back of a row of tokens: the same, but for their places, and the end. -/
theorem scan_fills (N : Nat) (E : List UInt8) (hE : Fill E) : ∀ (l : List (List UInt8 × Tok)) (acc : List Tk), (∀ y ∈ l, Fill y.1 ∧ PlainT y.2) →
    ∃ P : List Tk, scanR N acc (fillL l ++ E) = (acc ++ P ++ [⟨5, [], N⟩], [], 0) ∧ P.length = l.length ∧ ∀ i (h : i < P.length) (h' : i < l.length), P[i].kind = l[i].2.kind ∧ P[i].text = l[i].2.str.data.toList
  | [], acc, _ => by
    refine ⟨[], ?_, rfl, fun i h => by simp at h⟩
    have e : nextR [] = ⟨5, [], [], [], 0⟩ := by unfold nextR; rw [show skipR false [] = [] by rw [skipR]]; rfl
    have e2 : fillL [] ++ E = E ++ [] := by simp [fillL]
    rw [e2, scan_fill hE, scanR_end (by rw [e]) (by rw [e]), e]
    simp [tkOf]
  | (F, t) :: r, acc, h => by
    obtain ⟨hF, hp⟩ : Fill F ∧ PlainT t := h (F, t) (by simp)
    obtain ⟨b, s, hs, hb⟩ : ∃ b s, fillL r ++ E = b :: s ∧ (b = 32 ∨ b = 9 ∨ b = 10) := by
      cases r with
      | nil =>
        obtain ⟨b, s, e, hb⟩ := hE.head
        exact ⟨b, s, by rw [e]; rfl, hb⟩
      | cons y r =>
        obtain ⟨G, u⟩ := y
        obtain ⟨b, s, e, hb⟩ := (h (G, u) (by simp)).1.head
        simp only at e
        exact ⟨b, s ++ (u.wr ++ fillL r) ++ E, by rw [fillL, e]; simp, hb⟩
    have e : nextR (t.wr ++ (fillL r ++ E)) = ⟨t.kind, t.str.data.toList, t.wr ++ (fillL r ++ E), fillL r ++ E, 0⟩ := by
      rw [hs]
      exact next_blanks hp hb
    have hk := (plain_wr hp).2.2.1
    have h5 : ¬ t.kind = 5 := by omega
    obtain ⟨P, h1, h2, h3⟩ := scan_fills N E hE r (acc ++ [tkOf N ⟨t.kind, t.str.data.toList, t.wr ++ (fillL r ++ E), fillL r ++ E, 0⟩]) (fun y hy => h y (by simp [hy]))
    refine ⟨tkOf N ⟨t.kind, t.str.data.toList, t.wr ++ (fillL r ++ E), fillL r ++ E, 0⟩ :: P, ?_, by simp [h2], ?_⟩
    · have e2 : fillL ((F, t) :: r) ++ E = F ++ (t.wr ++ (fillL r ++ E)) := by simp [fillL]
      rw [e2, scan_fill hF, scanR_more (by rw [e]) (by rw [e]; exact h5), e]
      simp only
      rw [h1]
      simp
    · intro i hi hi'
      cases i with
      | zero => exact ⟨rfl, rfl⟩
      | succ i =>
        simp only [List.getElem_cons_succ]
        exact h3 i (by simpa using hi) (by simpa using hi')
/-- A plain token's text, cut at sixty bytes. -/
theorem plain_cut {k : Int} {x : List UInt8} (h : Plain k x) (hl : 60 < x.length) : Plain k (x.take 60) ∧ k = 3 := by
  rcases h with ⟨rfl, b, r, rfl, _, _, hl2⟩ | ⟨rfl, i, r, rfl, _, hr⟩ | ⟨rfl, _⟩ | ⟨rfl, hx⟩
  · omega
  · rcases hr with rfl | ⟨j, _, rfl⟩ | ⟨j, m, _, _, rfl⟩ <;> simp at hl
  · exact ⟨Or.inr (Or.inr (Or.inl ⟨rfl, by rw [List.length_take]; omega⟩)), rfl⟩
  · have := (signs_ok x hx).2.1
    omega
theorem plain_wr60 {k : Int} {x : List UInt8} (h : Plain k x) (hl : x.length ≤ 60) : (writtenB k x).length ≤ 242 := by
  unfold writtenB
  split
  · have := escs_len x
    simp only [List.length_cons, List.length_append, List.length_nil]
    omega
  · omega
end Go.Proofs.YtaffffhmnlpnnaaDoor
