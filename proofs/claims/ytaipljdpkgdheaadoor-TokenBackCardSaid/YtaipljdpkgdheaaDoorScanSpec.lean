/- Package token, the document's words: a text of tokens. -/
import Derived.Test.YtaipljdpkgdheaaDoorNextSpec
namespace Go.Proofs.YtaipljdpkgdheaaDoor
open Go Go.RowKit

/-- A token: its kind, its bytes, its place. -/
structure Tk where
  kind : Int
  text : List UInt8
  pos : Nat
def tkOf (n : Nat) (T : TokX) : Tk := ⟨T.kind, T.text, n - T.start.length⟩
/-- The tokens of a text; of a fault what stands from it on, and the error. -/
def scanR (n : Nat) (acc : List Tk) (l : List UInt8) : List Tk × List UInt8 × Int :=
  if (nextR l).err ≠ 0 then ([], (nextR l).start, (nextR l).err)
  else if (nextR l).kind = 5 then (acc ++ [tkOf n (nextR l)], [], 0)
  else if _h : (nextR l).rest.length < l.length then scanR n (acc ++ [tkOf n (nextR l)]) (nextR l).rest else ([], [], 0)
  termination_by l.length
  decreasing_by assumption
theorem str_rest : ∀ (n : Nat) (acc l : List UInt8), l.length ≤ n → (strR acc l).rest.length ≤ l.length := by
  intro n
  induction n with
  | zero =>
    intro acc l hl
    obtain rfl : l = [] := List.eq_nil_of_length_eq_zero (by omega)
    rw [strR_nil]
    exact Nat.le_refl _
  | succ n ih =>
    intro acc l hl
    cases l with
    | nil => rw [strR_nil]; exact Nat.le_refl _
    | cons b r =>
      by_cases h1 : b = 34
      · subst h1; rw [strR_end]; simp
      by_cases h2 : (charR (b :: r)).2.2 = 52
      · rw [strR_open h1 h2]; simp
      by_cases h3 : (charR (b :: r)).2.2 = 0
      · by_cases h4 : acc.length = 256
        · rw [strR_long h1 h3 h4]; simp
        · rw [strR_more h1 h3 h4]
          have := char_size h3
          have h5 := ih (acc ++ [(charR (b :: r)).1]) ((b :: r).drop (charR (b :: r)).2.1) (by
            rw [List.length_drop]
            simp only [List.length_cons] at hl this ⊢
            omega)
          rw [List.length_drop] at h5
          omega
      · rw [strR_bad h1 h2 h3]; exact Nat.le_refl _
/-- What next leaves: less of the text, unless it is the end. -/
theorem one_rest (l : List UInt8) (h : (oneR l).err = 0) (h5 : (oneR l).kind ≠ 5) : (oneR l).rest.length < l.length ∧ (oneR l).start = l := by
  cases l with
  | nil => exact absurd rfl h5
  | cons b r =>
    have hw : wordByte b = true → 0 < (wordL (b :: r)).length := by
      intro hb
      unfold wordL
      rw [List.takeWhile_cons, hb]
      simp
    unfold oneR at h h5 ⊢
    simp only at h h5 ⊢
    by_cases h1 : letU b = true
    · simp only [h1, if_true] at h h5 ⊢
      have hwb := hw (by unfold wordByte; rw [Bool.or_eq_true]; exact Or.inr h1)
      split at h
      · rename_i h2
        rw [if_pos h2]
        simp only [List.length_drop, List.length_cons]
        exact ⟨by omega, trivial⟩
      · simp [faultX] at h
    · simp only [h1, Bool.false_eq_true, if_false] at h h5 ⊢
      by_cases h2 : digU b = true
      · simp only [h2, if_true] at h h5 ⊢
        have hwb := hw (by unfold wordByte; rw [Bool.or_eq_true]; exact Or.inl h2)
        split at h
        · rename_i h3
          rw [if_pos h3]
          simp only [List.length_drop, List.length_cons]
          exact ⟨by omega, trivial⟩
        · simp [faultX] at h
      · simp only [h2, Bool.false_eq_true, if_false] at h h5 ⊢
        by_cases h3 : b = 34
        · simp only [h3, if_true] at h h5 ⊢
          by_cases h4 : (strR [] r).err = 0
          · simp only [h4, if_true] at h h5 ⊢
            have := str_rest _ [] r (Nat.le_refl _)
            simp only [List.length_cons]
            exact ⟨by omega, trivial⟩
          · simp only [h4, if_false, faultX] at h
        · simp only [h3, if_false] at h h5 ⊢
          by_cases h4 : signR (b :: r) ≠ 0
          · rw [if_pos h4]
            simp only [List.length_drop, List.length_cons]
            exact ⟨by omega, trivial⟩
          · rw [if_neg h4] at h
            simp [faultX] at h
theorem next_rest (l : List UInt8) (h : (nextR l).err = 0) (h5 : (nextR l).kind ≠ 5) : (nextR l).rest.length < l.length := by
  have := (one_rest _ h h5).1
  have := skip_len false l
  unfold nextR at *
  omega
theorem str_suffix : ∀ (n : Nat) (acc l : List UInt8), l.length ≤ n → (strR acc l).rest <:+ l := by
  intro n
  induction n with
  | zero =>
    intro acc l hl
    obtain rfl : l = [] := List.eq_nil_of_length_eq_zero (by omega)
    rw [strR_nil]
    exact List.suffix_refl _
  | succ n ih =>
    intro acc l hl
    cases l with
    | nil => rw [strR_nil]; exact List.suffix_refl _
    | cons b r =>
      by_cases h1 : b = 34
      · subst h1; rw [strR_end]; exact List.suffix_cons _ _
      by_cases h2 : (charR (b :: r)).2.2 = 52
      · rw [strR_open h1 h2]; exact List.nil_suffix
      by_cases h3 : (charR (b :: r)).2.2 = 0
      · by_cases h4 : acc.length = 256
        · rw [strR_long h1 h3 h4]; exact List.nil_suffix
        · rw [strR_more h1 h3 h4]
          have := char_size h3
          have h5 := ih (acc ++ [(charR (b :: r)).1]) ((b :: r).drop (charR (b :: r)).2.1) (by
            rw [List.length_drop]
            simp only [List.length_cons] at hl this ⊢
            omega)
          exact h5.trans (List.drop_suffix _ _)
      · rw [strR_bad h1 h2 h3]; exact List.suffix_refl _
theorem skip_suffix : ∀ (m : Bool) (l : List UInt8), skipR m l <:+ l
  | _, [] => by rw [skipR]; exact List.suffix_refl _
  | true, b :: r => by
    have h1 := skip_suffix true r
    have h2 := skip_suffix false r
    unfold skipR
    split
    · exact h2.trans (List.suffix_cons _ _)
    · exact h1.trans (List.suffix_cons _ _)
  | false, b :: r => by
    have h1 := skip_suffix true r
    have h2 := skip_suffix false r
    unfold skipR
    split
    · exact h2.trans (List.suffix_cons _ _)
    · split
      · exact h1.trans (List.suffix_cons _ _)
      · exact List.suffix_refl _
theorem one_suffix (l : List UInt8) : (oneR l).rest <:+ l := by
  cases l with
  | nil => exact List.suffix_refl _
  | cons b r =>
    unfold oneR
    simp only
    split
    · split
      · exact List.drop_suffix _ _
      · exact List.nil_suffix
    split
    · split
      · exact List.drop_suffix _ _
      · exact List.nil_suffix
    split
    · split
      · exact (str_suffix _ [] r (Nat.le_refl _)).trans (List.suffix_cons _ _)
      · exact List.nil_suffix
    split
    · exact List.drop_suffix _ _
    · exact List.nil_suffix
theorem next_suffix (l : List UInt8) : (nextR l).rest <:+ l := (one_suffix _).trans (skip_suffix false l)
theorem scanR_bad {n : Nat} {acc : List Tk} {l : List UInt8} (h : (nextR l).err ≠ 0) : scanR n acc l = ([], (nextR l).start, (nextR l).err) := by unfold scanR; rw [if_pos h]
theorem scanR_end {n : Nat} {acc : List Tk} {l : List UInt8} (h : (nextR l).err = 0) (h5 : (nextR l).kind = 5) : scanR n acc l = (acc ++ [tkOf n (nextR l)], [], 0) := by unfold scanR; rw [if_neg (by simp [h]), if_pos h5]
theorem scanR_more {n : Nat} {acc : List Tk} {l : List UInt8} (h : (nextR l).err = 0) (h5 : ¬ (nextR l).kind = 5) : scanR n acc l = scanR n (acc ++ [tkOf n (nextR l)]) (nextR l).rest := by
  conv => lhs; unfold scanR
  rw [if_neg (by simp [h]), if_neg h5, dif_pos (next_rest l h h5)]
def Tk.cells (x : Tk) : List Value := [.int .i64 x.kind, .string ⟨x.text.toArray⟩, .int .i64 x.pos]
def tkCells (l : List Tk) : List Value := l.flatMap Tk.cells
theorem tkCells_snoc (l : List Tk) (x : Tk) : tkCells (l ++ [x]) = tkCells l ++ x.cells := by simp [tkCells]
theorem tkCells_length (l : List Tk) : (tkCells l).length = l.length * 3 := by
  induction l with
  | nil => rfl
  | cons a r ih =>
    simp only [tkCells, List.flatMap_cons, List.length_append, List.length_cons, Tk.cells, List.length_nil] at ih ⊢
    omega
theorem tkCells_get (l : List Tk) (i : Nat) (h : i < l.length) : (tkCells l)[i * 3]? = some (.int .i64 l[i].kind) ∧ (tkCells l)[i * 3 + 1]? = some (.string ⟨l[i].text.toArray⟩) ∧ (tkCells l)[i * 3 + 2]? = some (.int .i64 l[i].pos) := by
  induction l generalizing i with
  | nil => simp at h
  | cons a r ih =>
    cases i with
    | zero => simp [tkCells, Tk.cells]
    | succ i =>
      have := ih i (by simpa using h)
      have e1 : (i + 1) * 3 = i * 3 + 3 := by omega
      rw [e1]
      simp only [tkCells, Tk.cells, List.flatMap_cons, List.cons_append, List.nil_append, List.getElem_cons_succ] at this ⊢
      exact ⟨this.1, this.2.1, this.2.2⟩
/-- The place that Scan tells. -/
def scanAt (n : Nat) (R : List Tk × List UInt8 × Int) : Int := if R.2.2 = 0 then 0 else ((n - R.2.1.length : Nat) : Int)
theorem Tryd.infoTok : (Tryd.prog.info? 28).map (fun i => (i.zero, i.size, i.bytes)) = some (some (.agg #[.int .i64 0, .string ⟨#[]⟩, .int .i64 0]), 3, 32) := by kernel_rfl
end Go.Proofs.YtaipljdpkgdheaaDoor
