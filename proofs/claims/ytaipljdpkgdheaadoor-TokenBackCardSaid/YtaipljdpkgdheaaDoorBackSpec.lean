/- The text of plain tokens, scanned back: every token in its place. -/
import Derived.Test.YtaipljdpkgdheaaDoorPlain
namespace Go.Proofs.YtaipljdpkgdheaaDoor
open Go Go.RowKit

/-- A plain token that is handed in. -/
def PlainT (t : Tok) : Prop := Plain t.kind t.str.data.toList
/-- What stands behind a token. -/
def tailG (ts : List Tok) : List UInt8 := if ts = [] then [] else 32 :: joinL (ts.map Tok.wr)
theorem joinL_cons (t : Tok) (ts : List Tok) : joinL ((t :: ts).map Tok.wr) = t.wr ++ tailG ts := by
  cases ts with
  | nil => simp [joinL, tailG]
  | cons a r => simp [joinL, tailG]
theorem tail_gap (ts : List Tok) : Gap (tailG ts) := by
  cases ts with
  | nil => exact Or.inl rfl
  | cons a r => exact Or.inr ⟨joinL ((a :: r).map Tok.wr), rfl⟩
theorem plain_wr {k : Int} {x : List UInt8} (h : Plain k x) : writtenB k x ≠ [] ∧ (writtenB k x).length ≤ 802 ∧ (k = 1 ∨ k = 2 ∨ k = 3 ∨ k = 4) ∧ (k ≠ 3 → writtenB k x = x) := by
  rcases h with ⟨rfl, b, r, rfl, _, _, hl⟩ | ⟨rfl, i, r, rfl, hi, hr⟩ | ⟨rfl, hl⟩ | ⟨rfl, hx⟩
  · have e : writtenB 1 (b :: r) = b :: r := rfl
    rw [e]
    exact ⟨by simp, by omega, Or.inl rfl, fun _ => rfl⟩
  · have e : writtenB 2 (UInt8.ofNat (49 + i) :: r) = UInt8.ofNat (49 + i) :: r := rfl
    rw [e]
    refine ⟨by simp, ?_, Or.inr (Or.inl rfl), fun _ => rfl⟩
    rcases hr with rfl | ⟨j, _, rfl⟩ | ⟨j, m, _, _, rfl⟩ <;> simp
  · have e : writtenB 3 x = 34 :: (x.flatMap escB ++ [34]) := rfl
    rw [e]
    refine ⟨by simp, ?_, Or.inr (Or.inr (Or.inl rfl)), fun h => absurd rfl h⟩
    have := escs_len x
    simp only [List.length_cons, List.length_append, List.length_nil]
    omega
  · have e : writtenB 4 x = x := rfl
    rw [e]
    obtain ⟨_, h2, h3⟩ := signs_ok x hx
    exact ⟨h3, by omega, Or.inr (Or.inr (Or.inr rfl)), fun _ => rfl⟩
theorem next_blank (l : List UInt8) : nextR (32 :: l) = nextR l := by
  unfold nextR
  rw [skip_blank (by decide)]
theorem scan_blank (n : Nat) (acc : List Tk) (l : List UInt8) : scanR n acc (32 :: l) = scanR n acc l := by
  by_cases h : (nextR l).err = 0
  · by_cases h5 : (nextR l).kind = 5
    · rw [scanR_end h h5, scanR_end (by rw [next_blank]; exact h) (by rw [next_blank]; exact h5), next_blank]
    · rw [scanR_more h h5, scanR_more (by rw [next_blank]; exact h) (by rw [next_blank]; exact h5), next_blank]
  · rw [scanR_bad h, scanR_bad (by rw [next_blank]; exact h), next_blank]
theorem scan_tail (n : Nat) (acc : List Tk) (ts : List Tok) : scanR n acc (tailG ts) = scanR n acc (joinL (ts.map Tok.wr)) := by
  cases ts with
  | nil => rfl
  | cons a r => exact scan_blank _ _ _
/-- The tokens in a text of N bytes, with their places. -/
def placed (N : Nat) : List Tok → List Tk
  | [] => []
  | t :: r => ⟨t.kind, t.str.data.toList, N - (joinL ((t :: r).map Tok.wr)).length⟩ :: placed N r
theorem placed_len (N : Nat) : ∀ ts, (placed N ts).length = ts.length
  | [] => rfl
  | t :: r => by simp [placed, placed_len N r]
theorem scan_plain (N : Nat) : ∀ (ts : List Tok) (acc : List Tk), (∀ t ∈ ts, PlainT t) → scanR N acc (joinL (ts.map Tok.wr)) = (acc ++ placed N ts ++ [⟨5, [], N⟩], [], 0)
  | [], acc, _ => by
    show scanR N acc [] = _
    have e : nextR [] = ⟨5, [], [], [], 0⟩ := by unfold nextR; rw [show skipR false [] = [] by rw [skipR]]; rfl
    rw [scanR_end (by rw [e]) (by rw [e]), e]
    simp [placed, tkOf]
  | t :: r, acc, h => by
    have hp : PlainT t := h t (by simp)
    have e : nextR (t.wr ++ tailG r) = ⟨t.kind, t.str.data.toList, t.wr ++ tailG r, tailG r, 0⟩ := next_plain hp (tail_gap r)
    have hk := (plain_wr hp).2.2.1
    have h5 : ¬ t.kind = 5 := by omega
    rw [joinL_cons, scanR_more (by rw [e]) (by rw [e]; exact h5), e]
    simp only
    rw [scan_tail, scan_plain N r _ (fun x hx => h x (by simp [hx])), placed, joinL_cons]
    simp [tkOf]
theorem placed_get (N : Nat) : ∀ (ts : List Tok) (i : Nat) (h : i < ts.length), (placed N ts)[i]? = some ⟨ts[i].kind, ts[i].str.data.toList, N - (joinL ((ts.drop i).map Tok.wr)).length⟩
  | [], i, h => by simp at h
  | t :: r, 0, h => rfl
  | t :: r, i + 1, h => by
    have := placed_get N r i (by simpa using h)
    simpa [placed] using this
theorem tail_suffix (ts : List Tok) : joinL (ts.map Tok.wr) <:+ tailG ts := by
  cases ts with
  | nil => exact List.suffix_refl _
  | cons a r => exact List.suffix_cons _ _
theorem drop_suffix_join (ts : List Tok) : ∀ i, joinL ((ts.drop i).map Tok.wr) <:+ joinL (ts.map Tok.wr) := by
  induction ts with
  | nil => intro i; simp
  | cons t r ih =>
    intro i
    cases i with
    | zero => exact List.suffix_refl _
    | succ i =>
      rw [List.drop_succ_cons, joinL_cons]
      exact ((ih i).trans (tail_suffix r)).trans (List.suffix_append _ _)
/-- What the law asks of the tokens that came back. -/
structure Back (S : List UInt8) (ts : List Tok) (M : List Tk) : Prop where
  len : M.length = ts.length + 1
  same : ∀ i (h : i < ts.length) (h' : i < M.length), M[i].kind = ts[i].kind ∧ M[i].text = ts[i].str.data.toList
  last : ∀ h : ts.length < M.length, M[ts.length] = ⟨5, [], S.length⟩
  le : ∀ i (h : i < M.length), M[i].pos ≤ S.length
  less : ∀ i (h : i + 1 < M.length), M[i].pos < M[i + 1].pos
  there : ∀ i (h : i < M.length), (M[i].kind = 1 ∨ M[i].kind = 2 ∨ M[i].kind = 4) → M[i].pos + M[i].text.length ≤ S.length ∧ (S.drop M[i].pos).take M[i].text.length = M[i].text
  kinds : ∀ i (h : i < M.length), M[i].kind = 1 ∨ M[i].kind = 2 ∨ M[i].kind = 3 ∨ M[i].kind = 4 ∨ M[i].kind = 5
theorem back_of (ts : List Tok) (hp : ∀ t ∈ ts, PlainT t) : Back (joinL (ts.map Tok.wr)) ts (placed (joinL (ts.map Tok.wr)).length ts ++ [⟨5, [], (joinL (ts.map Tok.wr)).length⟩]) := by
  obtain ⟨S, hS⟩ : ∃ S, S = joinL (ts.map Tok.wr) := ⟨_, rfl⟩
  rw [← hS]
  obtain ⟨P, hP⟩ : ∃ P, P = placed S.length ts := ⟨_, rfl⟩
  rw [← hP]
  have hPl : P.length = ts.length := by rw [hP, placed_len]
  have hML : (P ++ [(⟨5, [], S.length⟩ : Tk)]).length = ts.length + 1 := by rw [List.length_append, hPl]; rfl
  have get : ∀ i (h : i < ts.length) (h' : i < (P ++ [(⟨5, [], S.length⟩ : Tk)]).length), (P ++ [(⟨5, [], S.length⟩ : Tk)])[i] = ⟨ts[i].kind, ts[i].str.data.toList, S.length - (joinL ((ts.drop i).map Tok.wr)).length⟩ := by
    intro i h h'
    have h1 := placed_get S.length ts i h
    rw [← hP, List.getElem?_eq_getElem (by omega)] at h1
    rw [List.getElem_append_left (by omega)]
    exact Option.some.inj h1
  have lst : ∀ h : ts.length < (P ++ [(⟨5, [], S.length⟩ : Tk)]).length, (P ++ [(⟨5, [], S.length⟩ : Tk)])[ts.length] = ⟨5, [], S.length⟩ := by
    intro h
    rw [List.getElem_append_right (by omega)]
    simp [hPl]
  have suf : ∀ i, joinL ((ts.drop i).map Tok.wr) <:+ S := fun i => hS ▸ drop_suffix_join ts i
  have step : ∀ i (h : i < ts.length), joinL ((ts.drop i).map Tok.wr) = ts[i].wr ++ tailG (ts.drop (i + 1)) := by
    intro i h
    rw [List.drop_eq_getElem_cons h, joinL_cons]
  have wr := fun i (h : i < ts.length) => plain_wr (hp ts[i] (List.getElem_mem h))
  have low : ∀ i (h : i < ts.length), (joinL ((ts.drop (i + 1)).map Tok.wr)).length < (joinL ((ts.drop i).map Tok.wr)).length := by
    intro i h
    rw [step i h, List.length_append]
    have h1 := (tail_suffix (ts.drop (i + 1))).length_le
    have h2 := List.length_pos_iff.2 (show ts[i].wr ≠ [] from (wr i h).1)
    omega
  have cut : ∀ i, i < (P ++ [(⟨5, [], S.length⟩ : Tk)]).length → i < ts.length ∨ i = ts.length := by intro i h; omega
  refine ⟨hML, ?_, lst, ?_, ?_, ?_, ?_⟩
  · intro i h h'
    rw [get i h h']
    exact ⟨rfl, rfl⟩
  · intro i h
    rcases cut i h with hi | rfl
    · rw [get i hi h]; simp
    · rw [lst h]; exact Nat.le_refl _
  · intro i h
    have hi : i < ts.length := by omega
    rw [get i hi (by omega)]
    have h1 := low i hi
    have h2 := (suf i).length_le
    rcases cut (i + 1) h with hj | hj
    · rw [get (i + 1) hj h]
      simp only
      omega
    · have : (P ++ [(⟨5, [], S.length⟩ : Tk)])[i + 1] = ⟨5, [], S.length⟩ := by
        have := lst (by omega)
        simpa [hj] using this
      rw [this]
      simp only
      omega
  · intro i h hk
    rcases cut i h with hi | rfl
    · rw [get i hi h] at hk ⊢
      simp only at hk ⊢
      have hne : ts[i].kind ≠ 3 := by omega
      have hw : ts[i].wr = ts[i].str.data.toList := (wr i hi).2.2.2 hne
      have h1 := step i hi
      rw [hw] at h1
      obtain ⟨pre, hpre⟩ := suf i
      have h2 : S.length - (joinL ((ts.drop i).map Tok.wr)).length = pre.length := by rw [← hpre, List.length_append]; omega
      rw [h2]
      refine ⟨?_, ?_⟩
      · rw [← hpre, h1]
        simp only [List.length_append]
        omega
      · rw [← hpre, List.drop_left, h1, List.take_left]
    · rw [lst h] at hk
      simp only at hk
      omega
  · intro i h
    rcases cut i h with hi | rfl
    · rw [get i hi h]
      have := (wr i hi).2.2.1
      simp only
      omega
    · rw [lst h]
      simp
/-- Four plain tokens are no long text. -/
theorem plain_short (ts : List Tok) (hp : ∀ t ∈ ts, PlainT t) : (joinL (ts.map Tok.wr)).length ≤ 803 * ts.length := by
  induction ts with
  | nil => simp [joinL]
  | cons t r ih =>
    rw [joinL_cons, List.length_append]
    have h1 := (plain_wr (hp t (by simp))).2.1
    have h2 := ih (fun x hx => hp x (by simp [hx]))
    have h3 : (tailG r).length ≤ (joinL (r.map Tok.wr)).length + 1 := by
      cases r with
      | nil => simp [tailG]
      | cons a r => exact Nat.le_refl _
    have h4 : t.wr.length ≤ 802 := h1
    simp only [List.length_cons]
    omega
end Go.Proofs.YtaipljdpkgdheaaDoor
