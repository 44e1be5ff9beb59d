/- A text of tokens with blanks between: what stands ahead, and what is left behind a token. -/
import Derived.Test.YtpcmhbafcgineaaDoorPass
namespace Go.Proofs.YtpcmhbafcgineaaDoor
open Go

def blankB (b : UInt8) : Bool := blanksB.contains b
/-- A token: a word, or one of the three signs. -/
def WordT (a : List UInt8) : Prop := a ≠ [] ∧ a.all wordByte = true
def SignT (a : List UInt8) : Prop := a = [40] ∨ a = [41] ∨ a = [44]
def spell (L : List (List UInt8 × List UInt8)) : List UInt8 := L.flatMap fun p => p.1 ++ p.2
/-- Tokens with blanks behind each; two words have at least one between them. -/
def GoodL : List (List UInt8 × List UInt8) → Prop
  | [] => True
  | (a, g) :: L => (WordT a ∨ SignT a) ∧ g.all blankB = true ∧ (WordT a → g = [] → ∀ p, L.head? = some p → SignT p.1) ∧ GoodL L
theorem sign_facts : ∀ b : UInt8, (b = 40 ∨ b = 41 ∨ b = 44) → blankB b = false ∧ wordByte b = false ∧ (0 : Int) ≤ Lib.indexByte [40, 41, 44] b := by
  rintro b (rfl | rfl | rfl) <;> decide +kernel
theorem blank_facts (b : UInt8) (h : blankB b = true) : wordByte b = false := by
  unfold blankB blanksB at h
  simp only [List.contains_cons, List.contains_nil, Bool.or_false, Bool.or_eq_true, beq_iff_eq] at h
  rcases h with rfl | rfl | rfl | rfl <;> decide +kernel
theorem word_blank (b : UInt8) (h : wordByte b = true) : blankB b = false := by
  cases hb : blankB b
  · rfl
  · rw [blank_facts b hb] at h; cases h
/-- The first byte of what is spelt is no blank. -/
theorem spell_head {L : List (List UInt8 × List UInt8)} (h : GoodL L) : ∀ b, (spell L).head? = some b → blankB b = false := by
  intro b hb
  cases L with
  | nil => simp [spell] at hb
  | cons p L =>
    obtain ⟨a, g⟩ := p
    rcases h.1 with ⟨h1, h2⟩ | h1
    · cases a with
      | nil => exact absurd rfl h1
      | cons c r =>
        simp [spell] at hb
        subst hb
        simp only [List.all_cons, Bool.and_eq_true] at h2
        exact word_blank _ h2.1
    · rcases h1 with rfl | rfl | rfl
      all_goals
        simp [spell] at hb
        subst hb
        decide +kernel
theorem dropWhile_all {p : UInt8 → Bool} : ∀ (g r : List UInt8), g.all p = true → (∀ b, r.head? = some b → p b = false) → (g ++ r).dropWhile p = r
  | [], r, _, h => by
    cases r with
    | nil => rfl
    | cons b r => simp [h b rfl]
  | c :: g, r, hg, h => by
    simp only [List.all_cons, Bool.and_eq_true] at hg
    simp only [List.cons_append, List.dropWhile, hg.1]
    exact dropWhile_all g r hg.2 h
theorem takeWhile_all {p : UInt8 → Bool} : ∀ (g r : List UInt8), g.all p = true → (∀ b, r.head? = some b → p b = false) → (g ++ r).takeWhile p = g
  | [], r, _, h => by
    cases r with
    | nil => rfl
    | cons b r => simp [h b rfl]
  | c :: g, r, hg, h => by
    simp only [List.all_cons, Bool.and_eq_true] at hg
    simp only [List.cons_append, List.takeWhile, hg.1]
    rw [takeWhile_all g r hg.2 h]
/-- What is left of a text at a place. -/
def AtL (t : ByteArray) (p : Nat) (L : List (List UInt8 × List UInt8)) : Prop := p ≤ t.size ∧ t.data.toList.drop p = spell L
theorem AtL.skip {t : ByteArray} {p : Nat} {g : List UInt8} {L : List (List UInt8 × List UInt8)} (hp : p ≤ t.size) (h : t.data.toList.drop p = g ++ spell L) (hg : g.all blankB = true) (hL : GoodL L) : AtL t (skipB t p) L := by
  have e : Lib.trimLeftS (t.data.toList.drop p) blanksB = spell L := by
    rw [h]
    exact dropWhile_all g _ hg (spell_head hL)
  have hl : (t.data.toList.drop p).length = t.size - p := by rw [List.length_drop]; rfl
  have hs : g.length + (spell L).length = t.size - p := by rw [← hl, h, List.length_append]
  refine ⟨skipB_le _ _, ?_⟩
  unfold skipB
  rw [e]
  have e2 : t.size - (spell L).length = p + g.length := by omega
  rw [e2, ← List.drop_drop, h, List.drop_left]
theorem extract_drop (t : ByteArray) (p : Nat) : (t.extract p t.size).data.toList = t.data.toList.drop p := by
  rw [ByteArray.data_extract, Array.toList_extract, List.extract_eq_take_drop]
  rw [List.take_of_length_le]
  rw [List.length_drop]
  exact Nat.le_refl _
theorem extract_front (s : ByteArray) (n : Nat) : (s.extract 0 n).data.toList = s.data.toList.take n := by
  rw [ByteArray.data_extract, Array.toList_extract, List.extract_eq_take_drop]
  simp
theorem bytes_ext {s : ByteArray} {l : List UInt8} (h : s.data.toList = l) : s = ⟨l.toArray⟩ := by
  obtain ⟨⟨l'⟩⟩ := s
  simp at h
  rw [h]
/-- The token ahead, and what is left behind it. -/
theorem AtL.step {t : ByteArray} {p : Nat} {a g : List UInt8} {L : List (List UInt8 × List UInt8)} (h : AtL t p ((a, g) :: L)) (hL : GoodL ((a, g) :: L)) :
    aheadB t p = ⟨a.toArray⟩ ∧ p + a.length ≤ t.size ∧ AtL t (skipB t (p + a.length)) L := by
  obtain ⟨hp, hd⟩ := h
  obtain ⟨ht, hg, hn, hr⟩ := hL
  have hsp : spell ((a, g) :: L) = a ++ (g ++ spell L) := by simp [spell]
  rw [hsp] at hd
  have hl : (t.data.toList.drop p).length = t.size - p := by rw [List.length_drop]; rfl
  have hlen : a.length + (g.length + (spell L).length) = t.size - p := by rw [← hl, hd, List.length_append, List.length_append]
  have hx := extract_drop t p
  rw [hd] at hx
  have ha0 : 0 < a.length := by
    rcases ht with h1 | h1
    · exact List.length_pos_iff.2 h1.1
    · rcases h1 with rfl | rfl | rfl <;> decide
  refine ⟨?_, by omega, ?_⟩
  · rcases ht with h1 | h1
    · have hw : (t.extract p t.size).data.toList.takeWhile wordByte = a := by
        rw [hx]
        refine takeWhile_all a _ h1.2 ?_
        intro b hb
        cases g with
        | cons c g =>
          simp at hb
          subst hb
          simp only [List.all_cons, Bool.and_eq_true] at hg
          exact blank_facts _ hg.1
        | nil =>
          cases L with
          | nil => simp [spell] at hb
          | cons q L =>
            rcases hn h1 rfl q rfl with h2 | h2 | h2
            all_goals
              simp [spell, h2] at hb
              subst hb
              decide +kernel
      have hwl : wordLen (t.extract p t.size) = a.length := by unfold wordLen; rw [hw]
      unfold aheadB
      simp only
      rw [hwl, if_pos ha0]
      refine bytes_ext ?_
      rw [extract_front, hx, List.take_left]
    · have hb : ∃ c, a = [c] ∧ (c = 40 ∨ c = 41 ∨ c = 44) := by
        rcases h1 with rfl | rfl | rfl
        · exact ⟨_, rfl, Or.inl rfl⟩
        · exact ⟨_, rfl, Or.inr (Or.inl rfl)⟩
        · exact ⟨_, rfl, Or.inr (Or.inr rfl)⟩
      obtain ⟨c, rfl, hc⟩ := hb
      obtain ⟨_, f2, f3⟩ := sign_facts c hc
      have hwl : wordLen (t.extract p t.size) = 0 := by
        unfold wordLen
        rw [hx]
        simp [f2]
      unfold aheadB
      simp only
      rw [hwl, if_neg (by omega), hx]
      simp only [List.cons_append, List.nil_append, List.head?_cons]
      rw [if_pos f3]
      refine bytes_ext ?_
      rw [extract_front, hx]
      rfl
  · refine AtL.skip (g := g) (by omega) ?_ hg hr
    rw [← List.drop_drop, hd, List.drop_left]
theorem AtL.tokens {t : ByteArray} {p : Nat} {L : List (List UInt8 × List UInt8)} (h : AtL t p L) : p ≤ t.size := h.1
/-- At the end of the text. -/
theorem AtL.done {t : ByteArray} {p : Nat} (h : AtL t p []) : p = t.size := by
  have hl : (t.data.toList.drop p).length = t.size - p := by rw [List.length_drop]; rfl
  rw [h.2] at hl
  simp [spell] at hl
  have := h.1
  omega
end Go.Proofs.YtpcmhbafcgineaaDoor
