/- The tokens of a declaration. No function of the program is named here. -/
import Derived.Test.YtpcmhbafcgineaaDoorSpell
import Derived.Test.YtpcmhbafcgineaaDoorTypedSpec
import Derived.Test.YtpcmhbafcgineaaDoorWords
namespace Go.Proofs.YtpcmhbafcgineaaDoor
open Go

/-- An attribute as it is spelt: its name and kind; the blanks behind the name, behind the kind, behind the comma. -/
structure SpA where
  n : ByteArray
  k : Nat
  g1 : List UInt8
  g2 : List UInt8
  g3 : List UInt8
def kwL (k : Nat) : List UInt8 := (kindWordB (k : Int)).data.toList
def SpA.attr (x : SpA) : Attr := (x.n, (x.k : Int))
/-- Its tokens behind those ahead of it, e being those of the end. -/
def toksA (e : List (List UInt8 × List UInt8)) : List SpA → List (List UInt8 × List UInt8)
  | [] => e
  | [x] => (x.n.data.toList, x.g1) :: (kwL x.k, x.g2) :: e
  | x :: y :: l => (x.n.data.toList, x.g1) :: (kwL x.k, x.g2) :: ([44], x.g3) :: toksA e (y :: l)
structure SpA.Good (x : SpA) : Prop where
  name : attrNameB x.n = true
  k1 : 1 ≤ x.k
  k3 : x.k ≤ 3
  b1 : x.g1.all blankB = true
  n1 : x.g1 ≠ []
  b2 : x.g2.all blankB = true
  b3 : x.g3.all blankB = true
theorem mem_takeWhile {p : UInt8 → Bool} {b : UInt8} : ∀ l : List UInt8, b ∈ l.takeWhile p → p b = true
  | [], h => by simp at h
  | c :: l, h => by
    cases hc : p c
    · simp [List.takeWhile, hc] at h
    · simp only [List.takeWhile, hc, List.mem_cons] at h
      rcases h with rfl | h
      · exact hc
      · exact mem_takeWhile l h
theorem word_tok {s : ByteArray} (h : isWordB s = true) : WordT s.data.toList := by
  unfold isWordB at h
  simp only [Bool.and_eq_true, decide_eq_true_eq] at h
  refine ⟨fun e => ?_, ?_⟩
  · have : s.size = 0 := by show s.data.toList.length = 0; rw [e]; rfl
    omega
  · rw [List.all_eq_true]
    intro b hb
    have e : s.data.toList.takeWhile wordByte = s.data.toList := List.IsPrefix.eq_of_length (List.takeWhile_prefix _) h.2
    rw [← e] at hb
    exact mem_takeWhile _ hb
theorem name_isWord {s : ByteArray} (h : nameB s = true) : isWordB s = true := by
  unfold nameB at h
  simp only [Bool.and_eq_true] at h
  exact h.1.1.2
theorem kw_word (k : Nat) (h1 : 1 ≤ k) (h3 : k ≤ 3) : WordT (kwL k) := by
  have h' : k = 1 ∨ k = 2 ∨ k = 3 := by omega
  rcases h' with rfl | rfl | rfl
  all_goals exact ⟨by decide, by decide +kernel⟩
theorem toks_good (e : List (List UInt8 × List UInt8)) (he : GoodL e) (hs : ∀ p, e.head? = some p → SignT p.1) : ∀ l : List SpA, (∀ x ∈ l, x.Good) → GoodL (toksA e l)
  | [], _ => he
  | [x], h => by
    have hx := h x (by simp)
    refine ⟨Or.inl (word_tok (name_isWord (attr_name hx.name))), hx.b1, fun _ e => absurd e hx.n1, Or.inl (kw_word _ hx.k1 hx.k3), hx.b2, fun _ _ => hs, he⟩
  | x :: y :: l, h => by
    have hx := h x (by simp)
    have ih := toks_good e he hs (y :: l) (fun z hz => h z (by simp only [List.mem_cons] at hz ⊢; exact Or.inr hz))
    refine ⟨Or.inl (word_tok (name_isWord (attr_name hx.name))), hx.b1, fun _ e => absurd e hx.n1, Or.inl (kw_word _ hx.k1 hx.k3), hx.b2, fun _ _ p hp => ?_, Or.inr (Or.inr (Or.inr rfl)), hx.b3, fun hw _ => absurd hw.2 (by decide +kernel), ih⟩
    simp at hp
    subst hp
    exact Or.inr (Or.inr rfl)
theorem toks_cons (e : List (List UInt8 × List UInt8)) (x : SpA) (l : List SpA) : ∃ L, toksA e (x :: l) = (x.n.data.toList, x.g1) :: (kwL x.k, x.g2) :: L ∧ (l = [] → L = e) ∧ (∀ y r, l = y :: r → L = ([44], x.g3) :: toksA e l) := by
  cases l with
  | nil => exact ⟨e, rfl, fun _ => rfl, (fun y r h => by cases h)⟩
  | cons y r => exact ⟨_, rfl, (fun h => by cases h), fun _ _ _ => rfl⟩

/-- All tokens of a declaration. -/
def declToks (g0 g1 g2 ge : List UInt8) (n : ByteArray) (l : List SpA) : List (List UInt8 × List UInt8) := ([84, 89, 80, 69], g0) :: (n.data.toList, g1) :: ([40], g2) :: toksA [([41], ge)] l
theorem decl_good (g0 g1 g2 ge : List UInt8) (n : ByteArray) (l : List SpA) (hn : nameB n = true) (hl : ∀ x ∈ l, x.Good) (h0 : g0.all blankB = true) (h00 : g0 ≠ []) (h1 : g1.all blankB = true) (h2 : g2.all blankB = true) (he : ge.all blankB = true) : GoodL (declToks g0 g1 g2 ge n l) := by
  have hge : GoodL [([41], ge)] := ⟨Or.inr (Or.inr (Or.inl rfl)), he, (fun _ _ p hp => by cases hp), trivial⟩
  refine ⟨Or.inl ⟨by decide, by decide +kernel⟩, h0, fun _ e => absurd e h00, Or.inl (word_tok (name_isWord hn)), h1, fun _ _ p hp => ?_, Or.inr (Or.inl rfl), h2, fun hw _ => absurd hw.2 (by decide +kernel), toks_good _ hge (fun p hp => by simp at hp; subst hp; exact Or.inr (Or.inl rfl)) l hl⟩
  simp at hp
  subst hp
  exact Or.inl rfl
end Go.Proofs.YtpcmhbafcgineaaDoor
