/- Tokens of the plainest kinds: they can be, and their text is read back. -/
import Derived.Test.YtaipljdpkgdheaaDoorSpell
import Derived.Test.YtaipljdpkgdheaaDoorLimSpec
namespace Go.Proofs.YtaipljdpkgdheaaDoor
open Go Go.RowKit

def signsL : List (List UInt8) := [[40], [41], [91], [93], [123], [125], [44], [46], [46, 46], [43], [45], [42], [61], [33, 61], [60], [60, 61], [62], [62, 61], [33]]
/-- The plainest tokens. -/
def Plain (k : Int) (x : List UInt8) : Prop :=
  (k = 1 ∧ ∃ b r, x = b :: r ∧ letU b = true ∧ (∀ c ∈ r, wordByte c = true) ∧ x.length ≤ 32) ∨
  (k = 2 ∧ ∃ i r, x = UInt8.ofNat (49 + i) :: r ∧ i < 9 ∧ (r = [] ∨ (∃ j, j < 10 ∧ r = [UInt8.ofNat (48 + j)]) ∨ ∃ j m, j < 10 ∧ m < 10 ∧ r = [UInt8.ofNat (48 + j), UInt8.ofNat (48 + m)])) ∨
  (k = 3 ∧ x.length ≤ 200) ∨ (k = 4 ∧ x ∈ signsL)
/-- What may stand behind a token. -/
def Gap (r : List UInt8) : Prop := r = [] ∨ ∃ s, r = 32 :: s
theorem wordL_gap : ∀ {x r : List UInt8}, (∀ b ∈ x, wordByte b = true) → Gap r → wordL (x ++ r) = x
  | [], r, _, hr => by
    rcases hr with rfl | ⟨s, rfl⟩
    · rfl
    · rfl
  | b :: x, r, h, hr => by
    have ih := wordL_gap (x := x) (r := r) (fun c hc => h c (by simp [hc])) hr
    unfold wordL at ih ⊢
    rw [List.cons_append, List.takeWhile_cons, h b (by simp)]
    simp only [if_true]
    rw [ih]
theorem itoa_nat (n : Nat) : Lib.itoa (n : Int) = Lib.decDigits n := by
  unfold Lib.itoa
  rw [if_neg (by omega), Int.toNat_natCast]
theorem num_of_itoa {l : List UInt8} {n : Nat} (h : l = Lib.itoa (n : Int)) (hn : n ≤ 1000) (hl : l.length ≤ 19) (ha : l.all digU = true) : numB l = true := by
  rw [num_all hl ha, h, atoi_itoa (n : Int) (by omega) (by omega)]
  exact beq_self_eq_true _
theorem digU_of : ∀ j : Fin 10, digU (UInt8.ofNat (48 + j.val)) = true ∧ wordByte (UInt8.ofNat (48 + j.val)) = true ∧ letU (UInt8.ofNat (48 + j.val)) = false ∧ blankU (UInt8.ofNat (48 + j.val)) = false ∧ UInt8.ofNat (48 + j.val) ≠ 45 := by decide +kernel
theorem mem1 {p : UInt8 → Bool} {a : UInt8} (ha : p a = true) : ∀ c ∈ [a], p c = true := fun c hc => by rw [List.mem_singleton.1 hc]; exact ha
theorem mem2 {p : UInt8 → Bool} {a b : UInt8} (ha : p a = true) (hb : p b = true) : ∀ c ∈ [a, b], p c = true := fun c hc => by
  rcases List.mem_cons.1 hc with rfl | hc
  · exact ha
  · exact mem1 hb c hc
theorem mem3 {p : UInt8 → Bool} {a b d : UInt8} (ha : p a = true) (hb : p b = true) (hd : p d = true) : ∀ c ∈ [a, b, d], p c = true := fun c hc => by
  rcases List.mem_cons.1 hc with rfl | hc
  · exact ha
  · exact mem2 hb hd c hc
theorem num_plain {i : Nat} {r : List UInt8} (hi : i < 9) (hr : r = [] ∨ (∃ j, j < 10 ∧ r = [UInt8.ofNat (48 + j)]) ∨ ∃ j m, j < 10 ∧ m < 10 ∧ r = [UInt8.ofNat (48 + j), UInt8.ofNat (48 + m)]) :
    numB (UInt8.ofNat (49 + i) :: r) = true ∧ (∀ c ∈ UInt8.ofNat (49 + i) :: r, wordByte c = true) ∧ (UInt8.ofNat (49 + i) :: r).length ≤ 3 := by
  have e : 49 + i = 48 + (i + 1) := by omega
  rw [e]
  obtain ⟨a1, a2, _⟩ := digU_of ⟨i + 1, by omega⟩
  simp only at a1 a2
  rcases hr with rfl | ⟨j, hj, rfl⟩ | ⟨j, m, hj, hm, rfl⟩
  · refine ⟨num_of_itoa (n := i + 1) ?_ (by omega) (by simp) (by rw [List.all_cons, a1]; rfl), mem1 a2, by simp⟩
    rw [itoa_nat, dec_last (by omega)]
  · obtain ⟨b1, b2, _⟩ := digU_of ⟨j, hj⟩
    simp only at b1 b2
    refine ⟨num_of_itoa (n := 10 * (i + 1) + j) ?_ (by omega) (by simp) (by rw [List.all_cons, a1, List.all_cons, b1]; rfl), mem2 a2 b2, by simp⟩
    rw [itoa_nat, dec_step rfl hj (by omega), dec_last (by omega)]
    rfl
  · obtain ⟨b1, b2, _⟩ := digU_of ⟨j, hj⟩
    obtain ⟨c1, c2, _⟩ := digU_of ⟨m, hm⟩
    simp only at b1 b2 c1 c2
    refine ⟨num_of_itoa (n := 10 * (10 * (i + 1) + j) + m) ?_ (by omega) (by simp) (by rw [List.all_cons, a1, List.all_cons, b1, List.all_cons, c1]; rfl), mem3 a2 b2 c2, by simp⟩
    rw [itoa_nat, dec_step rfl hm (by omega), dec_step rfl hj (by omega), dec_last (by omega)]
    rfl
theorem signs_ok : ∀ x ∈ signsL, signR x = x.length ∧ x.length ≤ 2 ∧ x ≠ [] := by decide +kernel
/-- Strings: a byte in quotes is one character. -/
theorem chunk_esc (c : UInt8) : Chunk (escB c) c := by
  unfold escB
  by_cases h1 : c = 34
  · subst h1; exact chunk_letter (by simp)
  rw [if_neg h1]
  by_cases h2 : c = 92
  · subst h2; exact chunk_letter (by simp)
  rw [if_neg h2]
  by_cases h3 : c = 10
  · subst h3; exact chunk_letter (by simp)
  rw [if_neg h3]
  by_cases h4 : c = 9
  · subst h4; exact chunk_letter (by simp)
  rw [if_neg h4]
  by_cases h5 : 32 ≤ c.toNat ∧ c.toNat ≤ 126
  · rw [if_pos h5]; exact chunk_plain h5.1 h5.2 h1 h2
  · rw [if_neg h5]
    have hc := c.toNat_lt
    have hlo : ∀ p : Fin 16, hexU (hexD p.val) = some (UInt8.ofNat p.val) := by decide +kernel
    exact chunk_hex (p := c.toNat / 16) (q := c.toNat % 16) (by omega) (by omega) (hlo ⟨_, by omega⟩) (hlo ⟨_, by omega⟩) (by omega)
theorem enc_esc : ∀ (l : List UInt8), Enc (l.flatMap escB) l := by
  intro l
  have h : ∀ (n : Nat), Enc ((l.take n).flatMap escB) (l.take n) := by
    intro n
    induction n with
    | zero => exact Enc.nil
    | succ n ih =>
      by_cases hn : n < l.length
      · rw [List.take_succ_eq_append_getElem hn, List.flatMap_append]
        have := ih.snoc (chunk_esc l[n])
        simpa using this
      · rw [List.take_of_length_le (by omega)]
        rw [List.take_of_length_le (by omega)] at ih
        exact ih
  have := h l.length
  rwa [List.take_length] at this
theorem plain_ok {k : Int} {x : List UInt8} (h : Plain k x) : TokOk ⟨k, ⟨x.toArray⟩, 0⟩ := by
  rcases h with ⟨rfl, b, r, rfl, hb, hr, hl⟩ | ⟨rfl, i, r, rfl, hi, hr⟩ | ⟨rfl, hl⟩ | ⟨rfl, hx⟩
  · have hw : wordL (b :: r) = b :: r := wordL_all (fun c hc => by
      rcases List.mem_cons.1 hc with rfl | hc
      · exact let_word hb
      · exact hr c hc)
    refine ⟨?_, (show ¬ (1 : Int) = 5 by decide), ?_, fun h => by cases h⟩
    · show wordTB (b :: r) = true
      have := wordT_word (l := b :: r) rfl hb
      rw [hw] at this
      rw [this, decide_eq_true hl]
    · show (b :: r).length ≤ 256
      omega
  · obtain ⟨h1, _, h3⟩ := num_plain hi hr
    exact ⟨h1, (show ¬ (2 : Int) = 5 by decide), (show (UInt8.ofNat (49 + i) :: r).length ≤ 256 by omega), fun h => by cases h⟩
  · refine ⟨?_, (show ¬ (3 : Int) = 5 by decide), (show x.length ≤ 256 by omega), fun h => by cases h⟩
    show decide ((x.length : Int) ≤ 256) = true
    rw [decide_eq_true (by omega)]
  · obtain ⟨h1, h2, h3⟩ := signs_ok x hx
    refine ⟨?_, (show ¬ (4 : Int) = 5 by decide), (show x.length ≤ 256 by omega), fun _ => (show x.length ≠ 0 by intro e; exact h3 (List.eq_nil_of_length_eq_zero e))⟩
    show (!(x == []) && ((signR x : Int) == (x.length : Int))) = true
    rw [h1]
    have : (x == []) = false := beq_eq_false_iff_ne.2 h3
    rw [this]
    simp
theorem gap_head {r : List UInt8} (h : Gap r) {c : UInt8} (hc : r.head? = some c) : c = 32 := by
  rcases h with rfl | ⟨s, rfl⟩
  · cases hc
  · simpa using hc.symm
/-- A plain token is read back, whatever stands behind its blank. -/
theorem next_plain {k : Int} {x r : List UInt8} (h : Plain k x) (hr : Gap r) : nextR (writtenB k x ++ r) = ⟨k, x, writtenB k x ++ r, r, 0⟩ := by
  rcases h with ⟨rfl, b, y, rfl, hb, hy, hl⟩ | ⟨rfl, i, y, rfl, hi, hy⟩ | ⟨rfl, hl⟩ | ⟨rfl, hx⟩
  · have hw : wordL (b :: y ++ r) = b :: y := wordL_gap (fun c hc => by
      rcases List.mem_cons.1 hc with rfl | hc
      · exact let_word hb
      · exact hy c hc) hr
    have e : writtenB 1 (b :: y) = b :: y := rfl
    rw [e]
    unfold nextR
    rw [List.cons_append, let_skip hb]
    rw [List.cons_append] at hw
    simp only [oneR, hb, if_true, hw, if_pos hl]
    rw [show (b :: (y ++ r)).drop (b :: y).length = r by simp]
  · obtain ⟨h1, h2, _⟩ := num_plain hi hy
    have hw : wordL (UInt8.ofNat (49 + i) :: y ++ r) = UInt8.ofNat (49 + i) :: y := wordL_gap h2 hr
    have e : writtenB 2 (UInt8.ofNat (49 + i) :: y) = UInt8.ofNat (49 + i) :: y := rfl
    obtain ⟨a1, _, a3, a4, a5⟩ := digU_of ⟨i + 1, by omega⟩
    rw [show 48 + (i + 1) = 49 + i by omega] at a1 a3 a4 a5
    rw [e]
    unfold nextR
    rw [List.cons_append, skip_none a4 (fun h => a5 h.1)]
    rw [List.cons_append] at hw
    simp only [oneR, a1, a3, Bool.false_eq_true, if_false, if_true, hw, h1]
    rw [show (UInt8.ofNat (49 + i) :: (y ++ r)).drop (UInt8.ofNat (49 + i) :: y).length = r by simp]
  · have e : writtenB 3 x ++ r = 34 :: (x.flatMap escB ++ 34 :: r) := by simp [writtenB]
    rw [e, next_string (enc_esc x) (by omega)]
  · have e : writtenB 4 x = x := rfl
    rw [e]
    have hx2 := hx
    simp only [signsL, List.mem_cons, List.not_mem_nil, or_false] at hx2
    rcases hr with rfl | ⟨s, rfl⟩
    · rw [List.append_nil]
      rcases hx2 with rfl | rfl | rfl | rfl | rfl | rfl | rfl | rfl | rfl | rfl | rfl | rfl | rfl | rfl | rfl | rfl | rfl | rfl | rfl <;> rfl
    · rcases hx2 with rfl | rfl | rfl | rfl | rfl | rfl | rfl | rfl | rfl | rfl | rfl | rfl | rfl | rfl | rfl | rfl | rfl | rfl | rfl <;> rfl
end Go.Proofs.YtaipljdpkgdheaaDoor
