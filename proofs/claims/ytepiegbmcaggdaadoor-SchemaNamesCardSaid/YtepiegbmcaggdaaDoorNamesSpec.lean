/- Plain facts for the law on names: what its two loops reckon is whether the text may be a name. No program is named here. -/
import Derived.Test.YtepiegbmcaggdaaDoorSpec2
import Derived.Laws.Strings
namespace Go.Proofs.YtepiegbmcaggdaaDoor
open Go

/-- May the byte stand at place k of a name? -/
def okByte (c : Int) (k : Nat) : Bool := lttrI c || digI c && !decide (k = 0)
/-- What the law's first loop holds behind k rounds. -/
def okUpto (s : ByteArray) : Nat → Bool
  | 0 => decide (1 ≤ s.size) && decide (s.size ≤ 32)
  | k + 1 => okUpto s k && (if h : k < s.size then okByte (s[k]'h).toNat k else true)
/-- What its second loop holds behind k rounds. -/
def okRes (s : ByteArray) : Nat → Bool
  | 0 => okUpto s s.size
  | k + 1 => okRes s k && !((resWord k).toList == s.toList)

theorem okUpto_iff (s : ByteArray) (k : Nat) (hk : k ≤ s.size) : okUpto s k = true ↔ (1 ≤ s.size ∧ s.size ≤ 32 ∧ ∀ i (h : i < s.size), i < k → okByte (s[i]'h).toNat i = true) := by
  induction k with
  | zero => simp [okUpto]
  | succ k ih =>
    have := ih (by omega)
    rw [okUpto, Bool.and_eq_true, this, dif_pos (by omega)]
    constructor
    · rintro ⟨⟨h1, h2, h3⟩, h4⟩
      refine ⟨h1, h2, fun i h hi => ?_⟩
      rcases Nat.lt_or_ge i k with h' | h'
      · exact h3 i h h'
      · obtain rfl : i = k := by omega
        exact h4
    · rintro ⟨h1, h2, h3⟩
      exact ⟨⟨h1, h2, fun i h hi => h3 i h (by omega)⟩, h3 k (by omega) (by omega)⟩

theorem mem_front {p : UInt8 → Bool} : ∀ (l : List UInt8) (x : UInt8), x ∈ l.takeWhile p → p x = true
  | b :: r, x, h => by
    cases hb : p b
    · simp [List.takeWhile, hb] at h
    · rw [List.takeWhile_cons, hb] at h
      rcases List.mem_cons.1 h with rfl | h
      · exact hb
      · exact mem_front r x h

theorem okUpto_word (s : ByteArray) : okUpto s s.size = (decide (s.size ≤ 32) && isWordB s && !digI (s.get! 0).toNat) := by
  rw [Bool.eq_iff_iff, okUpto_iff s s.size (Nat.le_refl _)]
  constructor
  · rintro ⟨h1, h2, h3⟩
    have hw : wordLen s = s.size := wordLen_eq s s.size (fun i h _ => by
      have := h3 i h h
      simp only [okByte, Bool.or_eq_true, Bool.and_eq_true] at this
      unfold wordByte
      rcases this with h | h
      · simp [h]
      · simp [h.1]) (fun h => absurd h (Nat.lt_irrefl _)) (Nat.le_refl _)
    have h0 := h3 0 (by omega) (by omega)
    have e : s.get! 0 = s[0]'(by omega) := get_at s 0 (by omega)
    have hd : digI (s.get! 0).toNat = false := by
      rw [e]
      simp only [okByte, decide_true, Bool.not_true, Bool.and_false, Bool.or_false] at h0
      simp only [lttrI, Bool.or_eq_true, Bool.and_eq_true, decide_eq_true_eq, beq_iff_eq] at h0
      simp only [digI, Bool.and_eq_false_iff, decide_eq_false_iff_not]
      omega
    simp only [hd, isWordB, hw, h2]
    simp
    omega
  · intro h
    simp only [Bool.and_eq_true, decide_eq_true_eq, isWordB, Bool.not_eq_true'] at h
    obtain ⟨⟨h1, h2, h3⟩, h4⟩ := h
    refine ⟨h2, h1, fun i hi _ => ?_⟩
    have hl : i < (s.data.toList.takeWhile wordByte).length := by
      have : (s.data.toList.takeWhile wordByte).length = s.size := h3
      omega
    have hp := List.takeWhile_prefix wordByte (l := s.data.toList)
    have hmem := List.getElem_mem hl
    have hb : wordByte (s.data.toList.takeWhile wordByte)[i] = true := mem_front _ _ hmem
    have e1 : (s.data.toList.takeWhile wordByte)[i] = s[i]'hi := hp.getElem hl
    rw [e1] at hb
    have e : s.get! 0 = s[0]'h2 := get_at s 0 h2
    unfold okByte
    rw [wordByte, Bool.or_eq_true] at hb
    rcases hb with hb | hb
    · by_cases h0 : i = 0
      · subst h0
        rw [e] at h4
        rw [h4] at hb
        cases hb
      · simp [hb, h0]
    · simp [hb]

theorem okRes_eq (s : ByteArray) (k : Nat) (hk : k ≤ 16) : okRes s k = (okUpto s s.size && !(resWords.take k).contains s.data.toList) := by
  induction k with
  | zero => simp [okRes]
  | succ k ih =>
    have hl : k < resWords.length := by simp [resWords]; omega
    have e : resWords.getD k [] = resWords[k]'hl := by simp [List.getD, List.getElem?_eq_getElem hl]
    have e2 : (resWord k).toList = resWords[k]'hl := by rw [← e]; simp [resWord]
    rw [okRes, ih (by omega), List.take_succ_eq_append_getElem hl, e2, ByteArray.toList_eq]
    rw [Bool.eq_iff_iff]
    simp only [Bool.and_eq_true, Bool.not_eq_true', List.contains_eq_mem, List.mem_append, List.mem_singleton, decide_eq_false_iff_not, not_or, beq_eq_false_iff_ne]
    constructor
    · rintro ⟨⟨h1, h2⟩, h3⟩
      exact ⟨h1, h2, fun e => h3 e.symm⟩
    · rintro ⟨h1, h2, h3⟩
      exact ⟨⟨h1, h2⟩, fun e => h3 e.symm⟩

/-- What the law reckons is whether the text may be a name. -/
theorem okRes_name (s : ByteArray) : okRes s 16 = nameB s := by
  rw [okRes_eq s 16 (Nat.le_refl _), okUpto_word]
  rfl

end Go.Proofs.YtepiegbmcaggdaaDoor
