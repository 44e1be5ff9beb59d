/- A rune that begins with no ASCII byte: it is none, and nor is any byte of it. -/
import Derived.Laws.RangeString
namespace Go.Proofs.YtdkddnlolnbpgaaDoor
open Go

theorem get_bang (s : ByteArray) (i : Nat) (h : i < s.size) : s.get! i = s[i]'h := by
  simp [ByteArray.get!, getElem!_pos, h]
  rfl
theorem decode_hi (s : ByteArray) (p : Nat) (h : p < s.size) (hx : 128 ≤ (s[p]'h).toNat) :
    128 ≤ (Utf8.decode s p).1 ∧ (Utf8.decode s p).1 ≤ 1114111 ∧ 1 ≤ (Utf8.decode s p).2 ∧ p + (Utf8.decode s p).2 ≤ s.size ∧ ∀ j (hj : p + j < s.size), j < (Utf8.decode s p).2 → 128 ≤ (s[p + j]'hj).toNat := by
  have e0 : s.get! p = s[p]'h := get_bang s p h
  have hb := (s[p]'h).toNat_lt
  have key : ∀ k, (decide (p + k < s.size) && (s.get! (p + k)).toNat / 64 == 2) = true → p + k < s.size ∧ 128 ≤ (s.get! (p + k)).toNat := by
    intro k hk
    simp only [Bool.and_eq_true, decide_eq_true_eq, beq_iff_eq] at hk
    exact ⟨hk.1, by omega⟩
  have one : ∀ j (hj : p + j < s.size), j < 1 → 128 ≤ (s[p + j]'hj).toNat := by
    intro j hj h1
    obtain rfl : j = 0 := by omega
    exact hx
  have more : ∀ j (hj : p + j < s.size), 128 ≤ (s.get! (p + j)).toNat → 128 ≤ (s[p + j]'hj).toNat := by
    intro j hj h1
    rwa [get_bang s (p + j) hj] at h1
  simp only [Utf8.decode, Nat.add_zero, e0, Utf8.runeError]
  rw [if_neg (by omega)]
  split
  · rename_i hc
    rw [Bool.and_eq_true] at hc
    obtain ⟨q1, r1⟩ := key 1 hc.2
    have hc1 := beq_iff_eq.1 hc.1
    split
    · refine ⟨by simp only; omega, by simp only; omega, by simp, by simp only; omega, fun j hj h2 => ?_⟩
      rcases Nat.lt_or_ge j 1 with h3 | h3
      · exact one j hj h3
      · simp only at h2
        obtain rfl : j = 1 := by omega
        exact more 1 hj r1
    · exact ⟨by decide, by decide, by decide, by simp only; omega, one⟩
  · split
    · rename_i hc
      simp only [Bool.and_eq_true] at hc
      obtain ⟨q1, r1⟩ := key 1 (by simpa using hc.1.2)
      obtain ⟨q2, r2⟩ := key 2 (by simpa using hc.2)
      split
      · rename_i hv
        simp only [Bool.and_eq_true, decide_eq_true_eq, Utf8.valid, Bool.or_eq_true] at hv
        refine ⟨by simp only; omega, by simp only; omega, by simp, by simp only; omega, fun j hj h2 => ?_⟩
        simp only at h2
        rcases Nat.lt_or_ge j 1 with h3 | h3
        · exact one j hj h3
        · rcases Nat.lt_or_ge j 2 with h4 | h4
          · obtain rfl : j = 1 := by omega
            exact more 1 hj r1
          · obtain rfl : j = 2 := by omega
            exact more 2 hj r2
      · exact ⟨by decide, by decide, by decide, by simp only; omega, one⟩
    · split
      · rename_i hc
        simp only [Bool.and_eq_true] at hc
        obtain ⟨q1, r1⟩ := key 1 (by simpa using hc.1.1.2)
        obtain ⟨q2, r2⟩ := key 2 (by simpa using hc.1.2)
        obtain ⟨q3, r3⟩ := key 3 (by simpa using hc.2)
        split
        · rename_i hv
          simp only [Bool.and_eq_true, decide_eq_true_eq, Utf8.valid, Bool.or_eq_true] at hv
          refine ⟨by simp only; omega, by simp only; omega, by simp, by simp only; omega, fun j hj h2 => ?_⟩
          simp only at h2
          rcases Nat.lt_or_ge j 1 with h3 | h3
          · exact one j hj h3
          · rcases Nat.lt_or_ge j 2 with h4 | h4
            · obtain rfl : j = 1 := by omega
              exact more 1 hj r1
            · rcases Nat.lt_or_ge j 3 with h5 | h5
              · obtain rfl : j = 2 := by omega
                exact more 2 hj r2
              · obtain rfl : j = 3 := by omega
                exact more 3 hj r3
        · exact ⟨by decide, by decide, by decide, by simp only; omega, one⟩
      · exact ⟨by decide, by decide, by decide, by simp only; omega, one⟩
end Go.Proofs.YtdkddnlolnbpgaaDoor
