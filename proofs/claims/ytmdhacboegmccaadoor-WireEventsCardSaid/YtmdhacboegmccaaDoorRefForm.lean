/- The document's own answer: Int, in plain maths. -/
import Derived.Test.YtmdhacboegmccaaDoorRefPut
import Derived.Test.YtmdhacboegmccaaDoorNumber
namespace Go.Proofs.YtmdhacboegmccaaDoor
open Go Go.RowKit

def accZ (l : List UInt8) : Nat → Nat
  | 0 => 0
  | k + 1 => accZ l k + (l.getD k 0).toNat % 128 * 128 ^ k
theorem accZ_step (l : List UInt8) (k : Nat) (h : k < l.length) : accZ l (k + 1) = accZ l k + l[k].toNat % 128 * 128 ^ k := by
  simp [accZ, List.getD, List.getElem?_eq_getElem h]
theorem accZ_lt (l : List UInt8) : ∀ k, accZ l k < 128 ^ k
  | 0 => by simp [accZ]
  | k + 1 => by
    have h := accZ_lt l k
    have : (l.getD k 0).toNat % 128 * 128 ^ k ≤ 127 * 128 ^ k := Nat.mul_le_mul_right _ (by omega)
    rw [accZ, Nat.pow_succ]
    omega
theorem accZ_le (l : List UInt8) (i : Nat) : ∀ k, i ≤ k → accZ l i ≤ accZ l k
  | 0, h => by rw [Nat.le_zero.1 h]; exact Nat.le_refl _
  | k + 1, h => by
    by_cases e : i = k + 1
    · rw [e]; exact Nat.le_refl _
    · exact Nat.le_trans (accZ_le l i k (by omega)) (by rw [accZ]; omega)
theorem readZ_acc (l : List UInt8) : ∀ k, k ≤ 9 → k ≤ l.length → (∀ i (h : i < l.length), i < k → 128 ≤ l[i].toNat) → readZ k (accZ l k) (l.drop k) = readZ 0 0 l
  | 0, _, _, _ => rfl
  | k + 1, h9, hk, hall => by
    have ih := readZ_acc l k (by omega) (by omega) (fun i h hi => hall i h (by omega))
    rw [readZ_step l k _ (by omega), if_neg (by omega), if_pos (hall k (by omega) (by omega)), ← accZ_step l k (by omega)] at ih
    exact ih
theorem intB_of {l : List UInt8} {z n : Nat} {f : Int} (h : readZ 0 0 l = (z, n, f)) : intB l = if f = 0 then (unz z, n, 0) else (0, 0, f) := by
  unfold intB
  rw [h]
theorem end_many (l : List UInt8) (h : 9 < l.length) (hall : ∀ i (h : i < l.length), i < 9 → 128 ≤ l[i].toNat) (h1 : 1 < l[9].toNat) : intB l = (0, 0, 31) := by
  have e := readZ_acc l 9 (by omega) (by omega) hall
  rw [readZ_step l 9 _ h, if_pos ⟨rfl, h1⟩] at e
  rw [intB_of e.symm]
  rfl
theorem end_short (l : List UInt8) (h : l.length ≤ 9) (hall : ∀ i (h : i < l.length), 128 ≤ l[i].toNat) : intB l = (0, 0, 30) := by
  have e := readZ_acc l l.length h (Nat.le_refl _) (fun i h _ => hall i h)
  rw [List.drop_length] at e
  rw [intB_of (e.symm.trans rfl : readZ 0 0 l = (0, 0, 30))]
  rfl
theorem end_lt (l : List UInt8) (k : Nat) (hk : k < l.length) (h9 : k ≤ 9) (h91 : k = 9 → l[k].toNat ≤ 1) : accZ l (k + 1) < 2 ^ 64 := by
  by_cases e : k = 9
  · have h1 := h91 e
    have h2 := accZ_lt l k
    rw [accZ_step l k hk]
    have h3 : l[k].toNat % 128 * 128 ^ k ≤ 1 * 128 ^ k := Nat.mul_le_mul_right _ (by omega)
    subst e
    omega
  · have h2 := accZ_lt l (k + 1)
    have : 128 ^ (k + 1) ≤ 128 ^ 9 := Nat.pow_le_pow_right (by decide) (by omega)
    omega
theorem end_zero (l : List UInt8) (k : Nat) (hk : k < l.length) (h9 : k ≤ 9) (hall : ∀ i (h : i < l.length), i < k → 128 ≤ l[i].toNat) (h0 : l[k].toNat = 0) (hk0 : 0 < k) : intB l = (0, 0, 31) ∧ (putZ (accZ l (k + 1))).length ≠ k + 1 := by
  have e := readZ_acc l k h9 (by omega) hall
  rw [readZ_step l k _ hk, if_neg (by omega), if_neg (by omega), if_pos ⟨h0, hk0⟩] at e
  refine ⟨by rw [intB_of e.symm]; rfl, ?_⟩
  have h2 := accZ_lt l k
  have h3 : accZ l (k + 1) = accZ l k := by rw [accZ_step l k hk, h0]; simp
  have h4 := putZ_len (k - 1) (accZ l k) (by rw [show k - 1 + 1 = k by omega]; exact h2)
  rw [h3]
  omega
theorem end_ok (l : List UInt8) (k : Nat) (hk : k < l.length) (h9 : k ≤ 9) (hall : ∀ i (h : i < l.length), i < k → 128 ≤ l[i].toNat) (hs : l[k].toNat < 128) (h91 : k = 9 → l[k].toNat ≤ 1) (h0 : ¬ (l[k].toNat = 0 ∧ 0 < k)) : intB l = (unz (accZ l (k + 1)), k + 1, 0) ∧ putB (unz (accZ l (k + 1))) = l.take (k + 1) := by
  have e := readZ_acc l k h9 (by omega) hall
  rw [readZ_step l k _ hk, if_neg (by omega), if_neg (by omega), if_neg h0, ← accZ_step l k hk] at e
  have h1 : intB l = (unz (accZ l (k + 1)), k + 1, 0) := by rw [intB_of e.symm, if_pos rfl]
  refine ⟨h1, ?_⟩
  obtain ⟨v, r, h2, h3, h4⟩ := intB_back l (by rw [h1])
  have h5 := intB_form v r h3 h4
  rw [← h2, h1] at h5
  simp only [Prod.mk.injEq] at h5
  obtain ⟨h6, h7, _⟩ := h5
  rw [h6, h7, h2, List.take_left]
end Go.Proofs.YtmdhacboegmccaaDoor
