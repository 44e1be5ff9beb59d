/- Plain functions and facts on bytes: a number's form, and how it is read. No program is named here. -/
import Derived.Laws.RangeAny
namespace Go.Proofs.YtmdhacboegmccaaDoor
open Go

/-- The number that is laid in groups. -/
def zz (n : Int) : Nat := if n < 0 then (-2 * n - 1).toNat else (2 * n).toNat
def unz (z : Nat) : Int := if z % 2 = 1 then -((z / 2 : Nat) : Int) - 1 else ((z / 2 : Nat) : Int)
/-- The groups of a number. -/
def putZ (z : Nat) : List UInt8 := if h : z < 128 then [UInt8.ofNat z] else UInt8.ofNat (z % 128 + 128) :: putZ (z / 128)
termination_by z
decreasing_by omega
/-- A number's form. -/
def putB (n : Int) : List UInt8 := putZ (zz n)
/-- The groups read: the number, how many bytes in all, the error. -/
def readZ : Nat → Nat → List UInt8 → Nat × Nat × Int
  | _, _, [] => (0, 0, 30)
  | i, a, x :: r =>
    if i = 9 ∧ 1 < x.toNat then (0, 0, 31)
    else if 128 ≤ x.toNat then readZ (i + 1) (a + x.toNat % 128 * 128 ^ i) r
    else if x.toNat = 0 ∧ 0 < i then (0, 0, 31)
    else (a + x.toNat % 128 * 128 ^ i, i + 1, 0)

theorem zz_unz (z : Nat) : zz (unz z) = z := by unfold zz unz; split <;> split <;> omega
theorem unz_zz (n : Int) : unz (zz n) = n := by unfold zz unz; split <;> split <;> omega
theorem zz_lt (n : Int) (h1 : -9223372036854775808 ≤ n) (h2 : n ≤ 9223372036854775807) : zz n < 2 ^ 64 := by unfold zz; split <;> omega
theorem unz_bd (z : Nat) (h : z < 2 ^ 64) : -9223372036854775808 ≤ unz z ∧ unz z ≤ 9223372036854775807 := by unfold unz; split <;> omega

theorem u8_of (n : Nat) (h : n < 256) : (UInt8.ofNat n).toNat = n := by simp; omega
theorem u8_eq {x : UInt8} {n : Nat} (h : x.toNat = n) : x = UInt8.ofNat n := by rw [← h]; simp

theorem pow_pos128 (i : Nat) : 1 ≤ 128 ^ i := Nat.pow_pos (by decide)
theorem pow128_succ (i : Nat) : 128 ^ (i + 1) = 128 * 128 ^ i := by rw [Nat.pow_succ, Nat.mul_comm]
theorem group_sum (z p : Nat) : z % 128 * p + z / 128 * (128 * p) = z * p := by
  have h := Nat.mod_add_div z 128
  rw [← Nat.mul_assoc, Nat.mul_comm (z / 128) 128, ← Nat.add_mul, h]

/-- What is written is read back, whatever stands behind. -/
theorem read_put : ∀ (z : Nat) (i a : Nat) (rest : List UInt8), i ≤ 9 → z * 128 ^ i < 2 ^ 64 → (0 < i → 0 < z) → readZ i a (putZ z ++ rest) = (a + z * 128 ^ i, i + (putZ z).length, 0) := by
  intro z
  induction z using Nat.strongRecOn with
  | ind z ih =>
    intro i a rest hi hz h0
    have hp := pow_pos128 i
    by_cases h : z < 128
    · have hx : (UInt8.ofNat z).toNat = z := u8_of z (by omega)
      have e : putZ z = [UInt8.ofNat z] := by rw [putZ, dif_pos h]
      rw [e]
      simp only [List.cons_append, List.nil_append, readZ, hx, List.length_cons, List.length_nil]
      rw [if_neg, if_neg (by omega), if_neg (by omega), Nat.mod_eq_of_lt h]
      rintro ⟨rfl, h1⟩
      have : z * 128 ^ 9 ≥ 2 * 128 ^ 9 := Nat.mul_le_mul_right _ (by omega)
      omega
    · have hx : (UInt8.ofNat (z % 128 + 128)).toNat = z % 128 + 128 := u8_of _ (by omega)
      have e : putZ z = UInt8.ofNat (z % 128 + 128) :: putZ (z / 128) := by rw [putZ, dif_neg h]
      rw [e]
      have hi9 : i ≠ 9 := by
        rintro rfl
        have : z * 128 ^ 9 ≥ 128 * 128 ^ 9 := Nat.mul_le_mul_right _ (by omega)
        omega
      have hs := group_sum z (128 ^ i)
      simp only [List.cons_append, readZ, hx, List.length_cons]
      have e2 : (z % 128 + 128) % 128 = z % 128 := by omega
      rw [if_neg (by omega), if_pos (by omega), ih (z / 128) (by omega) (i + 1) _ rest (by omega) (by rw [pow128_succ]; omega) (by omega), e2, pow128_succ]
      refine Prod.ext ?_ (Prod.ext ?_ rfl)
      · show a + z % 128 * 128 ^ i + z / 128 * (128 * 128 ^ i) = a + z * 128 ^ i
        omega
      · show i + 1 + (putZ (z / 128)).length = i + ((putZ (z / 128)).length + 1)
        omega

/-- What is read is what would be written; fewer bytes end too early. -/
theorem read_back : ∀ (b : List UInt8) (i a v n : Nat), i ≤ 9 → readZ i a b = (v, n, 0) →
    ∃ z r, b = putZ z ++ r ∧ v = a + z * 128 ^ i ∧ z * 128 ^ i < 2 ^ 64 ∧ (0 < i → 0 < z) ∧ n = i + (putZ z).length ∧ ∀ j, j < (putZ z).length → readZ i a ((putZ z).take j) = (0, 0, 30) := by
  intro b
  induction b with
  | nil => intro i a v n _ h; simp [readZ] at h
  | cons x r ih =>
    intro i a v n hi h
    have hp := pow_pos128 i
    have hx8 : x.toNat < 256 := x.toNat_lt
    have hpow : 128 ^ i ≤ 128 ^ 9 := Nat.pow_le_pow_right (by decide) hi
    rw [readZ] at h
    by_cases h1 : i = 9 ∧ 1 < x.toNat
    · rw [if_pos h1] at h; simp at h
    rw [if_neg h1] at h
    by_cases h2 : 128 ≤ x.toNat
    · rw [if_pos h2] at h
      have hi9 : i ≠ 9 := fun e => h1 ⟨e, by omega⟩
      obtain ⟨z, r', hb, hv, hz, h0, hn, hj⟩ := ih (i + 1) _ v n (by omega) h
      have hz0 : 0 < z := h0 (by omega)
      have hd : (z * 128 + x.toNat % 128) / 128 = z := by omega
      have hm : (z * 128 + x.toNat % 128) % 128 = x.toNat % 128 := by omega
      have e : putZ (z * 128 + x.toNat % 128) = x :: putZ z := by
        rw [putZ, dif_neg (by omega), hd, hm]
        congr 1
        exact (u8_eq (by omega)).symm
      have hs := group_sum (z * 128 + x.toNat % 128) (128 ^ i)
      rw [hd, hm] at hs
      rw [pow128_succ] at hv hz
      refine ⟨z * 128 + x.toNat % 128, r', by rw [e, hb]; rfl, by omega, ?_, by omega, by rw [e, hn, List.length_cons]; omega, ?_⟩
      · have hi8 : 128 ^ i ≤ 128 ^ 8 := Nat.pow_le_pow_right (by decide) (by omega)
        have hzle : z * (128 * 128 ^ i) + x.toNat % 128 * 128 ^ i < 2 ^ 64 := by
          have hdv : 128 * 128 ^ i ∣ 2 ^ 64 ∨ i = 9 := by
            rcases Nat.lt_or_ge i 9 with h9 | h9
            · left
              rw [← pow128_succ]
              have e7 : (128 : Nat) = 2 ^ 7 := by decide
              rw [e7, ← Nat.pow_mul]
              exact Nat.pow_dvd_pow 2 (by omega)
            · omega
          rcases hdv with ⟨c, hc⟩ | h9
          · have hzc : z < c := by
              rw [hc, Nat.mul_comm] at hz
              exact Nat.lt_of_mul_lt_mul_left hz
            have hstep : (z + 1) * (128 * 128 ^ i) ≤ c * (128 * 128 ^ i) := Nat.mul_le_mul_right _ hzc
            have hlow : x.toNat % 128 * 128 ^ i < 128 * 128 ^ i := Nat.mul_lt_mul_of_pos_right (by omega) (by omega)
            rw [Nat.add_mul, Nat.one_mul] at hstep
            rw [hc, Nat.mul_comm (128 * 128 ^ i) c]
            omega
          · exact absurd h9 hi9
        omega
      · intro j hjl
        rw [e]
        cases j with
        | zero => rfl
        | succ j =>
          rw [List.take_succ_cons, readZ, if_neg h1, if_pos h2]
          exact hj j (by rw [e] at hjl; simp at hjl; omega)
    · rw [if_neg h2] at h
      by_cases h3 : x.toNat = 0 ∧ 0 < i
      · rw [if_pos h3] at h; simp at h
      · rw [if_neg h3] at h
        have e : putZ x.toNat = [x] := by rw [putZ, dif_pos (by omega)]; congr 1; simp
        have e1 := congrArg Prod.fst h
        have e2 := congrArg (fun q => q.2.1) h
        simp only at e1 e2
        rw [Nat.mod_eq_of_lt (by omega)] at e1
        refine ⟨x.toNat, r, by rw [e]; rfl, e1.symm, ?_, by omega, by rw [e]; simp; omega, ?_⟩
        · by_cases h9 : i = 9
          · subst h9
            have : x.toNat * 128 ^ 9 ≤ 1 * 128 ^ 9 := Nat.mul_le_mul_right _ (by omega)
            omega
          · have hi8 : 128 ^ i ≤ 128 ^ 8 := Nat.pow_le_pow_right (by decide) (by omega)
            have : x.toNat * 128 ^ i ≤ 127 * 128 ^ 8 := Nat.mul_le_mul (by omega) hi8
            omega
        · intro j hj
          rw [e] at hj ⊢
          obtain rfl : j = 0 := by simpa using hj
          rfl
theorem putZ_pos (z : Nat) : 0 < (putZ z).length := by rw [putZ]; split <;> simp
theorem putZ_len : ∀ (k z : Nat), z < 128 ^ (k + 1) → (putZ z).length ≤ k + 1
  | 0, z, h => by rw [putZ, dif_pos (by simpa using h)]; simp
  | k + 1, z, h => by
    rw [putZ]
    split
    · simp
    · have := putZ_len k (z / 128) (by rw [Nat.div_lt_iff_lt_mul (by decide), Nat.mul_comm, ← pow128_succ]; exact h)
      simp; omega
end Go.Proofs.YtmdhacboegmccaaDoor
