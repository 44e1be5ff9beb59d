/- Package token: a blank, a hexadecimal digit, a sign. -/
import Derived.Test.YtaipljdpkgdheaaDoorReader
namespace Go.Proofs.YtaipljdpkgdheaaDoor
open Go Go.RowKit

theorem u8_ne {c k : UInt8} (h : ¬ c = k) {n : Int} (hn : n = (k.toNat : Int)) : ((c.toNat : Int) == n) = false := by
  rw [beq_eq_false_iff_ne, hn]
  intro e
  exact h (UInt8.toNat_inj.1 (by omega))
theorem isBlank_any (c : UInt8) (w : World) : Calls Tryd.prog 50 #[.int .u8 (c.toNat : Int)] w fun e w' => e = .returned (.bool (blankU c)) ∧ w = w' := by
  by_cases h1 : c = 32
  · subst h1
    go_enter Tryd.func50, Tryd.ntmps50
    go_wp2
    go_ret
    exact ⟨rfl, rfl⟩
  by_cases h2 : c = 9
  · subst h2
    go_enter Tryd.func50, Tryd.ntmps50
    go_wp2
    go_ret
    exact ⟨rfl, rfl⟩
  by_cases h3 : c = 10
  · subst h3
    go_enter Tryd.func50, Tryd.ntmps50
    go_wp2
    go_ret
    exact ⟨rfl, rfl⟩
  have b1 := u8_ne h1 (n := 32) rfl
  have b2 := u8_ne h2 (n := 9) rfl
  have b3 := u8_ne h3 (n := 10) rfl
  have HE := Lib.hid (show blankU c = ((c.toNat : Int) == 13) by
    unfold blankU
    rw [beq_eq_false_iff_ne.2 h1, beq_eq_false_iff_ne.2 h2, beq_eq_false_iff_ne.2 h3, Bool.false_or, Bool.false_or, Bool.false_or, Bool.eq_iff_iff, beq_iff_eq, beq_iff_eq]
    constructor
    · rintro rfl; rfl
    · intro e; exact UInt8.toNat_inj.1 (by simpa using Int.ofNat.inj e))
  clear h1 h2 h3
  go_enter Tryd.func50, Tryd.ntmps50
  go_wp2
  go_ret
  exact ⟨by rw [HE.out]; rfl, rfl⟩

theorem hexDigit_any (c : UInt8) (w : World) : Calls Tryd.prog 83 #[.int .u8 (c.toNat : Int)] w fun e w' => e = .returned (.tuple #[.int .u8 (((hexU c).getD 0).toNat : Int), .bool (hexU c).isSome]) ∧ w = w' := by
  obtain ⟨n, hn⟩ : ∃ n, n = c.toNat := ⟨_, rfl⟩
  have hlt := c.toNat_lt
  have HE := Lib.hid (show hexU c = if 48 ≤ n ∧ n ≤ 57 then some (UInt8.ofNat (n - 48)) else if 97 ≤ n ∧ n ≤ 102 then some (UInt8.ofNat (n - 87)) else if 65 ≤ n ∧ n ≤ 70 then some (UInt8.ofNat (n - 55)) else none by rw [hn]; rfl)
  rw [← hn] at hlt ⊢
  clear hn
  by_cases h1 : 48 ≤ n ∧ n ≤ 57
  · have r1 : (48 : Int) ≤ (n : Int) := by omega
    have r2 : (n : Int) ≤ 57 := by omega
    go_enter Tryd.func83, Tryd.ntmps83
    go_wp2
    go_ret2
    refine ⟨?_, rfl⟩
    rw [HE.out, if_pos h1]
    simp only [Option.getD_some, Option.isSome_some]
    rw [UInt8.toNat_ofNat', Nat.mod_eq_of_lt (by omega), show (n : Int) - 48 = ((n - 48 : Nat) : Int) by omega]
    rfl
  by_cases h2 : 97 ≤ n ∧ n ≤ 102
  · have r1 : (97 : Int) ≤ (n : Int) := by omega
    have r2 : (n : Int) ≤ 102 := by omega
    have r3 : ¬ (n : Int) ≤ 57 := by omega
    go_enter Tryd.func83, Tryd.ntmps83
    go_wp2
    go_ret2
    refine ⟨?_, rfl⟩
    rw [HE.out, if_neg h1, if_pos h2]
    simp only [Option.getD_some, Option.isSome_some]
    rw [UInt8.toNat_ofNat', Nat.mod_eq_of_lt (by omega), show (n : Int) - 97 + 10 = ((n - 87 : Nat) : Int) by omega]
    rfl
  by_cases h3 : 65 ≤ n ∧ n ≤ 70
  · have r1 : (65 : Int) ≤ (n : Int) := by omega
    have r2 : (n : Int) ≤ 70 := by omega
    have r3 : ¬ (n : Int) ≤ 57 := by omega
    have r4 : ¬ (97 : Int) ≤ (n : Int) := by omega
    go_enter Tryd.func83, Tryd.ntmps83
    go_wp2
    go_ret2
    refine ⟨?_, rfl⟩
    rw [HE.out, if_neg h1, if_neg h2, if_pos h3]
    simp only [Option.getD_some, Option.isSome_some]
    rw [UInt8.toNat_ofNat', Nat.mod_eq_of_lt (by omega), show (n : Int) - 65 + 10 = ((n - 55 : Nat) : Int) by omega]
    rfl
  have HF := Lib.hid (show hexU c = none by rw [HE.out, if_neg h1, if_neg h2, if_neg h3])
  rcases (show (n : Int) < 48 ∨ (57 < (n : Int) ∧ (n : Int) < 65) ∨ (70 < (n : Int) ∧ (n : Int) < 97) ∨ 102 < (n : Int) by omega) with r | r | r | r
  all_goals
    clear h1 h2 h3
    go_enter Tryd.func83, Tryd.ntmps83
    go_wp2
    go_ret2
    exact ⟨by rw [HF.out]; rfl, rfl⟩
end Go.Proofs.YtaipljdpkgdheaaDoor
