/- Package token: one character, and how many bytes at the front of a text make a word, for every text. -/
import Derived.Test.YtaipljdpkgdheaaDoorRows
import Derived.Test.YtaipljdpkgdheaaDoorSpec
import Derived.WalkKit
import Derived.WalkLawsBesides
import Derived.WalkSpells
import Derived.Lib.Hide
namespace Go.Proofs.YtaipljdpkgdheaaDoor
open Go Go.RowKit

theorem isDigit_any (c : Int) (w : World) : Calls Tryd.prog 53 #[.int .i32 c] w fun e w' => e = .returned (.bool (digI c)) ∧ w = w' := by
  by_cases h1 : 48 ≤ c <;> by_cases h2 : c ≤ 57
  all_goals
    go_enter Tryd.func53, Tryd.ntmps53
    go_wp2
    go_ret
    exact ⟨by simp [digI, h1, h2], rfl⟩

theorem isLetter_any (c : Int) (w : World) : Calls Tryd.prog 52 #[.int .i32 c] w fun e w' => e = .returned (.bool (lttrI c)) ∧ w = w' := by
  by_cases h1 : 97 ≤ c <;> by_cases h2 : c ≤ 122 <;> by_cases h3 : 65 ≤ c <;> by_cases h4 : c ≤ 90
  all_goals
    first
      | (exfalso; omega)
      | (go_enter Tryd.func52, Tryd.ntmps52
         go_wp2
         go_ret
         exact ⟨by simp [lttrI, h1, h2, h3, h4] <;> (intro h; omega), rfl⟩)

set_option maxRecDepth 100000 in
theorem wordLength_any (s : ByteArray) (w : World) : Calls Tryd.prog 36 #[.string s] w fun e w' => e = .returned (.int .i64 (wordLen s)) ∧ Below w.heap.size w w' := by
  go_enter Tryd.func36, Tryd.ntmps36
  go_wp2
  go_loopw [3] (fun _ w' => ∃ pos : Nat, w' = w.iter s pos ∧ pos ≤ s.size ∧ (∀ i (h : i < s.size), i < pos → wordByte s[i] = true)) (fun _ w' => s.size - w'.iterPos w.heap.size)
  case atStart => exact ⟨0, rfl, Nat.zero_le _, fun i _ hi => absurd hi (by omega)⟩
  case round =>
    obtain ⟨pos, rfl, hpos, hall⟩ := hrel
    have HA := Lib.hid hall
    clear hall
    by_cases hp : pos < s.size
    · by_cases hw : wordByte (s[pos]'hp) = true
      · have ha : (s[pos]'hp).toNat < 128 := by
          rcases Nat.lt_or_ge (s[pos]'hp).toNat 128 with h | h
          · exact h
          · rw [wordByte_high h] at hw; cases hw
        have hnx : ∀ ty, (Instr.next (.pointer (some ⟨w.heap.size, 0, none⟩)) true ty).run Tryd.prog (w.iter s pos) = _ := fun ty => run_next_ascii w s pos ty hp ha
        have HW := Lib.hid hw
        obtain ⟨c, hc⟩ : ∃ c : Nat, c = (s[pos]'hp).toNat := ⟨_, rfl⟩
        rw [← hc] at hnx
        have hd : digI (c : Int) = true ∨ (digI (c : Int) = false ∧ lttrI (c : Int) = true) := by
          rw [wordByte, ← hc] at hw
          cases h : digI (c : Int) <;> simp_all
        have HC := Lib.hid hc
        clear hc hw ha
        rcases hd with hd | ⟨hd, hl⟩
        all_goals
          go_wp2_with (first | (go_at_call 53; refine (isDigit_any _ _).mono ?_; rintro e w' ⟨rfl, rfl⟩) | (go_at_call 52; refine (isLetter_any _ _).mono ?_; rintro e w' ⟨rfl, rfl⟩))
          go_roundw
          case rel =>
            refine ⟨pos + 1, rfl, by omega, fun i h hi => ?_⟩
            rcases Nat.lt_or_ge i pos with h' | h'
            · exact HA.out i h h'
            · obtain rfl : i = pos := by omega
              exact HW.out
          case measure => simp; omega
      · obtain ⟨c, hc⟩ : ∃ c : Nat, c = (Utf8.decode s pos).1 := ⟨_, rfl⟩
        have hnx : ∀ ty, (Instr.next (.pointer (some ⟨w.heap.size, 0, none⟩)) true ty).run Tryd.prog (w.iter s pos) = _ := fun ty => run_next_any w s pos ty hp
        rw [← hc] at hnx
        have hd : digI (c : Int) = false ∧ lttrI (c : Int) = false := by
          by_cases ha : (s[pos]'hp).toNat < 128
          · rw [decode_ascii s pos hp ha] at hc
            simp only at hc
            subst hc
            simpa [wordByte] using hw
          · have := (decode_high s pos hp (by omega)).1
            exact ⟨digI_high (by omega), lttrI_high (by omega)⟩
        obtain ⟨hd, hl⟩ := hd
        have HE := Lib.hid (wordLen_eq s pos HA.out (fun _ => by simpa using hw) hpos)
        clear hc hw
        go_wp2_with (first | (go_at_call 53; refine (isDigit_any _ _).mono ?_; rintro e w' ⟨rfl, rfl⟩) | (go_at_call 52; refine (isLetter_any _ _).mono ?_; rintro e w' ⟨rfl, rfl⟩))
        go_ret
        exact ⟨by rw [HE.out]; rfl, (Below.refl _ _).alloc (Nat.le_refl _) _⟩
    · have hnx : ∀ ty, (Instr.next (.pointer (some ⟨w.heap.size, 0, none⟩)) true ty).run Tryd.prog (w.iter s pos) = _ := fun ty => run_next_end w s pos ty hp
      have HE := Lib.hid (wordLen_eq s s.size (fun i h hi => HA.out i h (by omega)) (fun h => absurd h (by omega)) (Nat.le_refl _))
      go_wp2
      go_ret
      exact ⟨by rw [HE.out]; rfl, (Below.refl _ _).alloc (Nat.le_refl _) _⟩
end Go.Proofs.YtaipljdpkgdheaaDoor
