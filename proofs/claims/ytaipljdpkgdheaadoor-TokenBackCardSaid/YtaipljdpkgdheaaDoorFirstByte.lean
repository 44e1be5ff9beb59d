/- Package value: the byte with which a text in quotes begins, and how much of the text it takes. -/
import Derived.Test.YtaipljdpkgdheaaDoorShow
namespace Go.Proofs.YtaipljdpkgdheaaDoor
open Go Go.RowKit

theorem index_range (l : List UInt8) (c : UInt8) : Lib.indexByte l c = -1 ∨ ∃ i : Nat, i < l.length ∧ Lib.indexByte l c = (i : Int) := by
  induction l with
  | nil => exact Or.inl rfl
  | cons b l ih =>
    rw [Lib.indexByte]
    split
    · exact Or.inr ⟨0, by simp, rfl⟩
    · rcases ih with h | ⟨i, hi, h⟩
      · rw [h]; exact Or.inl rfl
      · rw [h, if_neg (by simp)]
        exact Or.inr ⟨i + 1, by simp; omega, by omega⟩
theorem idx_of (t : ByteArray) (c : UInt8) (w : World) : Calls Tryd.prog 54 #[.string t, .int .u8 (c.toNat : Int)] w fun e w' => e = .returned (.int .i64 (Lib.indexByte t.data.toList c)) ∧ w' = w := by
  have h := Tryd.strings_IndexByte t (c.toNat : Int) w
  rw [byte_back] at h
  exact h
theorem u8_wrap (x : Int) : ∃ c : UInt8, IntKind.u8.wrap x = (c.toNat : Int) := by
  have h1 : IntKind.u8.wrap x = x % 256 := by simp [IntKind.wrap, IntKind.bits, IntKind.signed]
  refine ⟨UInt8.ofNat (x % 256).toNat, ?_⟩
  rw [h1, UInt8.toNat_ofNat']
  have h2 := Int.emod_nonneg x (show (256 : Int) ≠ 0 by decide)
  have h3 := Int.emod_lt_of_pos x (show (0 : Int) < 256 by decide)
  omega
def letS : ByteArray := ⟨#[34, 92, 110, 116]⟩

set_option maxHeartbeats 8000000 in
set_option maxRecDepth 100000 in
theorem firstByte_any (s : ByteArray) (w : World) (h0 : 0 < s.size) (hm : s.size ≤ 9223372036854775807) :
    Calls Tryd.prog 89 #[.string s] w fun e w' => (∃ (c : UInt8) (z : Nat), e = .returned (.tuple #[.int .u8 (c.toNat : Int), .int .i64 z]) ∧ z ≤ s.size ∧ z ≤ 4) ∧ Below w.heap.size w w' := by
  have k0 : (0 : Int) < (s.size : Int) := by omega
  by_cases h92 : s[0]'h0 = 92
  · by_cases h2 : s.size < 2
    · have k1 : (s.size : Int) < 2 := by omega
      go_enter Tryd.func89, Tryd.ntmps89
      go_wp2_with fail
      go_ret2
      exact ⟨⟨0, 0, rfl, by omega, by omega⟩, by first | exact Below.refl _ _ | exact (Below.refl _ _).drew⟩
    · have k1 : ¬ (s.size : Int) < 2 := by omega
      have k2 : (1 : Int) < (s.size : Int) := by omega
      have hs1 : 1 < s.size := by omega
      have HI := Lib.hid (fun W => idx_of letS (s[1]'hs1) W)
      rcases index_range letS.data.toList (s[1]'hs1) with hi | ⟨i, hi, he⟩
      · rw [hi] at HI
        by_cases hx : s[1]'hs1 = 120
        · rw [hx] at HI
          by_cases h4 : s.size < 4
          · have k3 : (s.size : Int) < 4 := by omega
            go_enter Tryd.func89, Tryd.ntmps89
            go_wp2_with fail
            refine (HI.out _).mono ?_; rintro e w1 ⟨rfl, hw1⟩
            subst hw1
            go_wp2_with fail
            go_ret2
            exact ⟨⟨0, 0, rfl, by omega, by omega⟩, by first | exact Below.refl _ _ | exact (Below.refl _ _).drew⟩
          · have k3 : ¬ (s.size : Int) < 4 := by omega
            have k4 : (2 : Int) < (s.size : Int) := by omega
            have k5 : (3 : Int) < (s.size : Int) := by omega
            have hs2 : 2 < s.size := by omega
            have hs3 : 3 < s.size := by omega
            have HJ := Lib.hid (fun W => idx_of hexS (s[2]'hs2) W)
            have HK := Lib.hid (fun W => idx_of hexS (s[3]'hs3) W)
            obtain ⟨H, hH⟩ : ∃ H, H = Lib.indexByte hexS.data.toList (s[2]'hs2) := ⟨_, rfl⟩
            obtain ⟨L, hL⟩ : ∃ L, L = Lib.indexByte hexS.data.toList (s[3]'hs3) := ⟨_, rfl⟩
            rw [← hH] at HJ
            rw [← hL] at HK
            unfold hexS at HJ HK
            have bH : H < 0 ∨ (0 ≤ H ∧ H < 16) := by
              rcases index_range hexS.data.toList (s[2]'hs2) with h | ⟨i, h1, h2⟩
              · omega
              · have h1 : i < 16 := h1
                omega
            clear hH hL h2 h4
            rcases bH with bH | ⟨bH0, bH1⟩
            · go_enter Tryd.func89, Tryd.ntmps89
              go_wp2_with fail
              refine (HI.out _).mono ?_; rintro e w1 ⟨rfl, hw1⟩
              subst hw1
              go_wp2_with fail
              go_region_held3 (fun _ => True) (trivial) (first
                | (go_at_call 54; (with_reducible refine (HJ.out _).mono ?_); rintro e w4 ⟨rfl, hw⟩; subst hw)
                | (go_at_call 54; (with_reducible refine (HK.out _).mono ?_); rintro e w4 ⟨rfl, hw⟩; subst hw))
              all_goals
                go_wp2_with fail
                go_ret2
                exact ⟨⟨0, 0, rfl, by omega, by omega⟩, by first | exact Below.refl _ _ | exact (Below.refl _ _).drew⟩
            · have nH : ¬ H < 0 := by omega
              by_cases bL : L < 0
              · go_enter Tryd.func89, Tryd.ntmps89
                go_wp2_with fail
                refine (HI.out _).mono ?_; rintro e w1 ⟨rfl, hw1⟩
                subst hw1
                go_wp2_with fail
                go_region_held3 (fun _ => True) (trivial) (first
                  | (go_at_call 54; (with_reducible refine (HJ.out _).mono ?_); rintro e w4 ⟨rfl, hw⟩; subst hw)
                  | (go_at_call 54; (with_reducible refine (HK.out _).mono ?_); rintro e w4 ⟨rfl, hw⟩; subst hw))
                all_goals
                  go_wp2_with fail
                  go_ret2
                  exact ⟨⟨0, 0, rfl, by omega, by omega⟩, by first | exact Below.refl _ _ | exact (Below.refl _ _).drew⟩
              · go_enter Tryd.func89, Tryd.ntmps89
                go_wp2_with fail
                refine (HI.out _).mono ?_; rintro e w1 ⟨rfl, hw1⟩
                subst hw1
                go_wp2_with fail
                go_region_held3 (fun _ => True) (trivial) (first
                  | (go_at_call 54; (with_reducible refine (HJ.out _).mono ?_); rintro e w4 ⟨rfl, hw⟩; subst hw)
                  | (go_at_call 54; (with_reducible refine (HK.out _).mono ?_); rintro e w4 ⟨rfl, hw⟩; subst hw))
                all_goals
                  go_wp2_with fail
                  go_ret2
                  refine ⟨⟨(u8_wrap _).choose, 4, by rw [← (u8_wrap _).choose_spec]; rfl, by omega, by omega⟩, by first | exact Below.refl _ _ | exact (Below.refl _ _).drew⟩
        · have hne : ((s[1]'hs1).toNat : Int) ≠ 120 := by
            intro h
            apply hx
            apply UInt8.toNat_inj.1
            have : (s[1]'hs1).toNat = 120 := by omega
            rw [this]; rfl
          have hq : ((((s[1]'hs1).toNat : Int)) != 120) = true := by rw [bne_iff_ne]; exact hne
          clear hx
          go_enter Tryd.func89, Tryd.ntmps89
          go_wp2_with fail
          refine (HI.out _).mono ?_; rintro e w1 ⟨rfl, hw1⟩
          subst hw1
          go_wp2_with fail
          go_ret2
          exact ⟨⟨0, 0, rfl, by omega, by omega⟩, by first | exact Below.refl _ _ | exact (Below.refl _ _).drew⟩
      · rw [he] at HI
        have hi4 : i < 4 := hi
        have i0 : (0 : Int) ≤ (i : Int) := by omega
        have i1 : (i : Int) < 4 := by omega
        go_enter Tryd.func89, Tryd.ntmps89
        go_wp2_with fail
        refine (HI.out _).mono ?_; rintro e w1 ⟨rfl, hw1⟩
        subst hw1
        go_wp2_with fail
        go_ret2
        exact ⟨⟨escS[i]'hi4, 2, rfl, by omega, by omega⟩, by first | exact Below.refl _ _ | exact (Below.refl _ _).drew⟩
  · have hne : ((s[0]'h0).toNat : Int) ≠ 92 := by
      intro h
      apply h92
      apply UInt8.toNat_inj.1
      have : (s[0]'h0).toNat = 92 := by omega
      rw [this]; rfl
    have hq : ((((s[0]'h0).toNat : Int)) != 92) = true := by rw [bne_iff_ne]; exact hne
    clear h92
    go_enter Tryd.func89, Tryd.ntmps89
    go_wp2_with fail
    go_ret2
    exact ⟨⟨s[0]'h0, 1, rfl, by omega, by omega⟩, by first | exact Below.refl _ _ | exact (Below.refl _ _).drew⟩
end Go.Proofs.YtaipljdpkgdheaaDoor
