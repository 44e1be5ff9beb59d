/- Package token: a character of a string. -/
import Derived.Test.YtaipljdpkgdheaaDoorHex
namespace Go.Proofs.YtaipljdpkgdheaaDoor
open Go Go.RowKit

def lettersS : ByteArray := ⟨#[34, 92, 110, 116]⟩
theorem byte_back (c : UInt8) : ((c.toNat : Int).toNat).toUInt8 = c := by
  rw [Int.toNat_natCast]
  exact UInt8.ofNat_toNat
theorem letter_idx (c : UInt8) (w : World) : Calls Tryd.prog 54 #[.string lettersS, .int .u8 (c.toNat : Int)] w fun e w' => e = .returned (.int .i64 (Lib.indexByte lettersS.data.toList c)) ∧ w' = w := by
  have h := Tryd.strings_IndexByte lettersS (c.toNat : Int) w
  rw [byte_back] at h
  exact h
theorem letter_none (c : UInt8) (h1 : c ≠ 34) (h2 : c ≠ 92) (h3 : c ≠ 110) (h4 : c ≠ 116) : Lib.indexByte lettersS.data.toList c = -1 := by
  have e1 : ((34 : UInt8) == c) = false := beq_eq_false_iff_ne.2 (Ne.symm h1)
  have e2 : ((92 : UInt8) == c) = false := beq_eq_false_iff_ne.2 (Ne.symm h2)
  have e3 : ((110 : UInt8) == c) = false := beq_eq_false_iff_ne.2 (Ne.symm h3)
  have e4 : ((116 : UInt8) == c) = false := beq_eq_false_iff_ne.2 (Ne.symm h4)
  simp [lettersS, Lib.indexByte, e1, e2, e3, e4]
theorem hex_no {l : List UInt8} (h0 : ¬ (hexR l).2 = 0) : (hexR l).1 = 0 := by
  cases l with
  | nil => rfl
  | cons a r =>
    cases ha : hexU a with
    | none => simp [hexR, ha]
    | some x =>
      cases r with
      | nil => simp [hexR, ha]
      | cons b r =>
        cases hb : hexU b with
        | none => simp [hexR, ha, hb]
        | some y => simp [hexR, ha, hb] at h0
def charV (R : UInt8 × Nat × Int) : Value := .tuple #[.int .u8 (R.1.toNat : Int), .int .i64 (R.2.1 : Int), .int .i64 R.2.2]

set_option maxHeartbeats 8000000 in
set_option maxRecDepth 100000 in
theorem character_any (s : ByteArray) (w : World) (hs : 0 < s.size) :
    Calls Tryd.prog 57 #[.string s] w fun e w' => e = .returned (charV (charR s.data.toList)) ∧ w = w' := by
  obtain ⟨R, hR⟩ : ∃ R, R = charR s.data.toList := ⟨_, rfl⟩
  rw [← hR]
  have hl := list_cons s hs
  rw [hl] at hR
  have k0 : (0 : Int) < (s.size : Int) := by omega
  by_cases h1 : (s[0]'hs).toNat < 32 ∨ 126 < (s[0]'hs).toNat
  · rw [char_ctl h1] at hR
    have HE := Lib.hid hR
    clear hR hl
    rcases h1 with h | h
    · have k1 : ((s[0]'hs).toNat : Int) < 32 := by omega
      go_enter Tryd.func57, Tryd.ntmps57
      go_wp2_with fail
      go_ret3
      exact ⟨by rw [HE.out]; rfl, rfl⟩
    · have k1 : ¬ ((s[0]'hs).toNat : Int) < 32 := by omega
      have k2 : (126 : Int) < ((s[0]'hs).toNat : Int) := by omega
      go_enter Tryd.func57, Tryd.ntmps57
      go_wp2_with fail
      go_ret3
      exact ⟨by rw [HE.out]; rfl, rfl⟩
  have k1 : ¬ ((s[0]'hs).toNat : Int) < 32 := by omega
  have k2 : ¬ (126 : Int) < ((s[0]'hs).toNat : Int) := by omega
  by_cases h2 : s[0]'hs = 92
  · have k3 : (s[0]'hs).toNat = (92 : UInt8).toNat := by rw [h2]
    rw [h2] at hR
    clear k1 k2 h1 h2 hl
    by_cases h3 : s.size = 1
    · have HE := Lib.hid (show R = (0, 0, 52) by
        rw [hR, List.drop_eq_nil_of_le (show s.size ≤ 1 by omega)]
        rfl)
      have k4 : (s.size : Int) = 1 := by omega
      clear hR
      go_enter Tryd.func57, Tryd.ntmps57
      go_wp2_with fail
      go_ret3
      exact ⟨by rw [HE.out]; rfl, rfl⟩
    have h4 : 1 < s.size := by omega
    have k4 : ¬ (s.size : Int) = 1 := by omega
    have k5 : (1 : Int) < (s.size : Int) := by omega
    have hd : s.data.toList.drop 1 = s[1]'h4 :: s.data.toList.drop 2 := rest_cons (t := s) (q := 1) h4
    rw [hd] at hR
    clear hd h3
    by_cases h5 : s[1]'h4 = 120
    · have k6 : (s[1]'h4).toNat = (120 : UInt8).toNat := by rw [h5]
      rw [h5, char_hex] at hR
      by_cases h0 : (hexR (s.data.toList.drop 2)).2 = 0
      · have HX := Lib.hid (hexadecimal_any s w 4 (by omega) (by rw [if_pos h0]))
        rw [if_pos h0] at hR
        have HR := Lib.hid hR
        have H0 := Lib.hid h0
        clear hR h5 h0
        go_enter Tryd.func57, Tryd.ntmps57
        go_wp2_with fail
        refine HX.out.mono ?_; rintro e w' ⟨rfl, rfl⟩
        go_wp2_with fail
        go_ret3
        refine ⟨?_, rfl⟩
        rw [HR.out, H0.out]
        rfl
      · have HX := Lib.hid (hexadecimal_any s w 0 (by omega) (by rw [if_neg h0]))
        rw [if_neg h0] at hR
        have HR := Lib.hid hR
        have H1 := Lib.hid (hex_no h0)
        clear hR h5 h0
        go_enter Tryd.func57, Tryd.ntmps57
        go_wp2_with fail
        refine HX.out.mono ?_; rintro e w' ⟨rfl, rfl⟩
        go_wp2_with fail
        go_ret3
        refine ⟨?_, rfl⟩
        rw [HR.out, H1.out]
        rfl
    · have b6 := u8_ne h5 (n := 120) rfl
      rw [char_letter h5] at hR
      have HI := Lib.hid (letter_idx (s[1]'h4) w)
      by_cases c1 : s[1]'h4 = 34
      · rw [if_pos c1] at hR
        rw [c1, show Lib.indexByte lettersS.data.toList 34 = 0 from rfl] at HI
        have k6 : (s[1]'h4).toNat = (34 : UInt8).toNat := by rw [c1]
        have HE := Lib.hid hR
        clear hR h5 b6 c1
        go_enter Tryd.func57, Tryd.ntmps57
        go_wp2_with fail
        refine HI.out.mono ?_; rintro e w' ⟨rfl, rfl⟩
        go_wp2_with fail
        go_ret3
        exact ⟨by rw [HE.out]; rfl, rfl⟩
      rw [if_neg c1] at hR
      by_cases c2 : s[1]'h4 = 92
      · rw [if_pos c2] at hR
        rw [c2, show Lib.indexByte lettersS.data.toList 92 = 1 from rfl] at HI
        have k6 : (s[1]'h4).toNat = (92 : UInt8).toNat := by rw [c2]
        have HE := Lib.hid hR
        clear hR h5 b6 c1 c2
        go_enter Tryd.func57, Tryd.ntmps57
        go_wp2_with fail
        refine HI.out.mono ?_; rintro e w' ⟨rfl, rfl⟩
        go_wp2_with fail
        go_ret3
        exact ⟨by rw [HE.out]; rfl, rfl⟩
      rw [if_neg c2] at hR
      by_cases c3 : s[1]'h4 = 110
      · rw [if_pos c3] at hR
        rw [c3, show Lib.indexByte lettersS.data.toList 110 = 2 from rfl] at HI
        have k6 : (s[1]'h4).toNat = (110 : UInt8).toNat := by rw [c3]
        have HE := Lib.hid hR
        clear hR h5 b6 c1 c2 c3
        go_enter Tryd.func57, Tryd.ntmps57
        go_wp2_with fail
        refine HI.out.mono ?_; rintro e w' ⟨rfl, rfl⟩
        go_wp2_with fail
        go_ret3
        exact ⟨by rw [HE.out]; rfl, rfl⟩
      rw [if_neg c3] at hR
      by_cases c4 : s[1]'h4 = 116
      · rw [if_pos c4] at hR
        rw [c4, show Lib.indexByte lettersS.data.toList 116 = 3 from rfl] at HI
        have k6 : (s[1]'h4).toNat = (116 : UInt8).toNat := by rw [c4]
        have HE := Lib.hid hR
        clear hR h5 b6 c1 c2 c3 c4
        go_enter Tryd.func57, Tryd.ntmps57
        go_wp2_with fail
        refine HI.out.mono ?_; rintro e w' ⟨rfl, rfl⟩
        go_wp2_with fail
        go_ret3
        exact ⟨by rw [HE.out]; rfl, rfl⟩
      rw [if_neg c4] at hR
      rw [letter_none _ c1 c2 c3 c4] at HI
      have HE := Lib.hid hR
      clear hR h5 c1 c2 c3 c4
      go_enter Tryd.func57, Tryd.ntmps57
      go_wp2_with fail
      refine HI.out.mono ?_; rintro e w' ⟨rfl, rfl⟩
      go_wp2_with fail
      go_ret3
      exact ⟨by rw [HE.out]; rfl, rfl⟩
  · have b3 := u8_ne h2 (n := 92) rfl
    have HE := Lib.hid (show R = (s[0]'hs, 1, 0) by rw [hR, char_self h1 h2])
    clear hR h1 h2 hl
    go_enter Tryd.func57, Tryd.ntmps57
    go_wp2_with fail
    go_ret3
    exact ⟨by rw [HE.out]; rfl, rfl⟩
end Go.Proofs.YtaipljdpkgdheaaDoor
