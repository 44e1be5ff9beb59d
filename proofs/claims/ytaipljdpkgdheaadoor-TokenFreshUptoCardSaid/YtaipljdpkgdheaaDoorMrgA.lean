/- Texts put together: RefByte, RefRun, RefSmall, RefHex, RefChar. -/
import Derived.Test.YtaipljdpkgdheaaDoorSmall
import Derived.Test.YtaipljdpkgdheaaDoorLimSpec
import Derived.Test.YtaipljdpkgdheaaDoorEnc
import Derived.Sort.Walk0
import Derived.Deep.LoopGhost
/- The reference's letter, digit, blank, and a hexadecimal digit's worth. -/
namespace Go.Proofs.YtaipljdpkgdheaaDoor
open Go Go.RowKit

theorem refBlank_any (c : UInt8) (w : World) : Calls Tryd.prog 62 #[.int .u8 (c.toNat : Int)] w fun e w' => e = .returned (.bool (blankU c)) ∧ w = w' := by
  by_cases h1 : c = 32
  · subst h1
    go_enter Tryd.func62, Tryd.ntmps62
    go_wp2
    go_ret
    exact ⟨rfl, rfl⟩
  by_cases h2 : c = 9
  · subst h2
    go_enter Tryd.func62, Tryd.ntmps62
    go_wp2
    go_ret
    exact ⟨rfl, rfl⟩
  by_cases h3 : c = 10
  · subst h3
    go_enter Tryd.func62, Tryd.ntmps62
    go_wp2
    go_ret
    exact ⟨rfl, rfl⟩
  have b1 := u8_ne h1 (n := 32) rfl
  have b2 := u8_ne h2 (n := 9) rfl
  have b3 := u8_ne h3 (n := 10) rfl
  have HE := Lib.hid (show blankU c = ((c.toNat : Int) == 13) by
    unfold blankU
    rw [beq_eq_false_iff_ne.2 h1, beq_eq_false_iff_ne.2 h2, beq_eq_false_iff_ne.2 h3, Bool.false_or, Bool.false_or, Bool.false_or, Bool.eq_iff_iff, beq_iff_eq, beq_iff_eq]
    constructor
    · rintro rfl; rfl
    · intro e; exact UInt8.toNat_inj.1 (by simpa using Int.ofNat.inj e))
  clear h1 h2 h3
  go_enter Tryd.func62, Tryd.ntmps62
  go_wp2
  go_ret
  exact ⟨by rw [HE.out]; rfl, rfl⟩
theorem refDigit_any (c : UInt8) (w : World) : Calls Tryd.prog 65 #[.int .u8 (c.toNat : Int)] w fun e w' => e = .returned (.bool (digU c)) ∧ w = w' := by
  obtain ⟨n, hn⟩ : ∃ n, n = c.toNat := ⟨_, rfl⟩
  have HE := Lib.hid (show digU c = (decide ((48 : Int) ≤ (n : Int)) && decide ((n : Int) ≤ 57)) by rw [hn]; rfl)
  rw [← hn]
  clear hn
  rcases (show (n : Int) < 48 ∨ (48 ≤ (n : Int) ∧ (n : Int) ≤ 57) ∨ 57 < (n : Int) by omega) with r | ⟨r, r2⟩ | r
  · have r1 : ¬ (48 : Int) ≤ (n : Int) := by omega
    have HF := Lib.hid (show digU c = false by rw [HE.out, decide_eq_false r1]; rfl)
    go_enter Tryd.func65, Tryd.ntmps65
    go_wp2
    go_ret
    exact ⟨by rw [HF.out]; rfl, rfl⟩
  · have HF := Lib.hid (show digU c = true by rw [HE.out, decide_eq_true r, decide_eq_true r2]; rfl)
    go_enter Tryd.func65, Tryd.ntmps65
    go_wp2
    go_ret
    exact ⟨by rw [HF.out]; rfl, rfl⟩
  · have r1 : (48 : Int) ≤ (n : Int) := by omega
    have r2 : ¬ (n : Int) ≤ 57 := by omega
    have HF := Lib.hid (show digU c = false by rw [HE.out, decide_eq_false r2, Bool.and_false])
    go_enter Tryd.func65, Tryd.ntmps65
    go_wp2
    go_ret
    exact ⟨by rw [HF.out]; rfl, rfl⟩
theorem refLetter_any (c : UInt8) (w : World) : Calls Tryd.prog 63 #[.int .u8 (c.toNat : Int)] w fun e w' => e = .returned (.bool (letU c)) ∧ w = w' := by
  obtain ⟨n, hn⟩ : ∃ n, n = c.toNat := ⟨_, rfl⟩
  have HE := Lib.hid (show letU c = lttrI (n : Int) by rw [hn]; rfl)
  rw [← hn]
  clear hn
  rcases (show (n : Int) < 65 ∨ (65 ≤ (n : Int) ∧ (n : Int) ≤ 90) ∨ (90 < (n : Int) ∧ (n : Int) < 95) ∨ (n : Int) = 95 ∨ (n : Int) = 96 ∨ (97 ≤ (n : Int) ∧ (n : Int) ≤ 122) ∨ 122 < (n : Int) by omega) with r | ⟨r, r2⟩ | ⟨r, r2⟩ | r | r | ⟨r, r2⟩ | r
  all_goals
    have q1 : (97 : Int) ≤ (n : Int) ∨ ¬ (97 : Int) ≤ (n : Int) := by omega
    have q2 : (n : Int) ≤ 122 ∨ ¬ (n : Int) ≤ 122 := by omega
    have q3 : (65 : Int) ≤ (n : Int) ∨ ¬ (65 : Int) ≤ (n : Int) := by omega
    have q4 : (n : Int) ≤ 90 ∨ ¬ (n : Int) ≤ 90 := by omega
    have q5 : ((n : Int) == 95) = true ∨ ((n : Int) == 95) = false := by cases ((n : Int) == 95) <;> simp
    first
      | (have HF := Lib.hid (show letU c = true by
          rw [HE.out]; unfold lttrI; simp only [Bool.or_eq_true, Bool.and_eq_true, decide_eq_true_eq, beq_iff_eq]; omega)
         have p1 : (97 : Int) ≤ (n : Int) := by omega
         have p2 : (n : Int) ≤ 122 := by omega
         clear q1 q2 q3 q4 q5
         go_enter Tryd.func63, Tryd.ntmps63
         go_wp2
         go_ret
         exact ⟨by rw [HF.out]; rfl, rfl⟩)
      | (have HF := Lib.hid (show letU c = true by
          rw [HE.out]; unfold lttrI; simp only [Bool.or_eq_true, Bool.and_eq_true, decide_eq_true_eq, beq_iff_eq]; omega)
         have p1 : ¬ (97 : Int) ≤ (n : Int) := by omega
         have p3 : (65 : Int) ≤ (n : Int) := by omega
         have p4 : (n : Int) ≤ 90 := by omega
         clear q1 q2 q3 q4 q5
         go_enter Tryd.func63, Tryd.ntmps63
         go_wp2
         go_ret
         exact ⟨by rw [HF.out]; rfl, rfl⟩)
      | (have HF := Lib.hid (show letU c = true by
          rw [HE.out]; unfold lttrI; simp only [Bool.or_eq_true, Bool.and_eq_true, decide_eq_true_eq, beq_iff_eq]; omega)
         rw [r]
         clear q1 q2 q3 q4 q5
         go_enter Tryd.func63, Tryd.ntmps63
         go_wp2
         go_ret
         exact ⟨by rw [HF.out]; rfl, rfl⟩)
      | (have HF := Lib.hid (show letU c = false by
          rw [HE.out, ← Bool.not_eq_true]; unfold lttrI; simp only [Bool.or_eq_true, Bool.and_eq_true, decide_eq_true_eq, beq_iff_eq]; omega)
         have p5 : ((n : Int) == 95) = false := by rw [beq_eq_false_iff_ne]; omega
         clear q5
         rcases q1 with q1 | q1 <;> rcases q2 with q2 | q2 <;> rcases q3 with q3 | q3 <;> rcases q4 with q4 | q4 <;> first
           | (exfalso; omega)
           | (go_enter Tryd.func63, Tryd.ntmps63
              go_wp2
              go_ret
              exact ⟨by rw [HF.out]; rfl, rfl⟩))
end Go.Proofs.YtaipljdpkgdheaaDoor
/- The reference's skip, run, small and hex. -/
namespace Go.Proofs.YtaipljdpkgdheaaDoor
open Go Go.RowKit

def runP (b : Bool) (c : UInt8) : Bool := digU c || (b && letU c)
theorem skip_in {b : UInt8} {r : List UInt8} (h : ¬ b = 10) : skipR true (b :: r) = skipR true r := by rw [skipR, if_neg h]
theorem skip_nl {r : List UInt8} : skipR true (10 :: r) = skipR false (10 :: r) := by rw [skipR, if_pos rfl, skip_blank (by decide)]
theorem rest_nil {t : ByteArray} {k : Nat} (h : t.size ≤ k) : restB t k = [] := List.drop_eq_nil_of_le h

set_option maxHeartbeats 4000000 in
set_option maxRecDepth 100000 in
theorem refRun_any (t : ByteArray) (i : Nat) (b : Bool) (w : World) (hi : i ≤ t.size) (ht : t.size ≤ 140737488355328) :
    Calls Tryd.prog 64 #[.string t, .int .i64 (i : Int), .bool b] w fun e w' => e = .returned (.int .i64 ((i + ((restB t i).takeWhile (runP b)).length : Nat) : Int)) ∧ w = w' := by
  obtain ⟨N, hN⟩ : ∃ N, N = i + ((restB t i).takeWhile (runP b)).length := ⟨_, rfl⟩
  rw [← hN]
  have HN := Lib.hid hN
  clear hN
  go_enter Tryd.func64, Tryd.ntmps64
  go_wp2_with fail
  go_loopw [1] (fun v wr => ∃ k : Nat, k ≤ t.size ∧ v = .int .i64 (k : Int) ∧ k + ((restB t k).takeWhile (runP b)).length = N ∧ wr = w) (fun v _ => t.size - (intOf v).toNat)
  case atStart => exact ⟨i, hi, rfl, HN.out.symm, rfl⟩
  case round =>
    obtain ⟨k, hk, rfl, hkn, rfl⟩ := hrel
    have HK := Lib.hid hkn
    have k0 : (0 : Int) ≤ (k : Int) := by omega
    clear hkn
    by_cases hlt : k < t.size
    · have k1 : (k : Int) < (t.size : Int) := by omega
      have HC := Lib.hid (rest_cons hlt)
      have HD := Lib.hid (refDigit_any (t[k]'hlt) wr)
      have HL := Lib.hid (refLetter_any (t[k]'hlt) wr)
      cases hd : digU (t[k]'hlt)
      · rw [hd] at HD
        cases b
        · have HP := Lib.hid (show runP false (t[k]'hlt) = false by unfold runP; rw [hd]; rfl)
          clear hd
          go_wp2_with (first | (go_at_call 65; refine HD.out.mono ?_; rintro e w' ⟨rfl, rfl⟩) | (go_at_call 63; refine HL.out.mono ?_; rintro e w' ⟨rfl, rfl⟩))
          go_ret
          refine ⟨?_, rfl⟩
          have h := HK.out
          rw [HC.out, List.takeWhile_cons, HP.out] at h
          simp at h
          rw [← h]; rfl
        · cases hl : letU (t[k]'hlt)
          · rw [hl] at HL
            have HP := Lib.hid (show runP true (t[k]'hlt) = false by unfold runP; rw [hd, hl]; rfl)
            clear hd hl
            go_wp2_with (first | (go_at_call 65; refine HD.out.mono ?_; rintro e w' ⟨rfl, rfl⟩) | (go_at_call 63; refine HL.out.mono ?_; rintro e w' ⟨rfl, rfl⟩))
            go_ret
            refine ⟨?_, rfl⟩
            have h := HK.out
            rw [HC.out, List.takeWhile_cons, HP.out] at h
            simp at h
            rw [← h]; rfl
          · rw [hl] at HL
            have HP := Lib.hid (show runP true (t[k]'hlt) = true by unfold runP; rw [hl]; simp)
            clear hd hl
            go_wp2_with (first | (go_at_call 65; refine HD.out.mono ?_; rintro e w' ⟨rfl, rfl⟩) | (go_at_call 63; refine HL.out.mono ?_; rintro e w' ⟨rfl, rfl⟩))
            go_roundw
            case rel =>
              refine ⟨k + 1, by omega, by go_num, ?_, by first | rfl | trivial⟩
              have h := HK.out
              rw [HC.out, List.takeWhile_cons, HP.out] at h
              simp only [if_true, List.length_cons] at h
              omega
            case measure => simp [intOf]; omega
      · rw [hd] at HD
        have HP := Lib.hid (show runP b (t[k]'hlt) = true by unfold runP; rw [hd]; rfl)
        clear hd
        go_wp2_with (first | (go_at_call 65; refine HD.out.mono ?_; rintro e w' ⟨rfl, rfl⟩) | (go_at_call 63; refine HL.out.mono ?_; rintro e w' ⟨rfl, rfl⟩))
        go_roundw
        case rel =>
          refine ⟨k + 1, by omega, by go_num, ?_, by first | rfl | trivial⟩
          have h := HK.out
          rw [HC.out, List.takeWhile_cons, HP.out] at h
          simp only [if_true, List.length_cons] at h
          omega
        case measure => simp [intOf]; omega
    · have k1 : ¬ (k : Int) < (t.size : Int) := by omega
      go_wp2_with fail
      go_ret
      refine ⟨?_, rfl⟩
      have h := HK.out
      rw [rest_nil (by omega)] at h
      simp at h
      rw [← h]; rfl

set_option maxHeartbeats 4000000 in
set_option maxRecDepth 100000 in
theorem refSkip_any (t : ByteArray) (i : Nat) (w : World) (hi : i ≤ t.size) (ht : t.size ≤ 140737488355328) :
    Calls Tryd.prog 44 #[.string t, .int .i64 (i : Int)] w fun e w' => (∃ j : Nat, e = .returned (.int .i64 (j : Int)) ∧ i ≤ j ∧ j ≤ t.size ∧ restB t j = skipR false (restB t i)) ∧ w = w' := by
  obtain ⟨S, hS⟩ : ∃ S, S = skipR false (restB t i) := ⟨_, rfl⟩
  rw [← hS]
  have HS := Lib.hid hS
  clear hS
  go_enter Tryd.func44, Tryd.ntmps44
  go_wp2_with fail
  go_loopw [1] (fun v wr => ∃ k : Nat, i ≤ k ∧ k ≤ t.size ∧ v = .int .i64 (k : Int) ∧ skipR false (restB t k) = S ∧ wr = w) (fun v _ => t.size - (intOf v).toNat)
  case atStart => exact ⟨i, Nat.le_refl _, hi, rfl, HS.out.symm, rfl⟩
  case round =>
    obtain ⟨k, hik, hk, rfl, hks, rfl⟩ := hrel
    have HK := Lib.hid hks
    have k0 : (0 : Int) ≤ (k : Int) := by omega
    clear hks
    by_cases hlt : k < t.size
    · have k1 : (k : Int) < (t.size : Int) := by omega
      have HC := Lib.hid (rest_cons hlt)
      have HB := Lib.hid (refBlank_any (t[k]'hlt) wr)
      cases hb : blankU (t[k]'hlt)
      · rw [hb] at HB
        by_cases h45 : t[k]'hlt = 45
        · have q45 : (((t[k]'hlt).toNat : Int) != 45) = false := by rw [h45]; rfl
          by_cases hl2 : k + 1 < t.size
          · have l2 : (k : Int) + 1 < (t.size : Int) := by omega
            have HC2 := Lib.hid (rest_cons hl2)
            have k2 : (0 : Int) ≤ (k : Int) + 1 := by omega
            have g2 : decide ((t.size : Int) ≤ (k : Int) + 1) = false := by rw [decide_eq_false_iff_not]; omega
            by_cases h2 : t[k + 1]'hl2 = 45
            · have p45 : (((t[k + 1]'hl2).toNat : Int) != 45) = false := by rw [h2]; rfl
              have HNT := Lib.hid (show skipR true (restB t k) = S by
                rw [← HK.out, HC.out, HC2.out, h45, h2, skip_note, skip_in (by decide), skip_in (by decide)])
              have HNE := Lib.hid (show ¬ t[k]'hlt = 10 by rw [h45]; decide)
              clear hb h45 h2
              go_wp2_with ((go_at_call 62; refine HB.out.mono ?_; rintro e w' ⟨rfl, rfl⟩))
              go_loopw [1] (fun v wq => ∃ m : Nat, k ≤ m ∧ m ≤ t.size ∧ v = .int .i64 (m : Int) ∧ skipR true (restB t m) = S ∧ wq = wr) (fun v _ => t.size - (intOf v).toNat)
              case atStart => exact ⟨k, Nat.le_refl _, hk, rfl, HNT.out, rfl⟩
              case round =>
                obtain ⟨m, hkm, hm, rfl, hms, rfl⟩ := hrel
                have HM := Lib.hid hms
                have m0 : (0 : Int) ≤ (m : Int) := by omega
                clear hms
                by_cases hml : m < t.size
                · have m1 : (m : Int) < (t.size : Int) := by omega
                  have HCM := Lib.hid (rest_cons hml)
                  by_cases h10 : t[m]'hml = 10
                  · have r10 : (((t[m]'hml).toNat : Int) != 10) = false := by rw [h10]; rfl
                    have HX := Lib.hid (show skipR false (restB t m) = S by rw [← HM.out, HCM.out, h10, skip_nl])
                    have hmk : k < m := by
                      rcases Nat.lt_or_ge k m with h | h
                      · exact h
                      · obtain rfl : k = m := by omega
                        exact absurd h10 HNE.out
                    clear h10
                    go_wp2_with fail
                    go_roundw
                    case rel => exact ⟨m, by omega, hm, by go_num, HX.out, by first | rfl | trivial⟩
                    case measure => simp [intOf]; omega
                  · have r10 : (((t[m]'hml).toNat : Int) != 10) = true := by rw [bne, u8_ne h10 (n := 10) rfl]; rfl
                    have HX := Lib.hid (show skipR true (restB t (m + 1)) = S by rw [← HM.out, HCM.out, skip_in h10])
                    clear h10
                    go_wp2_with fail
                    go_roundw
                    case rel => exact ⟨m + 1, by omega, by omega, by go_num, HX.out, by first | rfl | trivial⟩
                    case measure => simp [intOf]; omega
                · have m1 : ¬ (m : Int) < (t.size : Int) := by omega
                  have HX := Lib.hid (show skipR false (restB t m) = S by
                    have h := HM.out
                    rw [rest_nil (by omega)] at h ⊢
                    rw [← h]
                    rfl)
                  have hmk : k < m := by omega
                  go_wp2_with fail
                  go_roundw
                  case rel => exact ⟨m, by omega, hm, by go_num, HX.out, by first | rfl | trivial⟩
                  case measure => simp [intOf]; omega
            · have p45 : (((t[k + 1]'hl2).toNat : Int) != 45) = true := by rw [bne, u8_ne h2 (n := 45) rfl]; rfl
              have HE := Lib.hid (show restB t k = S by
                rw [← HK.out, HC.out, HC2.out, skip_none hb (by rintro ⟨_, e⟩; simp at e; exact h2 e)])
              clear hb h45 h2
              go_wp2_with ((go_at_call 62; refine HB.out.mono ?_; rintro e w' ⟨rfl, rfl⟩))
              go_ret
              exact ⟨⟨k, rfl, hik, hk, HE.out⟩, rfl⟩
          · have l2 : ¬ (k : Int) + 1 < (t.size : Int) := by omega
            have g2 : decide ((t.size : Int) ≤ (k : Int) + 1) = true := by rw [decide_eq_true_iff]; omega
            have HE := Lib.hid (show restB t k = S by
              rw [← HK.out, HC.out, rest_nil (k := k + 1) (by omega), skip_none hb (by rintro ⟨_, e⟩; simp at e)])
            clear hb h45
            go_wp2_with ((go_at_call 62; refine HB.out.mono ?_; rintro e w' ⟨rfl, rfl⟩))
            go_ret
            exact ⟨⟨k, rfl, hik, hk, HE.out⟩, rfl⟩
        · have q45 : (((t[k]'hlt).toNat : Int) != 45) = true := by rw [bne, u8_ne h45 (n := 45) rfl]; rfl
          have HE := Lib.hid (show restB t k = S by
            rw [← HK.out, HC.out, skip_none hb (by rintro ⟨e, _⟩; exact h45 e)])
          clear hb h45
          go_wp2_with ((go_at_call 62; refine HB.out.mono ?_; rintro e w' ⟨rfl, rfl⟩))
          go_ret
          exact ⟨⟨k, rfl, hik, hk, HE.out⟩, rfl⟩
      · rw [hb] at HB
        have HE := Lib.hid (show skipR false (restB t (k + 1)) = S by rw [← HK.out, HC.out, skip_blank hb])
        clear hb
        go_wp2_with ((go_at_call 62; refine HB.out.mono ?_; rintro e w' ⟨rfl, rfl⟩))
        go_roundw
        case rel => exact ⟨k + 1, by omega, by omega, by go_num, HE.out, by first | rfl | trivial⟩
        case measure => simp [intOf]; omega
    · have k1 : ¬ (k : Int) < (t.size : Int) := by omega
      go_wp2_with fail
      go_ret
      refine ⟨⟨k, rfl, hik, hk, ?_⟩, rfl⟩
      rw [← HK.out, rest_nil (by omega)]
      rfl
end Go.Proofs.YtaipljdpkgdheaaDoor
/- The reference's small: a number that is written without a needless 0 and is at most 2^63 - 1. -/
namespace Go.Proofs.YtaipljdpkgdheaaDoor
open Go Go.RowKit

def smallB (l : List UInt8) : Bool := if 1 < l.length ∧ l.head? = some 48 then false else if l.length ≠ 19 then decide (l.length < 19) else !decide (mostL < l)
def valF (a : Nat) (l : List UInt8) : Nat := l.foldl (fun a c => 10 * a + (c.toNat - 48)) a
def valD (l : List UInt8) : Nat := valF 0 l
theorem valF_cons (a : Nat) (c : UInt8) (r : List UInt8) : valF a (c :: r) = valF (10 * a + (c.toNat - 48)) r := by simp only [valF, List.foldl_cons]
theorem valF_at (l : List UInt8) : ∀ a : Nat, valF a l = a * 10 ^ l.length + valF 0 l := by
  induction l with
  | nil => intro a; simp [valF]
  | cons c r ih =>
    intro a
    rw [valF_cons, valF_cons, ih (10 * a + (c.toNat - 48)), ih (10 * 0 + (c.toNat - 48)), List.length_cons, Nat.pow_succ]
    generalize c.toNat - 48 = d
    generalize valF 0 r = v
    generalize 10 ^ r.length = p
    rw [Nat.mul_zero, Nat.zero_add, Nat.add_mul, ← Nat.add_assoc, Nat.mul_comm p 10, ← Nat.mul_assoc, Nat.mul_comm 10 a]
theorem valD_cons (c : UInt8) (r : List UInt8) : valD (c :: r) = (c.toNat - 48) * 10 ^ r.length + valD r := by
  unfold valD
  rw [valF_cons, valF_at r]
  simp
theorem valD_snoc (r : List UInt8) (c : UInt8) : valD (r ++ [c]) = 10 * valD r + (c.toNat - 48) := by simp [valD, valF, List.foldl_append]
theorem dig_bounds {c : UInt8} (h : digU c = true) : 48 ≤ c.toNat ∧ c.toNat ≤ 57 := by
  unfold digU digI at h
  rw [Bool.and_eq_true, decide_eq_true_eq, decide_eq_true_eq] at h
  omega
theorem valD_lt : ∀ l : List UInt8, l.all digU = true → valD l < 10 ^ l.length
  | [], _ => by simp [valD, valF]
  | c :: r, h => by
    rw [List.all_cons, Bool.and_eq_true] at h
    have h1 := dig_bounds h.1
    have h2 := valD_lt r h.2
    rw [valD_cons, List.length_cons, Nat.pow_succ]
    have h3 : (c.toNat - 48) * 10 ^ r.length ≤ 9 * 10 ^ r.length := Nat.mul_le_mul_right _ (by omega)
    omega
theorem lex_val : ∀ l m : List UInt8, l.all digU = true → m.all digU = true → l.length = m.length → (l < m ↔ valD l < valD m)
  | [], [], _, _, _ => by simp [valD, valF]
  | [], _ :: _, _, _, h => by simp at h
  | _ :: _, [], _, _, h => by simp at h
  | a :: r, b :: s, hl, hm, h => by
    rw [List.all_cons, Bool.and_eq_true] at hl hm
    have ha := dig_bounds hl.1
    have hb := dig_bounds hm.1
    have hn : r.length = s.length := by simpa using h
    have ih := lex_val r s hl.2 hm.2 hn
    have h1 := valD_lt r hl.2
    have h2 := valD_lt s hm.2
    rw [List.cons_lt_cons_iff, valD_cons, valD_cons, ih, hn]
    rw [hn] at h1
    have hp : 0 < 10 ^ s.length := Nat.pow_pos (by omega)
    rcases Nat.lt_trichotomy a.toNat b.toNat with hab | hab | hab
    · constructor
      · intro _
        have : (a.toNat - 48 + 1) * 10 ^ s.length ≤ (b.toNat - 48) * 10 ^ s.length := Nat.mul_le_mul_right _ (by omega)
        rw [Nat.add_mul, Nat.one_mul] at this
        omega
      · intro _
        exact Or.inl (UInt8.lt_iff_toNat_lt.2 hab)
    · have e : a = b := UInt8.toNat_inj.1 hab
      subst e
      constructor
      · rintro (h3 | ⟨_, h3⟩)
        · exact absurd (UInt8.lt_iff_toNat_lt.1 h3) (by omega)
        · omega
      · intro h3
        exact Or.inr ⟨rfl, by omega⟩
    · constructor
      · rintro (h3 | ⟨h3, _⟩)
        · exact absurd (UInt8.lt_iff_toNat_lt.1 h3) (by omega)
        · exact absurd (congrArg UInt8.toNat h3) (by omega)
      · intro h3
        have : (b.toNat - 48 + 1) * 10 ^ s.length ≤ (a.toNat - 48) * 10 ^ s.length := Nat.mul_le_mul_right _ (by omega)
        rw [Nat.add_mul, Nat.one_mul] at this
        omega
theorem dec_val_aux : ∀ (n : Nat) (l : List UInt8), l.length = n → l ≠ [] → l.all digU = true → (l.length = 1 ∨ l.head? ≠ some 48) → Lib.decDigits (valD l) = l := by
  intro n
  induction n with
  | zero => intro l hl h0; exact absurd (List.eq_nil_of_length_eq_zero hl) h0
  | succ n ih =>
    intro l hl h0 hd hh
    obtain ⟨r, c, rfl⟩ : ∃ r c, l = r ++ [c] := ⟨l.dropLast, l.getLast h0, (List.dropLast_concat_getLast h0).symm⟩
    rw [List.all_append, Bool.and_eq_true] at hd
    have hc := dig_bounds (show digU c = true by simpa using hd.2)
    have ec : UInt8.ofNat (48 + (c.toNat - 48)) = c := by rw [show 48 + (c.toNat - 48) = c.toNat by omega]; exact UInt8.ofNat_toNat
    rw [valD_snoc]
    cases r with
    | nil =>
      rw [show valD [] = 0 from rfl, Nat.mul_zero, Nat.zero_add, dec_last (by omega), ec]
      rfl
    | cons a s =>
      have hh2 : (a :: s).head? ≠ some 48 := by
        rcases hh with h | h
        · simp at h
        · exact h
      have hr := ih (a :: s) (by simpa using hl) (by simp) hd.1 (Or.inr hh2)
      have hv : 0 < valD (a :: s) := by
        rcases Nat.eq_zero_or_pos (valD (a :: s)) with h | h
        · rw [h, dec_last (by omega)] at hr
          rw [← hr] at hh2
          exact absurd rfl hh2
        · exact h
      rw [dec_step rfl (by omega) hv, hr, ec]
theorem dec_val {l : List UInt8} (h0 : l ≠ []) (hd : l.all digU = true) (hh : l.length = 1 ∨ l.head? ≠ some 48) : Lib.decDigits (valD l) = l := dec_val_aux _ l rfl h0 hd hh
theorem dec_head : ∀ (u : Nat), 0 < u → ∃ c r, Lib.decDigits u = c :: r ∧ c ≠ 48 := by
  intro u
  induction u using Nat.strongRecOn with
  | ind u ih =>
    intro hu
    by_cases h : u < 10
    · rw [dec_last h]
      refine ⟨_, _, rfl, fun e => ?_⟩
      have := congrArg UInt8.toNat e
      rw [digit_nat u h] at this
      simp at this
      omega
    · obtain ⟨c, r, e, hc⟩ := ih (u / 10) (by omega) (by omega)
      rw [dec_step (show u = 10 * (u / 10) + u % 10 by omega) (by omega) (by omega), e]
      exact ⟨c, r ++ [UInt8.ofNat (48 + u % 10)], rfl, hc⟩
theorem most_val : valD mostL = 9223372036854775807 := by decide +kernel
theorem most_dig : mostL.all digU = true := by decide +kernel
theorem small_num {l : List UInt8} (h0 : l ≠ []) (hd : l.all digU = true) : numB l = smallB l := by
  by_cases hlen : l.length ≤ 19
  · rw [num_all hlen hd]
    obtain ⟨c, r, rfl⟩ : ∃ c r, l = c :: r := by
      cases l with
      | nil => exact absurd rfl h0
      | cons c r => exact ⟨c, r, rfl⟩
    have hcd := hd
    rw [List.all_cons, Bool.and_eq_true] at hcd
    have hc := dig_bounds hcd.1
    unfold smallB
    by_cases hz : 1 < (c :: r).length ∧ (c :: r).head? = some 48
    · rw [if_pos hz]
      cases he : Lib.atoiAll (c :: r) with
      | ok n =>
        simp only
        rw [beq_eq_false_iff_ne]
        intro e
        have hc48 : c = 48 := by simpa using hz.2
        have hr : r ≠ [] := by intro e; rw [e] at hz; simp at hz
        by_cases hn : n < 0
        · obtain ⟨u, rfl, hu⟩ : ∃ u : Nat, n = -(u : Int) ∧ 1 ≤ u := ⟨n.natAbs, by omega, by omega⟩
          rw [Lib.itoa_neg u hu, hc48] at e
          injection e with e _
          exact absurd e (by decide)
        · obtain ⟨u, rfl⟩ : ∃ u : Nat, n = (u : Int) := ⟨n.toNat, by omega⟩
          rw [Lib.itoa_nonneg] at e
          rcases Nat.eq_zero_or_pos u with rfl | hu
          · rw [dec_last (by omega)] at e
            injection e with _ e
            exact hr e
          · obtain ⟨c', r', e', hc'⟩ := dec_head u hu
            rw [e'] at e
            injection e with e _
            exact hc' (by rw [← e, hc48])
      | _ => rfl
    · rw [if_neg hz]
      have hh : (c :: r).length = 1 ∨ (c :: r).head? ≠ some 48 := by
        by_cases h1 : 1 < (c :: r).length
        · exact Or.inr (fun e => hz ⟨h1, e⟩)
        · exact Or.inl (by simp only [List.length_cons] at h1 ⊢; omega)
      have hv := dec_val h0 hd hh
      have hlt := valD_lt _ hd
      obtain ⟨u, hu⟩ : ∃ u, u = valD (c :: r) := ⟨_, rfl⟩
      rw [← hu] at hv hlt
      have h19 : (10 : Nat) ^ (c :: r).length ≤ 10 ^ 19 := Nat.pow_le_pow_right (by omega) hlen
      have hu64 : u < 18446744073709551616 := Nat.lt_of_lt_of_le hlt (Nat.le_trans h19 (by decide))
      have hp : Lib.parseMag (c :: r) = .ok u := by rw [← hv]; exact parse_mag u hu64
      rw [Lib.atoiAll_plain c r (by omega) (by omega), hp]
      by_cases h63 : u < 9223372036854775808
      · have e1 : Lib.signless (.ok u) = .ok (u : Int) := by unfold Lib.signless; simp only; rw [if_neg (by omega)]
        rw [e1]
        simp only
        rw [Lib.itoa_nonneg, hv, beq_self_eq_true]
        by_cases hl : (c :: r).length ≠ 19
        · rw [if_pos hl, decide_eq_true (by omega)]
        · rw [if_neg hl]
          have := lex_val mostL (c :: r) most_dig hd (by simp only [ne_eq, Decidable.not_not] at hl; rw [hl]; rfl)
          rw [most_val, ← hu] at this
          rw [decide_eq_false (fun h => by have := this.1 h; omega)]
          rfl
      · have e1 : Lib.signless (.ok u) = .range := by unfold Lib.signless; simp only; rw [if_pos (by omega)]
        rw [e1]
        simp only
        have hl : (c :: r).length = 19 := by
          by_cases h : (c :: r).length ≤ 18
          · have h18 : (10 : Nat) ^ (c :: r).length ≤ 10 ^ 18 := Nat.pow_le_pow_right (by omega) h
            have : (10 : Nat) ^ 18 < 9223372036854775808 := by decide
            omega
          · omega
        rw [if_neg (by omega)]
        have := lex_val mostL (c :: r) most_dig hd (by rw [hl]; rfl)
        rw [most_val, ← hu] at this
        rw [decide_eq_true (this.2 (by omega))]
        rfl
  · rw [num_long hlen]
    unfold smallB
    split
    · rfl
    · rw [if_pos (by omega), decide_eq_false (by omega)]
end Go.Proofs.YtaipljdpkgdheaaDoor
/- The reference's small and hex. -/
namespace Go.Proofs.YtaipljdpkgdheaaDoor
open Go Go.RowKit

theorem head_at {t : ByteArray} (h : 0 < t.size) : t.data.toList.head? = some (t[0]'h) := by
  have := rest_head (t := t) (p := 0) h
  simpa [restB] using this
theorem len_at (t : ByteArray) : t.data.toList.length = t.size := Array.length_toList
theorem le_or {l m : List UInt8} : (decide (l < m) || l == m) = !decide (m < l) := by
  by_cases h1 : l < m
  · have h2 : ¬ m < l := List.lt_asymm h1
    rw [decide_eq_true h1, decide_eq_false h2]
    rfl
  · by_cases h2 : l = m
    · subst h2
      rw [decide_eq_false h1, beq_self_eq_true]
      rfl
    · have h3 : m < l := by
        rcases List.le_iff_lt_or_eq.1 (List.not_lt.1 h1) with h | h
        · exact h
        · exact absurd h.symm h2
      rw [decide_eq_false h1, decide_eq_true h3, beq_eq_false_iff_ne.2 h2]
      rfl
def mostS : ByteArray := ⟨#[57, 50, 50, 51, 51, 55, 50, 48, 51, 54, 56, 53, 52, 55, 55, 53, 56, 48, 55]⟩

set_option maxHeartbeats 4000000 in
set_option maxRecDepth 100000 in
theorem refSmall_any (t : ByteArray) (w : World) (ht : t.size ≤ 140737488355328) :
    Calls Tryd.prog 66 #[.string t] w fun e w' => e = .returned (.bool (smallB t.data.toList)) ∧ w = w' := by
  have HR := Lib.hid (show ∀ z : Bool, (t.size = 19 → z = !decide (mostL < t.data.toList)) → ¬ (1 < t.size ∧ t.data.toList.head? = some 48) → smallB t.data.toList = if t.size = 19 then z else decide (t.size < 19) from fun z hz hn => by
    unfold smallB
    rw [len_at, if_neg hn]
    by_cases h : t.size = 19
    · rw [if_neg (by omega), if_pos h, hz h]
    · rw [if_pos h, if_neg h])
  by_cases h1 : 1 < t.size
  · have k1 : (1 : Int) < (t.size : Int) := by omega
    have k0 : (0 : Int) < (t.size : Int) := by omega
    have HH := Lib.hid (head_at (t := t) (by omega))
    by_cases h48 : t[0]'(by omega) = 48
    · have e0 : (((t[0]'(by omega)).toNat : Int) == 48) = true := by rw [h48]; rfl
      have HE := Lib.hid (show smallB t.data.toList = false by
        unfold smallB
        rw [if_pos ⟨by rw [len_at]; exact h1, by rw [HH.out, h48]⟩])
      clear h48
      go_enter Tryd.func66, Tryd.ntmps66
      go_wp2_with fail
      go_ret
      exact ⟨by rw [HE.out]; rfl, rfl⟩
    · have e0 := u8_ne h48 (n := 48) rfl
      have HN := Lib.hid (show ¬ (1 < t.size ∧ t.data.toList.head? = some 48) by
        rintro ⟨_, h⟩
        rw [HH.out] at h
        exact h48 (Option.some.inj h))
      clear h48
      by_cases h19 : t.size = 19
      · have p19 : ((t.size : Int) != 19) = false := by rw [h19]; rfl
        go_enter Tryd.func66, Tryd.ntmps66
        go_wp2_with fail
        go_ret
        refine ⟨?_, rfl⟩
        rw [HR.out _ (fun _ => rfl) HN.out, if_pos h19, ← le_or, ← bytesLess_eq, ← ByteArray.toList_eq]
        rfl
      · have p19 : ((t.size : Int) != 19) = true := by rw [bne, beq_eq_false_iff_ne.2 (by omega)]; rfl
        go_enter Tryd.func66, Tryd.ntmps66
        go_wp2_with fail
        go_ret
        refine ⟨?_, rfl⟩
        rw [HR.out true (fun h => absurd h h19) HN.out, if_neg h19]
        show Ending.returned (.bool (decide ((t.size : Int) < 19))) = _
        congr 2
        rw [decide_eq_decide]
        omega
  · have k1 : ¬ (1 : Int) < (t.size : Int) := by omega
    have p19 : ((t.size : Int) != 19) = true := by rw [bne, beq_eq_false_iff_ne.2 (by omega)]; rfl
    have HE := Lib.hid (show smallB t.data.toList = true by
      rw [HR.out true (fun h => by omega) (fun h => h1 h.1), if_neg (by omega), decide_eq_true (by omega)])
    have k19 : (t.size : Int) < 19 := by omega
    go_enter Tryd.func66, Tryd.ntmps66
    go_wp2_with fail
    go_ret
    exact ⟨by rw [HE.out]; rfl, rfl⟩
def rloS : ByteArray := ⟨#[48, 49, 50, 51, 52, 53, 54, 55, 56, 57, 97, 98, 99, 100, 101, 102]⟩
def rupS : ByteArray := ⟨#[48, 49, 50, 51, 52, 53, 54, 55, 56, 57, 65, 66, 67, 68, 69, 70]⟩
theorem hexU_at : ∀ (c : Fin 256) (k : Fin 16), ((rloS[k.val]'k.isLt) = UInt8.ofNat c.val ∨ (rupS[k.val]'k.isLt) = UInt8.ofNat c.val) ↔ hexU (UInt8.ofNat c.val) = some (UInt8.ofNat k.val) := by decide +kernel
def hexZ (c : UInt8) : Int := match hexU c with | some x => (x.toNat : Int) | none => -1
theorem hexU_small {c x : UInt8} (h : hexU c = some x) : x.toNat < 16 := hexU_lt h
theorem hex_at (c : UInt8) (k : Nat) (hk : k < 16) : ((rloS[k]'hk) = c ∨ (rupS[k]'hk) = c) ↔ hexU c = some (UInt8.ofNat k) := by
  have := hexU_at ⟨c.toNat, c.toNat_lt⟩ ⟨k, hk⟩
  simpa using this
set_option maxHeartbeats 4000000 in
set_option maxRecDepth 100000 in
theorem refHex_any (c : UInt8) (w : World) : Calls Tryd.prog 88 #[.int .u8 (c.toNat : Int)] w fun e w' => e = .returned (.int .i64 (hexZ c)) ∧ w = w' := by
  go_enter Tryd.func88, Tryd.ntmps88
  go_upto_region 3 with fail
  rw [show (⟨#[48, 49, 50, 51, 52, 53, 54, 55, 56, 57, 97, 98, 99, 100, 101, 102]⟩ : ByteArray) = rloS from rfl, show (⟨#[48, 49, 50, 51, 52, 53, 54, 55, 56, 57, 65, 66, 67, 68, 69, 70]⟩ : ByteArray) = rupS from rfl]
  have sl : rloS.size = 16 := rfl
  have su : rupS.size = 16 := rfl
  go_wp2_with fail
  go_loopw [5] (fun v wr => ∃ k : Nat, k ≤ 16 ∧ v = .int .i64 (k : Int) ∧ (∀ j, j < k → hexU c ≠ some (UInt8.ofNat j)) ∧ wr = w) (fun v _ => 16 - (intOf v).toNat)
  case atStart => exact ⟨0, by omega, rfl, fun j hj => by omega, rfl⟩
  case round =>
    obtain ⟨k, hk, rfl, hno, rfl⟩ := hrel
    have HNO := Lib.hid hno
    have k0 : (0 : Int) ≤ (k : Int) := by omega
    clear hno
    by_cases hlt : k < 16
    · have k1 : (k : Int) < 16 := by omega
      have HX := Lib.hid (hex_at c k hlt)
      have HE := Lib.hid (show (rloS[k]'hlt) = c ∨ (rupS[k]'hlt) = c → hexZ c = (k : Int) from fun h => by
        unfold hexZ
        rw [HX.out.1 h]
        simp only
        rw [UInt8.toNat_ofNat', Nat.mod_eq_of_lt (by omega)])
      go_wp2_with fail
      · rename_i h
        have hl : (rloS[k]'hlt) = c := UInt8.toNat_inj.1 (Int.ofNat.inj h)
        go_ret
        refine ⟨?_, rfl⟩
        rw [HE.out (Or.inl hl)]
        rfl
      · rename_i h
        have hl : (rloS[k]'hlt) = c ∨ (rupS[k]'hlt) = c := by
          rcases h with h | h
          · exact Or.inl (UInt8.toNat_inj.1 (Int.ofNat.inj (beq_iff_eq.1 h)))
          · exact Or.inr (UInt8.toNat_inj.1 (Int.ofNat.inj (beq_iff_eq.1 h)))
        go_ret
        refine ⟨?_, rfl⟩
        rw [HE.out hl]
        rfl
      · rename_i h
        have hl : ¬ ((rloS[k]'hlt) = c ∨ (rupS[k]'hlt) = c) := by
          have h1 : (((rloS[k]'hlt).toNat : Int) == (c.toNat : Int)) = false := h.1
          have h2 : (((rupS[k]'hlt).toNat : Int) == (c.toNat : Int)) = false := h.2
          rintro (e | e)
          · rw [e, beq_self_eq_true] at h1; cases h1
          · rw [e, beq_self_eq_true] at h2; cases h2
        have HL := Lib.hid hl
        clear hl
        go_roundw
        case rel =>
          refine ⟨k + 1, by omega, by go_num, fun j hj => ?_, by first | rfl | trivial⟩
          by_cases hjk : j < k
          · exact HNO.out j hjk
          · obtain rfl : j = k := by omega
            exact fun e => HL.out (HX.out.2 e)
        case measure => simp [intOf]; omega
    · have k1 : ¬ (k : Int) < 16 := by omega
      have HE := Lib.hid (show hexZ c = -1 by
        unfold hexZ
        cases hx : hexU c with
        | none => rfl
        | some x =>
          have h16 := hexU_small hx
          exact absurd hx (by
            have := HNO.out x.toNat (by omega)
            rwa [UInt8.ofNat_toNat] at this))
      go_wp2_with fail
      go_ret
      exact ⟨by rw [HE.out]; rfl, rfl⟩
end Go.Proofs.YtaipljdpkgdheaaDoor
/- The reference's character. -/
namespace Go.Proofs.YtaipljdpkgdheaaDoor
open Go Go.RowKit

def charZ (R : UInt8 × Nat × Int) : Value := .tuple #[.int .u8 (R.1.toNat : Int), .int .i64 (R.2.1 : Int), .int .i64 (if R.2.2 = 52 then -1 else 0), .int .i64 R.2.2]
theorem u8_of (n : Nat) (h : n < 256) : IntKind.u8.wrap (n : Int) = ((UInt8.ofNat n).toNat : Int) := by
  rw [UInt8.toNat_ofNat', Nat.mod_eq_of_lt h]
  simp [IntKind.wrap, IntKind.bits, IntKind.signed]
  omega

set_option maxHeartbeats 4000000 in
set_option maxRecDepth 100000 in
theorem refChar_any (t : ByteArray) (i : Nat) (w : World) (hi : i < t.size) (ht : t.size ≤ 140737488355328) :
    Calls Tryd.prog 76 #[.string t, .int .i64 (i : Int)] w fun e w' => e = .returned (charZ (charR (restB t i))) ∧ w = w' := by
  have HC := Lib.hid (rest_cons hi)
  have i0 : (0 : Int) ≤ (i : Int) := by omega
  have i1 : (i : Int) < (t.size : Int) := by omega
  by_cases h1 : (t[i]'hi).toNat < 32 ∨ 126 < (t[i]'hi).toNat
  · have HE := Lib.hid (show charZ (charR (restB t i)) = .tuple #[.int .u8 0, .int .i64 0, .int .i64 0, .int .i64 50] by rw [HC.out, char_ctl h1]; rfl)
    rcases h1 with h1 | h1
    · have r1 : ((t[i]'hi).toNat : Int) < 32 := by omega
      clear h1
      go_enter Tryd.func76, Tryd.ntmps76
      go_wp2_with fail
      refine bodyPost_ret (v := .tuple #[.int .u8 0, .int .i64 0, .int .i64 0, .int .i64 50]) (by simp [results, Tryd.results76, go_sem]) rfl ?_
      exact ⟨by rw [HE.out], rfl⟩
    · have r1 : ¬ ((t[i]'hi).toNat : Int) < 32 := by omega
      have r2 : (126 : Int) < ((t[i]'hi).toNat : Int) := by omega
      clear h1
      go_enter Tryd.func76, Tryd.ntmps76
      go_wp2_with fail
      refine bodyPost_ret (v := .tuple #[.int .u8 0, .int .i64 0, .int .i64 0, .int .i64 50]) (by simp [results, Tryd.results76, go_sem]) rfl ?_
      exact ⟨by rw [HE.out], rfl⟩
  · have r1 : ¬ ((t[i]'hi).toNat : Int) < 32 := by omega
    have r2 : ¬ (126 : Int) < ((t[i]'hi).toNat : Int) := by omega
    by_cases h92 : t[i]'hi = 92
    · have q92 : (((t[i]'hi).toNat : Int) != 92) = false := by rw [h92]; rfl
      by_cases h2 : i + 1 < t.size
      · have HC2 := Lib.hid (rest_cons h2)
        have i2 : (i : Int) + 1 < (t.size : Int) := by omega
        have i3 : (0 : Int) ≤ (i : Int) + 1 := by omega
        have HR := Lib.hid (show charR (restB t i) = charR (92 :: (t[i + 1]'h2) :: restB t (i + 1 + 1)) by rw [HC.out, h92, HC2.out])
        clear h1 h92
        go_enter Tryd.func76, Tryd.ntmps76
        go_upto_region 9 with fail
        have HU := Lib.hid (show ∀ k : UInt8, ¬ (t[i + 1]'h2) = k → (((t[i + 1]'h2).toNat : Int) == (k.toNat : Int)) = false from fun k h => u8_ne h rfl)
        by_cases h34 : (t[i + 1]'h2) = 34
        · have e34 : (((t[i + 1]'h2).toNat : Int) == 34) = true := by rw [h34]; rfl
          have n34 : ((t[i + 1]'h2).toNat : Int) = 34 := by rw [h34]; rfl
          have HE := Lib.hid (show charZ (charR (restB t i)) = .tuple #[.int .u8 34, .int .i64 2, .int .i64 0, .int .i64 0] by rw [HR.out, h34]; rfl)
          go_wp2_with fail
          refine bodyPost_ret (v := .tuple #[.int .u8 34, .int .i64 2, .int .i64 0, .int .i64 0]) (by simp [results, Tryd.results76, go_sem]) rfl ?_
          exact ⟨by rw [HE.out], rfl⟩
        by_cases h92 : (t[i + 1]'h2) = 92
        · have e92 : (((t[i + 1]'h2).toNat : Int) == 92) = true := by rw [h92]; rfl
          have n92 : ((t[i + 1]'h2).toNat : Int) = 92 := by rw [h92]; rfl
          have f34 : (((t[i + 1]'h2).toNat : Int) == 34) = false := HU.out 34 h34
          have HE := Lib.hid (show charZ (charR (restB t i)) = .tuple #[.int .u8 92, .int .i64 2, .int .i64 0, .int .i64 0] by rw [HR.out, h92]; rfl)
          go_wp2_with fail
          refine bodyPost_ret (v := .tuple #[.int .u8 92, .int .i64 2, .int .i64 0, .int .i64 0]) (by simp [results, Tryd.results76, go_sem]) rfl ?_
          exact ⟨by rw [HE.out], rfl⟩
        by_cases h110 : (t[i + 1]'h2) = 110
        · have e110 : (((t[i + 1]'h2).toNat : Int) == 110) = true := by rw [h110]; rfl
          have n110 : ((t[i + 1]'h2).toNat : Int) = 110 := by rw [h110]; rfl
          have f34 : (((t[i + 1]'h2).toNat : Int) == 34) = false := HU.out 34 h34
          have f92 : (((t[i + 1]'h2).toNat : Int) == 92) = false := HU.out 92 h92
          have HE := Lib.hid (show charZ (charR (restB t i)) = .tuple #[.int .u8 10, .int .i64 2, .int .i64 0, .int .i64 0] by rw [HR.out, h110]; rfl)
          go_wp2_with fail
          refine bodyPost_ret (v := .tuple #[.int .u8 10, .int .i64 2, .int .i64 0, .int .i64 0]) (by simp [results, Tryd.results76, go_sem]) rfl ?_
          exact ⟨by rw [HE.out], rfl⟩
        by_cases h116 : (t[i + 1]'h2) = 116
        · have e116 : (((t[i + 1]'h2).toNat : Int) == 116) = true := by rw [h116]; rfl
          have n116 : ((t[i + 1]'h2).toNat : Int) = 116 := by rw [h116]; rfl
          have f34 : (((t[i + 1]'h2).toNat : Int) == 34) = false := HU.out 34 h34
          have f92 : (((t[i + 1]'h2).toNat : Int) == 92) = false := HU.out 92 h92
          have f110 : (((t[i + 1]'h2).toNat : Int) == 110) = false := HU.out 110 h110
          have HE := Lib.hid (show charZ (charR (restB t i)) = .tuple #[.int .u8 9, .int .i64 2, .int .i64 0, .int .i64 0] by rw [HR.out, h116]; rfl)
          go_wp2_with fail
          refine bodyPost_ret (v := .tuple #[.int .u8 9, .int .i64 2, .int .i64 0, .int .i64 0]) (by simp [results, Tryd.results76, go_sem]) rfl ?_
          exact ⟨by rw [HE.out], rfl⟩
        by_cases h120 : (t[i + 1]'h2) = 120
        · have e120 : (((t[i + 1]'h2).toNat : Int) == 120) = true := by rw [h120]; rfl
          have f34 : (((t[i + 1]'h2).toNat : Int) == 34) = false := HU.out 34 h34
          have f92 : (((t[i + 1]'h2).toNat : Int) == 92) = false := HU.out 92 h92
          have f110 : (((t[i + 1]'h2).toNat : Int) == 110) = false := HU.out 110 h110
          have f116 : (((t[i + 1]'h2).toNat : Int) == 116) = false := HU.out 116 h116
          have HR2 := Lib.hid (show charR (restB t i) = if (hexR (restB t (i + 2))).2 = 0 then ((hexR (restB t (i + 2))).1, 4, 0) else (0, 0, (hexR (restB t (i + 2))).2) by rw [HR.out, h120, char_hex])
          go_upto_region 18 with fail
          clear e120
          go_wp2_with fail
          go_loopw [9, 10, 11] (fun n k _ wr => wr = w ∧ ((n = .int .i64 0 ∧ k = .int .i64 2) ∨ (∃ (hb : i + 2 < t.size) (x : UInt8), hexU (t[i + 2]'hb) = some x ∧ n = .int .i64 (x.toNat : Int) ∧ k = .int .i64 3) ∨ (∃ (hb : i + 2 < t.size) (hd : i + 3 < t.size) (x y : UInt8), hexU (t[i + 2]'hb) = some x ∧ hexU (t[i + 3]'hd) = some y ∧ n = .int .i64 ((16 * x.toNat + y.toNat : Nat) : Int) ∧ k = .int .i64 4))) (fun _ k _ _ => 4 - (intOf k).toNat)
          case atStart => exact ⟨rfl, Or.inl ⟨rfl, rfl⟩⟩
          case round =>
            obtain ⟨rfl, hrel⟩ := hrel
            rcases hrel with ⟨rfl, rfl⟩ | ⟨hb, x, hx, rfl, rfl⟩ | ⟨hb, hd, x, y, hx, hy, rfl, rfl⟩
            · by_cases hc : i + 2 < t.size
              · have j1 : (i : Int) + 2 < (t.size : Int) := by omega
                have j0 : (0 : Int) ≤ (i : Int) + 2 := by omega
                have HC3 := Lib.hid (rest_cons hc)
                have HZ := Lib.hid (refHex_any (t[i + 2]'hc) wr)
                unfold hexZ at HZ
                cases hz : hexU (t[i + 2]'hc) with
                | none =>
                  rw [hz] at HZ
                  have HE := Lib.hid (show charZ (charR (restB t i)) = .tuple #[.int .u8 0, .int .i64 0, .int .i64 0, .int .i64 51] by
                    rw [HR2.out, HC3.out, show hexR ((t[i + 2]'hc) :: restB t (i + 2 + 1)) = (0, 51) by simp [hexR, hz], if_neg (by decide)]; rfl)
                  clear hz
                  go_wp2_with ((go_at_call 88; refine HZ.out.mono ?_; rintro e w' ⟨rfl, rfl⟩))
                  refine bodyPost_ret (v := .tuple #[.int .u8 0, .int .i64 0, .int .i64 0, .int .i64 51]) (by simp [results, Tryd.results76, go_sem]) rfl ?_
                  exact ⟨by rw [HE.out], rfl⟩
                | some z =>
                  rw [hz] at HZ
                  have HZZ := Lib.hid hz
                  have z0 : ¬ (z.toNat : Int) < 0 := by omega
                  have hz16 := hexU_lt hz
                  clear hz
                  go_wp2_with ((go_at_call 88; refine HZ.out.mono ?_; rintro e w' ⟨rfl, rfl⟩))
                  go_roundw
                  case rel => exact ⟨by first | rfl | trivial, Or.inr (Or.inl ⟨hc, z, HZZ.out, by first | rfl | go_num, by first | rfl | go_num⟩)⟩
                  case measure => simp [intOf]
              · have j1 : ¬ (i : Int) + 2 < (t.size : Int) := by omega
                have HE := Lib.hid (show charZ (charR (restB t i)) = .tuple #[.int .u8 0, .int .i64 0, .int .i64 (-1), .int .i64 52] by
                  rw [HR2.out, rest_nil (k := i + 2) (by omega), show hexR [] = (0, 52) from rfl, if_neg (by decide)]; rfl)
                go_wp2_with fail
                refine bodyPost_ret (v := .tuple #[.int .u8 0, .int .i64 0, .int .i64 (-1), .int .i64 52]) (by simp [results, Tryd.results76, go_sem]) rfl ?_
                exact ⟨by rw [HE.out], rfl⟩
            · have hx16 := hexU_lt hx
              have HXX := Lib.hid hx
              have HB3 := Lib.hid (rest_cons hb)
              have xn : (0 : Int) ≤ (x.toNat : Int) := by omega
              clear hx
              by_cases hc : i + 3 < t.size
              · have j1 : (i : Int) + 3 < (t.size : Int) := by omega
                have j0 : (0 : Int) ≤ (i : Int) + 3 := by omega
                have HC3 := Lib.hid (rest_cons hc)
                have HZ := Lib.hid (refHex_any (t[i + 3]'hc) wr)
                unfold hexZ at HZ
                cases hz : hexU (t[i + 3]'hc) with
                | none =>
                  rw [hz] at HZ
                  have HE := Lib.hid (show charZ (charR (restB t i)) = .tuple #[.int .u8 0, .int .i64 0, .int .i64 0, .int .i64 51] by
                    rw [HR2.out, HB3.out, HC3.out, show hexR ((t[i + 2]'hb) :: (t[i + 3]'hc) :: restB t (i + 3 + 1)) = (0, 51) by simp [hexR, HXX.out, hz], if_neg (by decide)]; rfl)
                  clear hz
                  go_wp2_with ((go_at_call 88; refine HZ.out.mono ?_; rintro e w' ⟨rfl, rfl⟩))
                  refine bodyPost_ret (v := .tuple #[.int .u8 0, .int .i64 0, .int .i64 0, .int .i64 51]) (by simp [results, Tryd.results76, go_sem]) rfl ?_
                  exact ⟨by rw [HE.out], rfl⟩
                | some z =>
                  rw [hz] at HZ
                  have HZZ := Lib.hid hz
                  have z0 : ¬ (z.toNat : Int) < 0 := by omega
                  have hz16 := hexU_lt hz
                  clear hz
                  go_wp2_with ((go_at_call 88; refine HZ.out.mono ?_; rintro e w' ⟨rfl, rfl⟩))
                  go_roundw
                  case rel => exact ⟨by first | rfl | trivial, Or.inr (Or.inr ⟨hb, hc, x, z, HXX.out, HZZ.out, by first | rfl | go_num, by first | rfl | go_num⟩)⟩
                  case measure => simp [intOf]
              · have j1 : ¬ (i : Int) + 3 < (t.size : Int) := by omega
                have HE := Lib.hid (show charZ (charR (restB t i)) = .tuple #[.int .u8 0, .int .i64 0, .int .i64 (-1), .int .i64 52] by
                  rw [HR2.out, HB3.out, rest_nil (k := i + 2 + 1) (by omega), show hexR [t[i + 2]'hb] = (0, 52) by simp [hexR, HXX.out], if_neg (by decide)]; rfl)
                go_wp2_with fail
                refine bodyPost_ret (v := .tuple #[.int .u8 0, .int .i64 0, .int .i64 (-1), .int .i64 52]) (by simp [results, Tryd.results76, go_sem]) rfl ?_
                exact ⟨by rw [HE.out], rfl⟩
            · have hx16 := hexU_lt hx
              have hy16 := hexU_lt hy
              have HB3 := Lib.hid (rest_cons hb)
              have HD3 := Lib.hid (rest_cons hd)
              have HE := Lib.hid (show charZ (charR (restB t i)) = .tuple #[.int .u8 ((UInt8.ofNat (16 * x.toNat + y.toNat)).toNat : Int), .int .i64 4, .int .i64 0, .int .i64 0] by
                rw [HR2.out, HB3.out, HD3.out, show hexR ((t[i + 2]'hb) :: (t[i + 3]'hd) :: restB t (i + 3 + 1)) = (UInt8.ofNat (16 * x.toNat + y.toNat), 0) by simp [hexR, hx, hy], if_pos rfl]; rfl)
              obtain ⟨m, hm⟩ : ∃ m, m = 16 * x.toNat + y.toNat := ⟨_, rfl⟩
              rw [← hm] at HE ⊢
              have hU := u8_of m (by omega)
              clear hx hy hm
              go_wp2_with fail
              refine bodyPost_ret (v := .tuple #[.int .u8 ((UInt8.ofNat m).toNat : Int), .int .i64 4, .int .i64 0, .int .i64 0]) (by simp [results, Tryd.results76, go_sem, hU]) rfl ?_
              exact ⟨by rw [HE.out], rfl⟩
        have f34 : (((t[i + 1]'h2).toNat : Int) == 34) = false := HU.out 34 h34
        have f92 : (((t[i + 1]'h2).toNat : Int) == 92) = false := HU.out 92 h92
        have f110 : (((t[i + 1]'h2).toNat : Int) == 110) = false := HU.out 110 h110
        have f116 : (((t[i + 1]'h2).toNat : Int) == 116) = false := HU.out 116 h116
        have f120 : (((t[i + 1]'h2).toNat : Int) == 120) = false := HU.out 120 h120
        have HE := Lib.hid (show charZ (charR (restB t i)) = .tuple #[.int .u8 0, .int .i64 0, .int .i64 0, .int .i64 51] by rw [HR.out, char_letter h120, if_neg h34, if_neg h92, if_neg h110, if_neg h116]; rfl)
        go_wp2_with fail
        refine bodyPost_ret (v := .tuple #[.int .u8 0, .int .i64 0, .int .i64 0, .int .i64 51]) (by simp [results, Tryd.results76, go_sem]) rfl ?_
        exact ⟨by rw [HE.out], rfl⟩
      · have i2 : ¬ (i : Int) + 1 < (t.size : Int) := by omega
        have HE := Lib.hid (show charZ (charR (restB t i)) = .tuple #[.int .u8 0, .int .i64 0, .int .i64 (-1), .int .i64 52] by rw [HC.out, h92, rest_nil (by omega), char_cut]; rfl)
        clear h1 h92
        go_enter Tryd.func76, Tryd.ntmps76
        go_wp2_with fail
        refine bodyPost_ret (v := .tuple #[.int .u8 0, .int .i64 0, .int .i64 (-1), .int .i64 52]) (by simp [results, Tryd.results76, go_sem]) rfl ?_
        exact ⟨by rw [HE.out], rfl⟩
    · have q92 : (((t[i]'hi).toNat : Int) != 92) = true := by rw [bne, u8_ne h92 (n := 92) rfl]; rfl
      have HE := Lib.hid (show charZ (charR (restB t i)) = .tuple #[.int .u8 ((t[i]'hi).toNat : Int), .int .i64 1, .int .i64 0, .int .i64 0] by rw [HC.out, char_self h1 h92]; rfl)
      clear h1 h92
      go_enter Tryd.func76, Tryd.ntmps76
      go_wp2_with fail
      refine bodyPost_ret (v := .tuple #[.int .u8 ((t[i]'hi).toNat : Int), .int .i64 1, .int .i64 0, .int .i64 0]) (by simp [results, Tryd.results76, go_sem]) rfl ?_
      exact ⟨by rw [HE.out], rfl⟩
end Go.Proofs.YtaipljdpkgdheaaDoor
