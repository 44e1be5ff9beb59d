/- The document's own answer: Int. -/
import Derived.Test.YtmdhacboegmccaaDoorRefForm
namespace Go.Proofs.YtmdhacboegmccaaDoor
open Go Go.RowKit

set_option maxHeartbeats 8000000 in
set_option maxRecDepth 100000 in
theorem refInt_any (l : List UInt8) (ao : Option Addr) (cap : Nat) (w : World) (hb : BytesAt w ao l) (hlc : l.length ≤ cap) (hcm : cap ≤ maxLen) :
    Calls Tryd.prog 25 #[.slice ao l.length cap] w fun e w' => e = .returned (.tuple #[.int .i64 (intB l).1, .int .i64 (intB l).2.1, .int .i64 (intB l).2.2]) ∧ Below w.heap.size w w' := by
  have HB := Lib.hid hb
  have HCM := Lib.hid hcm
  unfold maxLen at hcm
  clear hb
  go_enter Tryd.func25, Tryd.ntmps25
  go_wp2_with fail
  go_loop [5] (fun i => ∃ k : Nat, k ≤ l.length ∧ k ≤ 10 ∧ i = .int .i64 k ∧ (∀ i (h : i < l.length), i < k → 128 ≤ l[i].toNat)) (fun i => l.length - (intOf i).toNat)
  case atStart => exact ⟨0, Nat.zero_le _, by omega, rfl, fun i _ h => by omega⟩
  case round =>
    obtain ⟨k, hk, hk10, rfl, hall⟩ := hrel
    have HALL := Lib.hid hall
    clear hall
    by_cases h10 : k = 10
    · subst h10
      have HE := Lib.hid (end_many l (by omega) (fun i h hi => HALL.out i h (by omega)) (by have := HALL.out 9 (by omega) (by omega); omega))
      go_wp2_with fail
      all_goals
        go_ret3
        exact ⟨by rw [HE.out]; rfl, Below.refl _ _⟩
    by_cases hkl : k = l.length
    · have HE := Lib.hid (end_short l (by omega) (fun i h => HALL.out i h (by omega)))
      have q1 : ((k : Int) == 10) = false := by simp only [beq_eq_false_iff_ne, ne_eq]; omega
      have q2 : ((k : Int) == (l.length : Int)) = true := by rw [hkl]; simp
      have q3 : ¬ (k : Int) < (l.length : Int) := by omega
      cases q4 : ((k : Int) == 9)
      all_goals
        go_wp2_with fail
        all_goals
          go_ret3
          exact ⟨by rw [HE.out]; rfl, Below.refl _ _⟩
    have hlt : k < l.length := by omega
    obtain ⟨b, o, rfl, hc⟩ : ∃ b o, ao = some ⟨b, o, none⟩ ∧ ∀ i (h : i < l.length), w.cell? ⟨b, o + i, none⟩ = some (.int .u8 (l[i].toNat : Int)) := by
      rcases HB.out with h | h
      · rw [h] at hlt; simp at hlt
      · exact h
    have hck := hc k hlt
    have HCC := Lib.hid hc
    have HK := Lib.hid (HALL.out)
    clear hc
    have k0 : (0 : Int) ≤ (k : Int) := by omega
    have k1 : (k : Int) < (l.length : Int) := by omega
    have k2 : (k : Int) < 10 := by omega
    obtain ⟨x, hx⟩ : ∃ x, x = l[k] := ⟨_, rfl⟩
    rw [← hx] at hck
    have HX := Lib.hid hx
    have hx8 := x.toNat_lt
    clear hx
    by_cases hbig : 128 ≤ x.toNat
    · go_wp2_with fail
      go_round
      case rel => exact ⟨k + 1, by omega, by omega, by go_num, fun i h hi => by
        by_cases e : i = k
        · subst e; rw [← HX.out]; exact hbig
        · exact HALL.out i h (by omega)⟩
      case measure => simp [intOf]; omega
    · have HQ := Lib.hid (show ∀ i (h : i < l.length), i < k → 128 ≤ l[i].toNat from HALL.out)
      have hb2 : ¬ (128 : Int) ≤ (x.toNat : Int) := by omega
      by_cases h9 : k = 9 ∧ 1 < x.toNat
      · have HE := Lib.hid (show intB l = (0, 0, 31) by
          obtain ⟨rfl, h1⟩ := h9
          exact end_many l hlt (fun i h hi => HALL.out i h hi) (by rw [← HX.out]; exact h1))
        obtain ⟨rfl, h91⟩ := h9
        have h9b : (((9 : Nat) : Int) == 9) = true := rfl
        have h9c : (((9 : Nat) : Int) == 10) = false := rfl
        have hx1 : (1 : Int) < (x.toNat : Int) := by omega
        clear h91
        go_wp2_with fail
        go_ret3
        exact ⟨by rw [HE.out]; rfl, Below.refl _ _⟩
      · have HN := Lib.hid h9
        have q1 : ((k : Int) == 10) = false := by simp only [beq_eq_false_iff_ne, ne_eq]; omega
        have q2 : ((k : Int) == (l.length : Int)) = false := by simp only [beq_eq_false_iff_ne, ne_eq]; omega
        have key : (((k : Int) == 9) = true ∧ ¬ (1 : Int) < (x.toNat : Int)) ∨ ((k : Int) == 9) = false := by
          by_cases e : k = 9
          · left
            exact ⟨beq_iff_eq.2 (by omega), by omega⟩
          · right
            exact beq_eq_false_iff_ne.2 (by omega)
        clear h9
        rcases key with ⟨q3, q4⟩ | q3
        case' inl =>
          have hk9 : k = 9 := by have := beq_iff_eq.1 q3; omega
          have hck9 : w.cell? ⟨b, o + 9, none⟩ = some (.int .u8 (x.toNat : Int)) := by rw [← hk9]; exact hck
          have h9l : (9 : Int) < (l.length : Int) := by omega
        all_goals
          go_upto_region 8 with fail
          have h91 : k = 9 → l[k].toNat ≤ 1 := fun e => by have := HN.out; rw [← HX.out]; omega
          have hZl := end_lt l k hlt (by omega) h91
          have hxs : l[k].toNat < 128 := by rw [← HX.out]; omega
          have HRES := Lib.hid (show (intB l = (0, 0, 31) ∧ (putZ (accZ l (k + 1))).length ≠ k + 1) ∨ (intB l = (unz (accZ l (k + 1)), k + 1, 0) ∧ putB (unz (accZ l (k + 1))) = l.take (k + 1)) by
            by_cases h0 : l[k].toNat = 0 ∧ 0 < k
            · exact Or.inl (end_zero l k hlt (by omega) HQ.out h0.1 h0.2)
            · exact Or.inr (end_ok l k hlt (by omega) HQ.out hxs h91 h0))
          clear hxs h91 hck
          go_wp2_with fail
          go_loop [6, 7, 8] (fun z t i => ∃ j : Nat, j ≤ k + 1 ∧ i = .int .i64 j ∧ z = .int .u64 (accZ l j : Nat) ∧ t = .int .u64 ((128 ^ j % 18446744073709551616 : Nat) : Int)) (fun _ _ i => k + 1 - (intOf i).toNat)
          case atStart => exact ⟨0, by omega, rfl, rfl, rfl⟩
          case round =>
            obtain ⟨j, hj, rfl, rfl, rfl⟩ := hrel
            by_cases hjk : j ≤ k
            · have hcj := HCC.out j (by omega)
              have hst := accZ_step l j (by omega)
              have hle := accZ_le l (j + 1) (k + 1) (by omega)
              have hpow : 128 ^ j ≤ 128 ^ 9 := Nat.pow_le_pow_right (by decide) (by omega)
              have hpm : 128 ^ j % 18446744073709551616 = 128 ^ j := Nat.mod_eq_of_lt (by omega)
              have hp2 : 128 ^ (j + 1) = 128 ^ j * 128 := Nat.pow_succ _ _
              obtain ⟨y, hy⟩ : ∃ y, y = l[j] := ⟨_, rfl⟩
              rw [← hy] at hcj hst
              have hy8 := y.toNat_lt
              have HP2 := Lib.hid hp2
              obtain ⟨P, hP⟩ : ∃ P, P = 128 ^ j := ⟨_, rfl⟩
              rw [hpm]
              rw [← hP] at hst hpow HP2 ⊢
              obtain ⟨M, hM⟩ : ∃ M, M = y.toNat % 128 * P := ⟨_, rfl⟩
              rw [← hM] at hst
              have HST := Lib.hid hst
              obtain ⟨A, hA⟩ : ∃ A, A = accZ l j := ⟨_, rfl⟩
              obtain ⟨A2, hA2⟩ : ∃ A2, A2 = accZ l (j + 1) := ⟨_, rfl⟩
              rw [← hA, ← hA2] at hst
              rw [← hA] at ⊢
              rw [← hA2] at hle
              have HA2 := Lib.hid hA2
              have hw1 : IntKind.u64.wrap ((y.toNat : Int) % 128 * (P : Int)) = (M : Int) := by
                rw [IntKind.wrap_u64, hM]
                rw [show (y.toNat : Int) % 128 * (P : Int) = ((y.toNat % 128 * P : Nat) : Int) by push_cast; rfl, ← hM]
                omega
              have hw2 : IntKind.u64.wrap ((A : Int) + (M : Int)) = (A2 : Int) := by rw [IntKind.wrap_u64]; omega
              obtain ⟨P2, hP2⟩ : ∃ P2, P2 = 128 ^ (j + 1) % 18446744073709551616 := ⟨_, rfl⟩
              have hw3 : IntKind.u64.wrap ((P : Int) * 128) = (P2 : Int) := by rw [IntKind.wrap_u64, hP2, HP2.out]; omega
              have HP3 := Lib.hid hP2
              have j0 : (0 : Int) ≤ (j : Int) := by omega
              have j1 : (j : Int) < (l.length : Int) := by omega
              have j2 : (j : Int) ≤ (k : Int) := by omega
              clear hy hP hM hA hA2 hP2 hst hle hpow hpm hp2 hZl
              go_wp2_with fail
              go_round
              case rel => exact ⟨j + 1, by omega, by go_num, by rw [← HA2.out], by rw [← HP3.out]⟩
              case measure => simp [intOf]; omega
            · obtain rfl : j = k + 1 := by omega
              obtain ⟨Z, hZ⟩ : ∃ Z, Z = accZ l (k + 1) := ⟨_, rfl⟩
              obtain ⟨T, hT⟩ : ∃ T, T = 128 ^ (k + 1) % 18446744073709551616 := ⟨_, rfl⟩
              rw [← hZ] at HRES hZl ⊢
              rw [← hT]
              obtain ⟨v1, v2⟩ := unz_bd Z hZl
              have HLZ := Lib.hid (show (putB (unz Z)).length = (putZ Z).length by unfold putB; rw [zz_unz])
              obtain ⟨V, hV⟩ : ∃ V, V = unz Z := ⟨_, rfl⟩
              rw [← hV] at HRES HLZ v1 v2
              have hodd : (Z % 2 = 1 ∧ -((Z : Int) / 2) - 1 = V) ∨ (¬ Z % 2 = 1 ∧ (Z : Int) / 2 = V) := by
                rw [hV]
                unfold unz
                by_cases h : Z % 2 = 1
                · left; rw [if_pos h]; exact ⟨h, by omega⟩
                · right; rw [if_neg h]; exact ⟨h, by omega⟩
              have k3 : (k : Int) + 1 ≤ (cap : Int) := by omega
              try have k8 : (10 : Int) ≤ (cap : Int) := by (have := hk9; omega)
              have k4 : (0 : Int) ≤ (k : Int) + 1 := by omega
              have k5 : ((k : Int) + 1).toNat = k + 1 := by omega
              have k14 : IntKind.i64.wrap ((k : Int) + 1) = (k : Int) + 1 := IntWalk.i64_in _ (by omega)
              have k22 : IntKind.i64.wrap 10 = 10 := by decide
              have k23 : IntKind.i64.wrap (9 + 1) = 10 := by decide
              try have k15 : (9 : Int) < (cap : Int) := by (have := hk9; omega)
              try have k16 : 10 ≤ cap := by (have := hk9; omega)
              try have k17 : ¬ cap < 10 := by (have := hk9; omega)
              try have k18 : ¬ (cap : Int) < 10 := by (have := hk9; omega)
              have HBT := Lib.hid (HB.out.take (k + 1))
              have HTL := Lib.hid (show (l.take (k + 1)).length = k + 1 by rw [List.length_take]; omega)
              clear hZ hT hV
              rcases hodd with ⟨h1, hv⟩ | ⟨h1, hv⟩
              case' inl => have q5 : ((Z : Int) % 2 == 1) = true := beq_iff_eq.2 (by omega)
              case' inr => have q5 : ((Z : Int) % 2 == 1) = false := beq_eq_false_iff_ne.2 (by omega)
              all_goals
                clear h1
                go_upto_region 17 with fail
                rcases HRES.out with ⟨hI, hne⟩ | ⟨hI, heq⟩
                · rw [← HLZ.out] at hne
                  have HSL := Lib.hid (show ∀ (a : Option Addr) (c : Nat) (W : World) (m : Nat), m = k + 1 → _ from fun a c W m hm => refSame_len (putB V).length m a (some ⟨b, o, none⟩) c cap W (by rw [hm]; exact hne))
                  have HI := Lib.hid hI
                  clear hI hne
                  go_region_held3 (fun _ => True) (first | trivial | exact trivial) ((first
                    | (go_at_call 23; refine (refPut_any V _ v1 v2).mono ?_; rintro e w2 ⟨u2, rfl, hx2⟩; obtain ⟨a2, c2, rfl, hy2, _, _⟩ := owned_bytes hx2.own; have HB2 := Lib.hid ((Below.refl w.heap.size w).drew.trans hx2.fresh))
                    | (go_at_call 53; refine (HSL.out _ _ _ _ (by omega)).mono ?_; rintro e w3 ⟨rfl, rfl⟩)))
                  all_goals
                    go_wp2_with fail
                    go_ret3
                    exact ⟨by rw [HI.out]; rfl, HB2.out⟩
                · have HLV := Lib.hid (show (putB V).length = k + 1 by rw [heq]; exact HTL.out)
                  have HSS := Lib.hid (show ∀ (a : Option Addr) (c : Nat) (W : World) (m1 m2 : Nat), m1 = k + 1 → m2 = k + 1 → BytesAt W a (putB V) → BytesAt W (some ⟨b, o, none⟩) (putB V) → Calls Tryd.prog 53 #[.slice a m1 c, .slice (some ⟨b, o, none⟩) m2 cap] W (fun e w' => e = .returned (.bool true) ∧ Below W.heap.size W w') by
                    intro a c W m1 m2 e1 e2 h1 h2
                    have h := refSame_same (putB V) a (some ⟨b, o, none⟩) c cap W (by rw [HLV.out]; unfold maxLen; omega) h1 h2
                    rw [HLV.out] at h
                    rw [e1, e2]
                    exact h)
                  rw [← heq] at HBT
                  have HI := Lib.hid hI
                  clear hI heq
                  go_region_held3 (fun _ => True) (first | trivial | exact trivial) ((first
                    | (go_at_call 23; refine (refPut_any V _ v1 v2).mono ?_; rintro e w2 ⟨u2, rfl, hx2⟩; obtain ⟨a2, c2, rfl, hy2, _, _⟩ := owned_bytes hx2.own; rw [HLV.out]; have HB2 := Lib.hid ((Below.refl w.heap.size w).drew.trans hx2.fresh))
                    | (go_at_call 53; refine (HSS.out _ _ _ _ _ (by omega) (by omega) hy2 (HBT.out.below HB2.out)).mono ?_; rintro e w3 ⟨rfl, hb3⟩)))
                  all_goals
                    go_wp2_with fail
                    go_ret3
                    exact ⟨by rw [HI.out]; first | rfl | (rw [hk9]; rfl), HB2.out.trans (hb3.mono HB2.out.size)⟩
end Go.Proofs.YtmdhacboegmccaaDoor
