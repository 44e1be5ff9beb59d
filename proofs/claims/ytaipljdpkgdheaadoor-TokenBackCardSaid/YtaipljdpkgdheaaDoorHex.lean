/- Package token: the byte of two hexadecimal digits. -/
import Derived.Test.YtaipljdpkgdheaaDoorSign
namespace Go.Proofs.YtaipljdpkgdheaaDoor
open Go Go.RowKit

theorem hexU_lt {b x : UInt8} (h : hexU b = some x) : x.toNat < 16 := by
  unfold hexU at h
  have hb := b.toNat_lt
  split at h
  · cases h
    rw [UInt8.toNat_ofNat']
    omega
  · split at h
    · cases h
      rw [UInt8.toNat_ofNat']
      omega
    · split at h
      · cases h
        rw [UInt8.toNat_ofNat']
        omega
      · cases h
theorem or16 : ∀ x y : Fin 16, bits BinOp.or IntKind.u8 ((x.val : Int) * 16) (y.val : Int) = ((16 * x.val + y.val : Nat) : Int) := by decide +kernel
theorem or_digits {x y : UInt8} (hx : x.toNat < 16) (hy : y.toNat < 16) : bits BinOp.or IntKind.u8 ((x.toNat : Int) * 16) (y.toNat : Int) = ((UInt8.ofNat (16 * x.toNat + y.toNat)).toNat : Int) := by
  have h := or16 ⟨x.toNat, hx⟩ ⟨y.toNat, hy⟩
  rw [UInt8.toNat_ofNat', Nat.mod_eq_of_lt (by omega)]
  exact h
theorem or_zero {y : UInt8} (hy : y.toNat < 16) : bits BinOp.or IntKind.u8 0 (y.toNat : Int) = (y.toNat : Int) := by
  have h := or16 ⟨0, by decide⟩ ⟨y.toNat, hy⟩
  simpa using h
theorem at_head {s : ByteArray} {i : Nat} (h : i < s.size) : ∃ r, s.data.toList.drop i = s[i]'h :: r := ⟨_, rest_cons (t := s) (q := i) h⟩

set_option maxHeartbeats 8000000 in
set_option maxRecDepth 100000 in
theorem hexadecimal_any (s : ByteArray) (w : World) (N : Nat) (hs : 2 ≤ s.size) (hN : N = if (hexR (s.data.toList.drop 2)).2 = 0 then 4 else 0) :
    Calls Tryd.prog 73 #[.string s] w fun e w' => e = .returned (.tuple #[.int .u8 ((hexR (s.data.toList.drop 2)).1.toNat : Int), .int .i64 (N : Int), .int .i64 (hexR (s.data.toList.drop 2)).2]) ∧ w = w' := by
  obtain ⟨R, hR⟩ : ∃ R, R = hexR (s.data.toList.drop 2) := ⟨_, rfl⟩
  rw [← hR] at hN ⊢
  have HN := Lib.hid hN
  have HR := Lib.hid hR
  clear hN hR
  go_enter Tryd.func73, Tryd.ntmps73
  go_wp2_with fail
  go_loopw [5, 6] (fun c i wr => wr = w ∧ ((c = .int .u8 0 ∧ i = .int .i64 2) ∨ (∃ (h : 2 < s.size) (x : UInt8), hexU (s[2]'h) = some x ∧ c = .int .u8 (x.toNat : Int) ∧ i = .int .i64 3) ∨ (R.2 = 0 ∧ c = .int .u8 (R.1.toNat : Int) ∧ i = .int .i64 4))) (fun _ i _ => 4 - (intOf i).toNat)
  case atStart => exact ⟨rfl, Or.inl ⟨rfl, rfl⟩⟩
  case round =>
    obtain ⟨rfl, hrel⟩ := hrel
    rcases hrel with ⟨rfl, rfl⟩ | ⟨h2, x, hx, rfl, rfl⟩ | ⟨h0, rfl, rfl⟩
    · by_cases h2 : 2 < s.size
      · obtain ⟨r, hr⟩ := at_head h2
        have k2 : ¬ (2 : Int) = (s.size : Int) := by omega
        have k3 : (2 : Int) < (s.size : Int) := by omega
        cases hx : hexU (s[2]'h2) with
        | none =>
          have HE := Lib.hid (show R = (0, 51) by rw [HR.out, hr]; simp [hexR, hx])
          have HD := Lib.hid (hexDigit_any (s[2]'h2) wr)
          rw [hx] at HD
          clear hr hx
          go_wp2_with fail
          refine HD.out.mono ?_; rintro e w' ⟨rfl, rfl⟩
          go_wp2_with fail
          go_ret3
          exact ⟨by rw [HN.out, HE.out]; rfl, rfl⟩
        | some x =>
          have HD := Lib.hid (hexDigit_any (s[2]'h2) wr)
          have hx16 := hexU_lt hx
          have HX := Lib.hid hx
          have e1 := or_zero hx16
          rw [hx] at HD
          clear hr hx
          go_wp2_with fail
          refine HD.out.mono ?_; rintro e w' ⟨rfl, rfl⟩
          go_wp2_with fail
          go_roundw
          case rel => exact ⟨trivial, Or.inr (Or.inl ⟨h2, x, HX.out, rfl, rfl⟩)⟩
          case measure => decide
      · have HE := Lib.hid (show R = (0, 52) by
          rw [HR.out, List.drop_eq_nil_of_le (show s.size ≤ 2 by omega)]
          rfl)
        have k2 : (2 : Int) = (s.size : Int) := by omega
        go_wp2_with fail
        go_ret3
        exact ⟨by rw [HN.out, HE.out]; rfl, rfl⟩
    · have hx16 := hexU_lt hx
      have HX := Lib.hid hx
      clear hx
      obtain ⟨r, hr⟩ := at_head h2
      have hr2 := rest_drop s 2 1
      unfold restB at hr2
      rw [hr] at hr2
      simp only [List.drop_one, List.tail_cons] at hr2
      by_cases h3 : 3 < s.size
      · obtain ⟨r3, hr3⟩ := at_head h3
        rw [hr3] at hr2
        have k2 : ¬ (3 : Int) = (s.size : Int) := by omega
        have k3 : (3 : Int) < (s.size : Int) := by omega
        cases hy : hexU (s[3]'h3) with
        | none =>
          have HE := Lib.hid (show R = (0, 51) by rw [HR.out, hr, hr2]; simp [hexR, hy, HX.out])
          have HD := Lib.hid (hexDigit_any (s[3]'h3) wr)
          rw [hy] at HD
          clear hr hr2 hr3 hy
          go_wp2_with fail
          refine HD.out.mono ?_; rintro e w' ⟨rfl, rfl⟩
          go_wp2_with fail
          go_ret3
          exact ⟨by rw [HN.out, HE.out]; rfl, rfl⟩
        | some y =>
          have HD := Lib.hid (hexDigit_any (s[3]'h3) wr)
          have hy16 := hexU_lt hy
          have e1 := or_digits hx16 hy16
          have HE := Lib.hid (show R = (UInt8.ofNat (16 * x.toNat + y.toNat), 0) by rw [HR.out, hr, hr2]; simp [hexR, hy, HX.out])
          rw [hy] at HD
          clear hr hr2 hr3 hy
          have m1 : (x.toNat : Int) * 16 < 256 := by omega
          have m0 : (0 : Int) ≤ (x.toNat : Int) * 16 := by omega
          go_wp2_with fail
          refine HD.out.mono ?_; rintro e w' ⟨rfl, rfl⟩
          go_wp2_with fail
          go_roundw
          case rel => exact ⟨trivial, Or.inr (Or.inr ⟨by rw [HE.out], by rw [HE.out]; congr 1, rfl⟩)⟩
          case measure => decide
      · have HE := Lib.hid (show R = (0, 52) by
          rw [HR.out, hr, hr2.trans (List.drop_eq_nil_of_le (show s.size ≤ 3 by omega))]
          simp [hexR, HX.out])
        have k2 : (3 : Int) = (s.size : Int) := by omega
        go_wp2_with fail
        go_ret3
        exact ⟨by rw [HN.out, HE.out]; rfl, rfl⟩
    · go_wp2_with fail
      go_ret3
      exact ⟨by rw [HN.out, if_pos h0, h0]; rfl, rfl⟩
end Go.Proofs.YtaipljdpkgdheaaDoor
