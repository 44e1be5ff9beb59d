/- Package wire: fold and unfold, for every number. -/
import Derived.Test.YtmdhacboegmccaaDoorSum
import Derived.Test.YtmdhacboegmccaaDoorName
import Derived.Laws.Bits64
import Derived.Laws.Bits64b
import Derived.Laws.DeepNot64
namespace Go.Proofs.YtmdhacboegmccaaDoor
open Go Go.RowKit

theorem xor_ones (b : Nat) (hb : b < 18446744073709551616) : 18446744073709551615 ^^^ b = 18446744073709551615 - b := by
  have h1 := BitVec.toNat_not (x := BitVec.ofNat 64 b)
  rw [BitVec.not_def, BitVec.toNat_xor, BitVec.toNat_allOnes, BitVec.toNat_ofNat, Nat.mod_eq_of_lt (by omega)] at h1
  omega
theorem not_u64 (b : Nat) (hb : b < 18446744073709551616) : bits .xor .u64 IntKind.u64.max (b : Int) = ((18446744073709551615 - b : Nat) : Int) := by
  rw [show IntKind.u64.max = ((18446744073709551615 : Nat) : Int) from by rfl, bits_xor_u64_nat _ _ (by omega) hb, xor_ones b hb]
theorem and_one (z : Nat) (h : z < 18446744073709551616) : bits .and .u64 (z : Int) 1 = ((z % 2 : Nat) : Int) := by
  have := bits_and_u64_nat z 1 h (by omega)
  rw [Nat.and_one_is_mod] at this
  exact this
theorem ret_i64 {a b : Int} (h : a = b) : Ending.returned (.int .i64 a) = .returned (.int .i64 b) := by rw [h]
theorem ret_u64 {a b : Int} (h : a = b) : Ending.returned (.int .u64 a) = .returned (.int .u64 b) := by rw [h]

set_option maxRecDepth 100000 in
theorem fold_any (n : Int) (w : World) (h1 : -9223372036854775808 ≤ n) (h2 : n ≤ 9223372036854775807) : Calls Tryd.prog 72 #[.int .i64 n] w fun e w' => e = .returned (.int .u64 (zz n : Nat)) ∧ w = w' := by
  by_cases hn : n < 0
  · obtain ⟨m, hm⟩ : ∃ m : Nat, (m : Int) = 18446744073709551616 + 2 * n := ⟨(18446744073709551616 + 2 * n).toNat, by omega⟩
    have hx : IntKind.u64.wrap (IntKind.u64.wrap n * 2) = (m : Int) := by rw [IntKind.wrap_u64, IntKind.wrap_u64]; omega
    have HN := Lib.hid (not_u64 m (by omega))
    have HM := Lib.hid hm
    clear hm
    have hs : ¬ IntKind.u64.signed = true := by decide
    go_enter Tryd.func72, Tryd.ntmps72
    go_wp2_with fail
    go_ret
    refine ⟨ret_u64 ?_, rfl⟩
    rw [HN.out]
    have := HM.out
    unfold zz
    rw [if_pos hn]
    omega
  · go_enter Tryd.func72, Tryd.ntmps72
    go_wp2_with fail
    go_ret
    refine ⟨ret_u64 ?_, rfl⟩
    unfold zz
    rw [if_neg (by omega)]
    omega
set_option maxRecDepth 100000 in
theorem unfold_any (z : Nat) (w : World) (h : z < 2 ^ 64) : Calls Tryd.prog 46 #[.int .u64 z] w fun e w' => e = .returned (.int .i64 (unz z)) ∧ w = w' := by
  have hs : IntKind.i64.signed = true := by decide
  by_cases hn : z % 2 = 1
  · have hb : (bits .and .u64 (z : Int) 1 == 1) = true := by rw [and_one z h, hn]; rfl
    have HN := Lib.hid (i64_not (z / 2) (by omega))
    have HZ := Lib.hid hn
    clear hn
    go_enter Tryd.func46, Tryd.ntmps46
    go_wp2_with fail
    go_ret
    refine ⟨ret_i64 ?_, rfl⟩
    unfold unz
    rw [if_pos HZ.out]
    have := HN.out
    rw [show ((z : Int) / 2) = ((z / 2 : Nat) : Int) from by omega, this]
    omega
  · have hb : (bits .and .u64 (z : Int) 1 == 1) = false := by rw [and_one z h, show z % 2 = 0 from by omega]; rfl
    have HZ := Lib.hid hn
    clear hn
    go_enter Tryd.func46, Tryd.ntmps46
    go_wp2_with fail
    go_ret
    refine ⟨ret_i64 ?_, rfl⟩
    unfold unz
    rw [if_neg HZ.out]
    omega
end Go.Proofs.YtmdhacboegmccaaDoor
