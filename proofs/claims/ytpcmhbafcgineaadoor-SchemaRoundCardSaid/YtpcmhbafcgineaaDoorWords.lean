/- Package schema: which kind a word names. -/
import Derived.Test.YtpcmhbafcgineaaDoorFault
namespace Go.Proofs.YtpcmhbafcgineaaDoor
open Go Go.RowKit

/-- The kind that a word names: 0, if none. -/
def wordKindB (s : ByteArray) : Int :=
  if ((kindWordB ((0 : Nat) : Int)).toList == s.toList) = true then ((0 : Nat) : Int)
  else if ((kindWordB ((1 : Nat) : Int)).toList == s.toList) = true then ((1 : Nat) : Int)
  else if ((kindWordB ((2 : Nat) : Int)).toList == s.toList) = true then ((2 : Nat) : Int)
  else if ((kindWordB ((3 : Nat) : Int)).toList == s.toList) = true then ((3 : Nat) : Int)
  else 0
theorem bf {b : Bool} (h : b = false) : ¬ b = true := by rw [h]; decide
theorem wk_hit (s : ByteArray) (k : Nat) (hk : k < 4) (hm : ∀ j : Nat, j < k → ((kindWordB j).toList == s.toList) = false) (h : ((kindWordB k).toList == s.toList) = true) : wordKindB s = k := by
  have h' : k = 0 ∨ k = 1 ∨ k = 2 ∨ k = 3 := by omega
  rcases h' with rfl | rfl | rfl | rfl
  · unfold wordKindB; rw [if_pos h]
  · unfold wordKindB; rw [if_neg (bf (hm 0 (by omega))), if_pos h]
  · unfold wordKindB; rw [if_neg (bf (hm 0 (by omega))), if_neg (bf (hm 1 (by omega))), if_pos h]
  · unfold wordKindB; rw [if_neg (bf (hm 0 (by omega))), if_neg (bf (hm 1 (by omega))), if_neg (bf (hm 2 (by omega))), if_pos h]
theorem wk_miss (s : ByteArray) (hm : ∀ j : Nat, j < 4 → ((kindWordB j).toList == s.toList) = false) : wordKindB s = 0 := by
  unfold wordKindB
  rw [if_neg (bf (hm 0 (by omega))), if_neg (bf (hm 1 (by omega))), if_neg (bf (hm 2 (by omega))), if_neg (bf (hm 3 (by omega)))]
theorem wk_word (k : Nat) (h1 : 1 ≤ k) (h3 : k ≤ 3) : wordKindB (kindWordB k) = k := by
  have h' : k = 1 ∨ k = 2 ∨ k = 3 := by omega
  rcases h' with rfl | rfl | rfl <;> decide +kernel

theorem kind_index : ∀ k : Nat, k < 4 → ∀ w : World, (Instr.index 49 (.agg kindCells) (.int .i64 k)).run Tryd.prog w = .ok (.string (kindWordB k)) w
  | 0, _, _ => by kernel_rfl | 1, _, _ => by kernel_rfl | 2, _, _ => by kernel_rfl | 3, _, _ => by kernel_rfl
  | n + 4, h, _ => by omega

set_option maxRecDepth 100000 in
theorem wordKind_any (s : ByteArray) (w : World) (hk : KindAt w) : Calls Tryd.prog 75 #[.string s] w fun e w' => e = .returned (.int .i64 (wordKindB s)) ∧ w = w' := by
  have HI := Lib.hid kind_index
  obtain ⟨tr, fr, hg⟩ := hk
  go_enter Tryd.func75, Tryd.ntmps75
  go_wp2_with (refine wpList_load_row rfl 49 _ rfl 1 rfl _ _ _ _ hg Tryd.underlying49 rfl (by kernel_rfl) ?_)
  go_loop [6] (fun i => ∃ k : Nat, k ≤ 4 ∧ i = .int .i64 k ∧ ∀ j : Nat, j < k → ((kindWordB j).toList == s.toList) = false) (fun i => 4 - (intOf i).toNat)
  case atStart => exact ⟨0, Nat.zero_le _, rfl, fun j hj => absurd hj (by omega)⟩
  case round =>
    obtain ⟨k, hk, rfl, hall⟩ := hrel
    have HA := Lib.hid hall
    clear hall
    by_cases hlt : k < 4
    · have hix := HI.out k hlt
      by_cases heq : ((kindWordB k).toList == s.toList) = true
      · have HE := Lib.hid (wk_hit s k hlt HA.out heq)
        go_wp2
        go_ret
        exact ⟨congrArg (fun n => Ending.returned (.int .i64 n)) HE.out.symm, rfl⟩
      · have heq' : ((kindWordB k).toList == s.toList) = false := by simpa using heq
        clear heq
        go_wp2
        go_round
        case rel =>
          refine ⟨k + 1, by omega, by go_num, fun j hj => ?_⟩
          rcases Nat.lt_or_ge j k with h' | h'
          · exact HA.out j h'
          · obtain rfl : j = k := by omega
            exact heq'
        case measure => simp [intOf]; omega
    · have HE := Lib.hid (wk_miss s (fun j hj => HA.out j (by omega)))
      go_wp2
      go_ret
      exact ⟨congrArg (fun n => Ending.returned (.int .i64 n)) HE.out.symm, rfl⟩
end Go.Proofs.YtpcmhbafcgineaaDoor
