/- Package schema, the reader's pass, and which kind a word names. -/
import Derived.Test.YtpcmhbafcgineaaDoorReader
namespace Go.Proofs.YtpcmhbafcgineaaDoor
open Go Go.RowKit

theorem aheadB_le (t : ByteArray) (p : Nat) : (aheadB t p).size ≤ t.size - p := by
  have h1 : (t.extract p t.size).size = t.size - p := by rw [ByteArray.size_extract]; omega
  have h2 := wordLen_le (t.extract p t.size)
  unfold aheadB
  simp only
  split
  · rw [ByteArray.size_extract]; omega
  · split
    · exact Nat.zero_le _
    · split
      · rw [ByteArray.size_extract]; omega
      · exact Nat.zero_le _

set_option maxHeartbeats 8000000 in
set_option maxRecDepth 100000 in
theorem pass_no (t tok : ByteArray) (p rb : Nat) (w : World) (hr : ReadAt w rb t p) (hk : p ≤ t.size) (ht : t.size ≤ maxLen) (hn : ((aheadB t p).toList == tok.toList) = false) :
    Calls Tryd.prog 38 #[.pointer (some ⟨rb, 0, none⟩), .string tok] w fun e w' => e = .returned (.bool false) ∧ Below w.heap.size w w' := by
  have HR := Lib.hid hr
  clear hr
  go_enter Tryd.func38, Tryd.ntmps38
  go_wp2_with (go_at_call 54; go_must (refine (ahead_any t p rb _ HR.out hk ht).mono ?_; rintro e w2 ⟨rfl, hb2⟩))
  go_ret
  exact ⟨rfl, hb2⟩

set_option maxHeartbeats 8000000 in
set_option maxRecDepth 100000 in
theorem pass_yes (t tok : ByteArray) (p rb : Nat) (w : World) (hr : ReadAt w rb t p) (hk : p ≤ t.size) (ht : t.size ≤ maxLen) (hy : aheadB t p = tok) :
    Calls Tryd.prog 38 #[.pointer (some ⟨rb, 0, none⟩), .string tok] w fun e w' => e = .returned (.bool true) ∧ ∃ w1, Below w.heap.size w w1 ∧ w' = w1.setCell ⟨rb, 1, none⟩ (.int .i64 (skipB t (p + tok.size))) := by
  have hs := aheadB_le t p
  rw [hy] at hs
  have HR := Lib.hid hr
  have HK := Lib.hid (show p + tok.size ≤ t.size by omega)
  have HY := Lib.hid hy
  clear hr hs hy
  have hq : (tok.toList == tok.toList) = true := by simp
  go_enter Tryd.func38, Tryd.ntmps38
  go_wp2_with (first
    | (go_at_call 54; go_must (refine (ahead_any t p rb _ HR.out hk ht).mono ?_; rintro e w2 ⟨rfl, hb2⟩; rw [HY.out]))
    | (go_at_call 24; go_must (refine (move_any t p tok.size rb _ (HR.out.below hb2) HK.out ht).mono ?_; rintro e w3 ⟨rfl, w1, hb3, rfl⟩)))
  go_ret
  exact ⟨rfl, w1, hb2.trans (hb3.mono hb2.size), rfl⟩
end Go.Proofs.YtpcmhbafcgineaaDoor
