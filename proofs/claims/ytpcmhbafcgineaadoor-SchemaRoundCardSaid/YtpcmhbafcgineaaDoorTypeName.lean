/- Package schema, the reader's typeName at a text that is a name. -/
import Derived.Test.YtpcmhbafcgineaaDoorPass
namespace Go.Proofs.YtpcmhbafcgineaaDoor
open Go Go.RowKit

theorem word_of_name {s : ByteArray} (h : nameB s = true) : isWordB s = true := by
  unfold nameB at h
  simp only [Bool.and_eq_true] at h
  exact h.1.1.2

set_option maxHeartbeats 8000000 in
set_option maxRecDepth 100000 in
theorem typeName_ok (t : ByteArray) (p rb : Nat) (w : World) (hres : ResAt w) (hr : ReadAt w rb t p) (hk : p ≤ t.size) (ht : t.size ≤ maxLen) (hn : nameB (aheadB t p) = true) :
    Calls Tryd.prog 39 #[.pointer (some ⟨rb, 0, none⟩)] w fun e w' => e = .returned (.tuple #[.string (aheadB t p), .int .i64 0]) ∧ ∃ w1, Below w.heap.size w w1 ∧ w' = w1.setCell ⟨rb, 1, none⟩ (.int .i64 (skipB t (p + (aheadB t p).size))) := by
  have hs := aheadB_le t p
  obtain ⟨nm, hnm⟩ : ∃ nm, nm = aheadB t p := ⟨_, rfl⟩
  rw [← hnm] at hs hn ⊢
  have HM := Lib.hid hnm.symm
  have HK := Lib.hid (show p + nm.size ≤ t.size by omega)
  have HW := Lib.hid (word_of_name hn)
  have HN := Lib.hid hn
  have HR := Lib.hid hr
  have HRes := Lib.hid hres
  clear hr hs hn hnm hres
  go_enter Tryd.func39, Tryd.ntmps39
  go_wp2_with (first
    | (go_at_call 54; go_must (refine (ahead_any t p rb _ HR.out hk ht).mono ?_; rintro e w2 ⟨rfl, hb2⟩; rw [HM.out]))
    | (go_at_call 26; go_must (refine (isWord_any nm _).mono ?_; rintro e w3 ⟨rfl, hb3⟩; rw [HW.out]))
    | (go_at_call 16; go_must (refine (name_any nm _ ((HRes.out.below hb2).below hb3)).mono ?_; rintro e w4 ⟨rfl, hb4⟩; rw [HN.out]))
    | (go_at_call 24; go_must (refine (move_any t p nm.size rb _ (((HR.out.below hb2).below hb3).below hb4) HK.out ht).mono ?_; rintro e w5 ⟨rfl, w1, hb5, rfl⟩)))
  have z2 := hb2.size
  have z3 := hb3.size
  have z4 := hb4.size
  exact bodyPost_ret (results_tmp2 rfl _ _ _) rfl ⟨rfl, w1, hb2.trans ((hb3.mono z2).trans ((hb4.mono (by omega)).trans (hb5.mono (by omega)))), rfl⟩
end Go.Proofs.YtpcmhbafcgineaaDoor
