/- The laws' sameEvent, at equal events. -/
import Derived.Test.YtdkddnlolnbpgaaDoorFaultC
import Derived.BigQuiet
namespace Go.Proofs.YtdkddnlolnbpgaaDoor
open Go Go.RowKit

set_option maxHeartbeats 8000000 in
set_option maxRecDepth 100000 in
theorem sameEvent_same (ty : ByteArray) (tm : Int) (vs : List Val) (va vb : Option Addr) (ca cb : Nat) (w : World) (ha : ValsIn w.heap.size w va vs) (hb : ValsIn w.heap.size w vb vs) (hn : vs.length ≤ 9223372036854775807) :
    Calls Tryd.prog 11 #[.agg #[.string ty, .int .i64 tm, .slice va vs.length ca], .agg #[.string ty, .int .i64 tm, .slice vb vs.length cb]] w fun e w' => e = .returned (.bool true) ∧ Below w.heap.size w w' := by
  obtain ⟨p, hp⟩ : ∃ p, p = w.heap.size := ⟨_, rfl⟩
  obtain ⟨W1, hW1⟩ : ∃ W, W = w.alloc (Obj.cells #[.string ty, .int .i64 tm, .slice va vs.length ca] 27) := ⟨_, rfl⟩
  obtain ⟨W2, hW2⟩ : ∃ W, W = W1.alloc (Obj.cells #[.string ty, .int .i64 tm, .slice vb vs.length cb] 27) := ⟨_, rfl⟩
  have hz1 : W1.heap.size = p + 1 := by rw [hW1, World.size_alloc, hp]
  have hz2 : W2.heap.size = p + 2 := by rw [hW2, World.size_alloc, hz1]
  have HB2 := Lib.hid (show Below w.heap.size w W2 by rw [hW2, hW1]; exact ((Below.refl _ _).alloc (Nat.le_refl _) _).alloc (by rw [World.size_alloc]; omega) _)
  have hE1 : EvBox W2 p ty tm (.slice va vs.length ca) := by unfold EvBox; rw [hW2, heap_alloc_old _ _ (by omega), hW1, hp]; exact heap_alloc_new _ _
  have hE2 : EvBox W2 (p + 1) ty tm (.slice vb vs.length cb) := by unfold EvBox; rw [hW2, ← hz1]; exact heap_alloc_new _ _
  have HBX := Lib.hid (show ∀ W, Below (p + 2) W2 W → EvBox W p ty tm (.slice va vs.length ca) ∧ EvBox W (p + 1) ty tm (.slice vb vs.length cb) ∧ ValsIn w.heap.size W va vs ∧ ValsIn w.heap.size W vb vs ∧ Below w.heap.size w W from fun W hW =>
    ⟨(hW.block p (by omega)).trans hE1, (hW.block (p + 1) (by omega)).trans hE2, (ha.below HB2.out (Nat.le_refl _)).below hW (by omega), (hb.below HB2.out (Nat.le_refl _)).below hW (by omega), HB2.out.trans (hW.mono (by omega))⟩)
  obtain ⟨a0, a1, a2⟩ := hE1.c
  obtain ⟨b0, b1, b2⟩ := hE2.c
  have HW1 := Lib.hid hW1
  have HW2 := Lib.hid hW2
  have HP := Lib.hid hp
  have HZ2 := Lib.hid hz2
  clear hW1 hW2 hp hz1 hz2 hE1 hE2 ha hb
  go_enter Tryd.func11, Tryd.ntmps11
  go_upto_region 1 with fail
  rw [← HW1.out, ← HW2.out, ← HP.out]
  go_upto_region 3 with fail
  clear a0 a1 a2 b0 b1 b2
  go_wp2_with fail
  go_loopg [5] (vs.length + 1) (fun g v5 wr => ∃ i : Nat, i ≤ vs.length ∧ v5 = .int .i64 (i : Int) ∧ Below (p + 2) W2 wr ∧ vs.length - i < g)
  case atStart => exact ⟨0, Nat.zero_le _, rfl, Below.refl _ _, by omega⟩
  case round =>
    obtain ⟨i, hi, rfl, hbel, hg⟩ := hrel
    obtain ⟨g, rfl⟩ : ∃ g, gk = g + 1 := ⟨gk - 1, by omega⟩
    obtain ⟨hE1, hE2, hA, hB, hBW⟩ := HBX.out wr hbel
    obtain ⟨a0, a1, a2⟩ := hE1.c
    obtain ⟨b0, b1, b2⟩ := hE2.c
    have HBE := Lib.hid hbel
    have HBW := Lib.hid hBW
    have i0 : (0 : Int) ≤ (i : Int) := by omega
    by_cases hlt : i < vs.length
    · have i1 : (i : Int) < (vs.length : Int) := by omega
      obtain ⟨b, o, rfl, _, e0, e1, e2, e3⟩ := vals_cell hA i hlt
      obtain ⟨b', o', rfl, _, f0, f1, f2, f3⟩ := vals_cell hB i hlt
      obtain ⟨v, hv⟩ : ∃ v, v = vs[i] := ⟨_, rfl⟩
      rw [← hv] at e0 e1 e2 e3 f0 f1 f2 f3
      obtain ⟨vk, vn, vstr, vb'⟩ := v
      simp only at e0 e1 e2 e3 f0 f1 f2 f3
      clear hv hE1 hE2 hA hB hBW hbel a0 a1 b0 b1
      go_upto_region 6 with fail
      go_quiet (fail)
      go_wp2_with fail
      go_roundg g
      case rel => exact ⟨i + 1, by omega, by go_num, below_drewN2 HBE.out _, by omega⟩
      case measure => omega
    · have i1 : ¬ (i : Int) < (vs.length : Int) := by omega
      clear hE1 hE2 hA hB hBW hbel a0 a1 b0 b1 b2
      go_wp2_with fail
      go_ret
      exact ⟨rfl, HBW.out⟩
end Go.Proofs.YtdkddnlolnbpgaaDoor
