/- The laws' roomy. -/
import Derived.Test.YtmdhacboegmccaaDoorRefInt
import Derived.Test.YtmdhacboegmccaaDoorDamage
namespace Go.Proofs.YtmdhacboegmccaaDoor
open Go Go.RowKit

/-- The byte at a place of the bytes with marks behind them. -/
def roomAt (l : List UInt8) (i : Nat) : UInt8 := if i < l.length then l.getD i 0 else UInt8.ofNat ((137 + i - l.length) % 256)
theorem roomAt_in (l : List UInt8) (i : Nat) (h : i < l.length) : roomAt l i = l[i] := by simp [roomAt, h]
theorem u8_wrap (z : Int) : ∃ y : UInt8, IntKind.u8.wrap z = (y.toNat : Int) := by
  refine ⟨UInt8.ofNat (z % 256).toNat, ?_⟩
  have h : IntKind.u8.wrap z = z % 256 := by simp [IntKind.wrap, IntKind.bits, IntKind.signed]
  rw [h]
  simp
  omega
theorem wrap_u8_nat (n : Nat) : IntKind.u8.wrap (n : Int) = ((UInt8.ofNat (n % 256)).toNat : Int) := by
  have h : IntKind.u8.wrap (n : Int) = (n : Int) % 256 := by simp [IntKind.wrap, IntKind.bits, IntKind.signed]
  rw [h]
  simp

set_option maxHeartbeats 8000000 in
set_option maxRecDepth 100000 in
theorem roomy_any (l : List UInt8) (ao : Option Addr) (cap : Nat) (w : World) (hb : BytesAt w ao l) (_hlc : l.length ≤ cap) (hcm : l.length ≤ 150000000000000) :
    Calls Tryd.prog 24 #[.slice ao l.length cap] w fun e w' => ∃ g c r, e = .returned (.slice (some ⟨g, 0, none⟩) (l.length + 66) c) ∧ Copy w' w.heap.size g c r ∧ r.length = l.length + 66 ∧ (∀ i (h : i < r.length), r[i] = roomAt l i) ∧ Below w.heap.size w w' := by
  obtain ⟨i0, hi0, hz0, hz1, hz2⟩ := info_parts Tryd.infoU8
  have HB := Lib.hid hb
  clear hb
  obtain ⟨N, hN⟩ : ∃ N, N = l.length + 66 := ⟨_, rfl⟩
  have HN := Lib.hid hN
  have hN1 : (l.length : Int) + 66 = (N : Int) := by omega
  have hN2 : N ≤ 150000000000066 := by omega
  have hN3 : l.length ≤ N := by omega
  rw [← hN]
  clear hN
  go_enter Tryd.func24, Tryd.ntmps24
  go_upto_region 3 with (at_make; refine wpList_make_full _ rfl _ _ 25 rfl w.heap.size 5 i0 _ 1 Tryd.underlying25 hi0 hz0 hz1 .i64 .i64 _ _ N rfl rfl (by first | rfl | exact hN1) (by first | rfl | exact hN1) (by rw [hz2]; omega) (by unfold maxLen; omega) (Nat.le_refl _) ?_; intro w2 hown2 hgrow2)
  obtain ⟨g, hg⟩ : ∃ g, g = w.heap.size := ⟨_, rfl⟩
  have hown3 : w2.ownsRow w.heap.size 5 1 (.slice (some ⟨g, 0, none⟩) N N) (List.replicate N (0 : UInt8)).length (bytesC (List.replicate N 0)) := by
    have e : (madeCells (Value.int IntKind.u8 0).cells (N * 1)).toList = bytesC (List.replicate N 0) := by
      show (madeCells #[Value.int IntKind.u8 0] (N * 1)).toList = _
      rw [Nat.mul_one, toList_madeCells_one]
      simp [bytesC]
    rw [← e, List.length_replicate, hg]
    exact hown2
  obtain ⟨g', c', e', hcp⟩ := copy_of hown3 (by rw [List.length_replicate]; omega)
  rw [List.length_replicate] at e'
  injection e' with e1 e2 e3
  injection e1 with e1
  injection e1 with e1
  rw [← e1, ← e3] at hcp
  have HC2 := Lib.hid hcp
  have hb2 : Below w.heap.size w w2 := below_of_grown hgrow2 rfl
  have HB2 := Lib.hid hb2
  have hgl : w.heap.size ≤ g := by omega
  rw [← hg]
  clear hown2 hown3 hgrow2 hcp hb2 e1 e2 e3 hg
  go_wp2_with fail
  go_loopw [5] (fun i wr => ∃ (k : Nat) (r : List UInt8), k ≤ N ∧ i = .int .i64 k ∧ Copy wr w.heap.size g N r ∧ r.length = N ∧ (∀ j (h : j < r.length), j < k → r[j] = roomAt l j) ∧ Below w.heap.size w wr) (fun i _ => N - (intOf i).toNat)
  case atStart => exact ⟨0, List.replicate N 0, Nat.zero_le _, rfl, HC2.out, List.length_replicate .., fun j _ h => by omega, HB2.out⟩
  case round =>
    obtain ⟨k, r, hk, rfl, hc, hr, hall, hbel⟩ := hrel
    have HC := Lib.hid hc
    have HALL := Lib.hid hall
    have HBE := Lib.hid hbel
    clear hc hall hbel
    by_cases hlt : k < N
    · have x0 := HC.out.cells k (by omega)
      rw [Nat.zero_add] at x0
      have x1 := HC.out.free k (by omega)
      obtain ⟨y, hy⟩ := u8_wrap ((137 : Int) + (k : Int) - (l.length : Int))
      have HY := Lib.hid hy
      obtain ⟨W1, hW1⟩ : ∃ W1, W1 = wr.setCell ⟨g, k, none⟩ (.int .u8 (y.toNat : Int)) := ⟨_, rfl⟩
      have HC1 := Lib.hid (show Copy W1 w.heap.size g N (r.set k y) by rw [hW1]; exact HC.out.set k (by omega) y)
      have HB1 := Lib.hid (show Below w.heap.size w W1 by rw [hW1]; exact HBE.out.setCell hgl _)
      have HW1 := Lib.hid hW1
      have k0 : (0 : Int) ≤ (k : Int) := by omega
      have k1 : (k : Int) < (N : Int) := by omega
      clear hW1
      go_upto_region 7 with fail
      rw [← HW1.out]
      clear x0 x1 hy
      by_cases hkl : k < l.length
      · obtain ⟨b, o, rfl, hcb⟩ : ∃ b o, ao = some ⟨b, o, none⟩ ∧ ∀ i (h : i < l.length), W1.cell? ⟨b, o + i, none⟩ = some (.int .u8 (l[i].toNat : Int)) := by
          rcases HB.out.below HB1.out with h | h
          · rw [h] at hkl; simp at hkl
          · exact h
        have hck := hcb k hkl
        have hra := roomAt_in l k hkl
        obtain ⟨x, hx⟩ : ∃ x, x = l[k] := ⟨_, rfl⟩
        rw [← hx] at hck hra
        have HRA := Lib.hid hra
        have x0 := HC1.out.cells k (by rw [List.length_set]; omega)
        rw [Nat.zero_add] at x0
        have x1 := HC1.out.free k (by rw [List.length_set]; omega)
        obtain ⟨W2, hW2⟩ : ∃ W2, W2 = W1.setCell ⟨g, k, none⟩ (.int .u8 (x.toNat : Int)) := ⟨_, rfl⟩
        have HC3 := Lib.hid (show Copy W2 w.heap.size g N ((r.set k y).set k x) by rw [hW2]; exact HC1.out.set k (by rw [List.length_set]; omega) x)
        have HB3 := Lib.hid (show Below w.heap.size w W2 by rw [hW2]; exact HB1.out.setCell hgl _)
        have HW2 := Lib.hid hW2
        have l1 : (k : Int) < (l.length : Int) := by omega
        clear hcb hx hra hW2
        go_upto_region 5 with fail
        rw [← HW2.out]
        clear x0 x1 hck
        go_wp2_with fail
        go_roundw
        case rel =>
          refine ⟨k + 1, (r.set k y).set k x, by omega, by go_num, HC3.out, by rw [List.length_set, List.length_set]; exact hr, fun j h hj => ?_, HB3.out⟩
          rw [List.length_set, List.length_set] at h
          by_cases e : k = j
          · subst e
            rw [HRA.out]
            simp
          · simp only [List.getElem_set, e, if_false]
            exact HALL.out j h (by omega)
        case measure => simp [intOf]; omega
      · have hra : roomAt l k = y := by
          have h := HY.out
          have e : (137 : Int) + (k : Int) - (l.length : Int) = ((137 + k - l.length : Nat) : Int) := by omega
          rw [e, wrap_u8_nat] at h
          unfold roomAt
          rw [if_neg hkl]
          exact UInt8.toNat_inj.1 (by omega)
        have HRA := Lib.hid hra
        have l1 : ¬ (k : Int) < (l.length : Int) := by omega
        clear hra
        go_wp2_with fail
        go_roundw
        case rel =>
          refine ⟨k + 1, r.set k y, by omega, by go_num, HC1.out, by rw [List.length_set]; exact hr, fun j h hj => ?_, HB1.out⟩
          rw [List.length_set] at h
          by_cases e : k = j
          · subst e
            rw [HRA.out]
            simp
          · simp only [List.getElem_set, e, if_false]
            exact HALL.out j h (by omega)
        case measure => simp [intOf]; omega
    · have hkN : k = N := by omega
      subst hkN
      go_wp2_with fail
      go_ret
      exact ⟨g, k, r, rfl, HC.out, hr, fun i h => HALL.out i h (by omega), HBE.out⟩
end Go.Proofs.YtmdhacboegmccaaDoor
