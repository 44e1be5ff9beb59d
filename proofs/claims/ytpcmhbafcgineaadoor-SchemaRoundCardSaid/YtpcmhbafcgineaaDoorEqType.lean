/- The law's eqType at two types that are the same. -/
import Derived.Test.YtpcmhbafcgineaaDoorTyped
import Derived.Deep.QuietTactic
import Derived.BigQuiet
namespace Go.Proofs.YtpcmhbafcgineaaDoor
open Go Go.RowKit

theorem below_drewN' {B : Nat} {a w : World} (h : Below B a w) (n : Nat) : Below B a (w.drewN n) := ⟨h.os, h.tape, h.output, h.size, h.block⟩
set_option maxHeartbeats 8000000 in
set_option maxRecDepth 100000 in
theorem eqType_same (n : ByteArray) (l : List Attr) (ao bo : Option Addr) (ca cb : Nat) (w : World) (hl : l.length ≤ 16) (ha : AttrsAt w ao l) (hb : AttrsAt w bo l) :
    Calls Tryd.prog 14 #[.agg #[.string n, .slice ao l.length ca], .agg #[.string n, .slice bo l.length cb]] w fun e w' => e = .returned (.bool true) ∧ Below w.heap.size w w' := by
  obtain ⟨W1, hW1⟩ : ∃ W1, W1 = (w.alloc (Obj.cells #[.string n, .slice ao l.length ca] 27)).alloc (Obj.cells #[.string n, .slice bo l.length cb] 27) := ⟨_, rfl⟩
  have hB1 : Below w.heap.size w W1 := by rw [hW1]; exact ((Below.refl _ _).alloc (Nat.le_refl _) _).alloc (by simp) _
  have HA := Lib.hid (ha.below' hB1)
  have HB := Lib.hid (hb.below' hB1)
  have HB1 := Lib.hid hB1
  have hy : W1.heap[w.heap.size + 1]? = some (Obj.cells #[.string n, .slice bo l.length cb] 27 (0, 0)) := by
    have := heap_alloc_new (w.alloc (Obj.cells #[.string n, .slice ao l.length ca] 27)) (Obj.cells #[.string n, .slice bo l.length cb] 27)
    rw [World.size_alloc] at this
    rw [hW1]
    exact this
  have hy1 : W1.heap[w.heap.size]? = some (Obj.cells #[.string n, .slice ao l.length ca] 27 (0, 0)) := by
    rw [hW1, Below.heap_alloc _ _ _ (by simp)]
    exact heap_alloc_new w _
  have e0 : W1.cell? ⟨w.heap.size, 0, none⟩ = some (.string n) := by simp [World.cell?, hy1]
  have e1 : W1.cell? ⟨w.heap.size, 1, none⟩ = some (.slice ao l.length ca) := by simp [World.cell?, hy1]
  have e2 : W1.cell? ⟨w.heap.size + 1, 0, none⟩ = some (.string n) := by simp [World.cell?, hy]
  have e3 : W1.cell? ⟨w.heap.size + 1, 1, none⟩ = some (.slice bo l.length cb) := by simp [World.cell?, hy]
  have HW1 := Lib.hid hW1
  have q1 : (n.toList != n.toList) = false := by simp
  have q2 : ((l.length : Int) != (l.length : Int)) = false := by simp
  clear ha hb hB1 hW1 hy hy1
  go_enter Tryd.func14, Tryd.ntmps14
  go_upto_region 1 with fail
  rw [← HW1.out]
  go_wp2_with fail
  go_loopw [5] (fun i wr => ∃ k d : Nat, k ≤ l.length ∧ i = .int .i64 k ∧ wr = W1.drewN d) (fun i _ => l.length - (intOf i).toNat)
  case atStart => exact ⟨0, 0, Nat.zero_le _, rfl, rfl⟩
  case round =>
    obtain ⟨k, d, hk, rfl, rfl⟩ := hrel
    by_cases hlt : k < l.length
    · obtain ⟨b, o, rfl, hca⟩ : ∃ b o, ao = some ⟨b, o, none⟩ ∧ ∀ i (h : i < l.length), W1.cell? ⟨b, o + i * 2, none⟩ = some (.string l[i].1) ∧ W1.cell? ⟨b, o + i * 2 + 1, none⟩ = some (.int .i64 l[i].2) := by
        rcases HA.out with h | h
        · rw [h] at hlt; simp at hlt
        · exact h
      obtain ⟨b2, o2, rfl, hcb⟩ : ∃ b o, bo = some ⟨b, o, none⟩ ∧ ∀ i (h : i < l.length), W1.cell? ⟨b, o + i * 2, none⟩ = some (.string l[i].1) ∧ W1.cell? ⟨b, o + i * 2 + 1, none⟩ = some (.int .i64 l[i].2) := by
        rcases HB.out with h | h
        · rw [h] at hlt; simp at hlt
        · exact h
      obtain ⟨g1, g2⟩ := hca k hlt
      obtain ⟨g3, g4⟩ := hcb k hlt
      obtain ⟨⟨m, kd⟩, hm⟩ : ∃ a : Attr, a = l[k] := ⟨_, rfl⟩
      rw [← hm] at g1 g2 g3 g4
      simp only at g1 g2 g3 g4
      clear hm hca hcb
      have b1 : (0 : Int) ≤ (k : Int) := by omega
      have b2 : (k : Int) < (l.length : Int) := by omega
      go_wp2_with fail
      go_quiet (fail)
      go_wp2_with fail
      go_roundw
      case rel => exact ⟨k + 1, d + nq, by omega, by go_num, by simp [World.drewN]⟩
      case measure => simp [intOf]; omega
    · go_wp2_with fail
      go_ret
      exact ⟨rfl, below_drewN' HB1.out _⟩
end Go.Proofs.YtpcmhbafcgineaaDoor
