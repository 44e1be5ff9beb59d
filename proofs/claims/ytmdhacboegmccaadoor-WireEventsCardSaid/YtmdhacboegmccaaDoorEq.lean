/- The laws' same, vals, events at what is the same; an event with its form. -/
import Derived.Test.YtmdhacboegmccaaDoorDecode
import Derived.Outline
namespace Go.Proofs.YtmdhacboegmccaaDoor
open Go Go.RowKit

theorem below_drewN {B : Nat} {a w : World} (h : Below B a w) (n : Nat) : Below B a (w.drewN n) := ⟨h.os, h.tape, h.output, h.size, h.block⟩

set_option maxHeartbeats 8000000 in
set_option maxRecDepth 100000 in
theorem same_same (l : List UInt8) (ao bo : Option Addr) (ca cb : Nat) (w : World) (hl : l.length ≤ maxLen) (ha : BytesAt w ao l) (hb : BytesAt w bo l) :
    Calls Tryd.prog 22 #[.slice ao l.length ca, .slice bo l.length cb] w fun e w' => e = .returned (.bool true) ∧ Below w.heap.size w w' := by
  have HA := Lib.hid ha
  have HB := Lib.hid hb
  unfold maxLen at hl
  have q2 : ((l.length : Int) != (l.length : Int)) = false := by simp
  clear ha hb
  go_enter Tryd.func22, Tryd.ntmps22
  go_wp2_with fail
  go_loopw [5] (fun i wr => ∃ k d : Nat, k ≤ l.length ∧ i = .int .i64 k ∧ wr = w.drewN d) (fun i _ => l.length - (intOf i).toNat)
  case atStart => exact ⟨0, 0, Nat.zero_le _, rfl, rfl⟩
  case round =>
    obtain ⟨k, d, hk, rfl, rfl⟩ := hrel
    by_cases hlt : k < l.length
    · obtain ⟨b, o, rfl, hca⟩ : ∃ b o, ao = some ⟨b, o, none⟩ ∧ ∀ i (h : i < l.length), w.cell? ⟨b, o + i, none⟩ = some (.int .u8 (l[i].toNat : Int)) := by
        rcases HA.out with h | h
        · rw [h] at hlt; simp at hlt
        · exact h
      obtain ⟨b2, o2, rfl, hcb⟩ : ∃ b o, bo = some ⟨b, o, none⟩ ∧ ∀ i (h : i < l.length), w.cell? ⟨b, o + i, none⟩ = some (.int .u8 (l[i].toNat : Int)) := by
        rcases HB.out with h | h
        · rw [h] at hlt; simp at hlt
        · exact h
      have g1 := hca k hlt
      have g3 := hcb k hlt
      obtain ⟨x, hx⟩ : ∃ x, x = l[k] := ⟨_, rfl⟩
      rw [← hx] at g1 g3
      clear hx hca hcb
      have b1 : (0 : Int) ≤ (k : Int) := by omega
      have b2 : (k : Int) < (l.length : Int) := by omega
      go_wp2_with fail
      go_quiet (fail)
      go_wp2_with fail
      go_roundw
      case rel => exact ⟨k + 1, d + nq, by omega, by go_num, by simp [World.drewN]⟩
      case measure => simp [intOf]; omega
    · go_wp2_with fail
      go_ret
      exact ⟨rfl, below_drewN (Below.refl _ _) _⟩

set_option maxHeartbeats 8000000 in
set_option maxRecDepth 100000 in
theorem vals_same (B C : Nat) (l : List Val) (ao bo : Option Addr) (ca cb : Nat) (w : World) (hl : l.length ≤ maxLen) (ha : ValsIn B w ao l) (hb : ValsIn C w bo l) :
    Calls Tryd.prog 50 #[.slice ao l.length ca, .slice bo l.length cb] w fun e w' => e = .returned (.bool true) ∧ Below w.heap.size w w' := by
  have HA := Lib.hid ha
  have HB := Lib.hid hb
  unfold maxLen at hl
  have q2 : ((l.length : Int) != (l.length : Int)) = false := by simp
  clear ha hb
  go_enter Tryd.func50, Tryd.ntmps50
  go_wp2_with fail
  go_loopw [5] (fun i wr => ∃ k d : Nat, k ≤ l.length ∧ i = .int .i64 k ∧ wr = w.drewN d) (fun i _ => l.length - (intOf i).toNat)
  case atStart => exact ⟨0, 0, Nat.zero_le _, rfl, rfl⟩
  case round =>
    obtain ⟨k, d, hk, rfl, rfl⟩ := hrel
    by_cases hlt : k < l.length
    · obtain ⟨b, o, rfl, _, hca⟩ : ∃ b o, ao = some ⟨b, o, none⟩ ∧ b < B ∧ ∀ i (h : i < l.length), w.cell? ⟨b, o + i * 4, none⟩ = some (.int .i64 l[i].kind) ∧ w.cell? ⟨b, o + i * 4 + 1, none⟩ = some (.int .i64 l[i].int) ∧ w.cell? ⟨b, o + i * 4 + 2, none⟩ = some (.string l[i].str) ∧ w.cell? ⟨b, o + i * 4 + 3, none⟩ = some (.bool l[i].bool) := by
        rcases HA.out with h | h
        · rw [h] at hlt; simp at hlt
        · exact h
      obtain ⟨b2, o2, rfl, _, hcb⟩ : ∃ b o, bo = some ⟨b, o, none⟩ ∧ b < C ∧ ∀ i (h : i < l.length), w.cell? ⟨b, o + i * 4, none⟩ = some (.int .i64 l[i].kind) ∧ w.cell? ⟨b, o + i * 4 + 1, none⟩ = some (.int .i64 l[i].int) ∧ w.cell? ⟨b, o + i * 4 + 2, none⟩ = some (.string l[i].str) ∧ w.cell? ⟨b, o + i * 4 + 3, none⟩ = some (.bool l[i].bool) := by
        rcases HB.out with h | h
        · rw [h] at hlt; simp at hlt
        · exact h
      obtain ⟨g1, g2, g3, g4⟩ := hca k hlt
      obtain ⟨h1, h2, h3, h4⟩ := hcb k hlt
      obtain ⟨⟨vk, vi, vs, vb⟩, hx⟩ : ∃ x, x = l[k] := ⟨_, rfl⟩
      rw [← hx] at g1 g2 g3 g4 h1 h2 h3 h4
      simp only at g1 g2 g3 g4 h1 h2 h3 h4
      clear hx hca hcb
      have b1 : (0 : Int) ≤ (k : Int) := by omega
      have b2 : (k : Int) < (l.length : Int) := by omega
      go_wp2_with fail
      go_quiet (fail)
      go_wp2_with fail
      go_roundw
      case rel => exact ⟨k + 1, d + nq, by omega, by go_num, by simp [World.drewN]⟩
      case measure => simp [intOf]; omega
    · go_wp2_with fail
      go_ret
      exact ⟨rfl, below_drewN (Below.refl _ _) _⟩

set_option maxHeartbeats 8000000 in
set_option maxRecDepth 100000 in
theorem events_same (B C : Nat) (e : Ev) (ao bo : Option Addr) (ca cb : Nat) (w : World) (hl : e.vals.length ≤ maxLen) (hB : B ≤ w.heap.size) (hC : C ≤ w.heap.size) (ha : ValsIn B w ao e.vals) (hb : ValsIn C w bo e.vals) :
    Calls Tryd.prog 18 #[evV e ao ca, evV e bo cb] w fun en w' => en = .returned (.bool true) ∧ Below w.heap.size w w' := by
  obtain ⟨ty, tm, vals⟩ := e
  simp only [evV] at *
  obtain ⟨W1, hW1⟩ : ∃ W1, W1 = (w.alloc (Obj.cells #[.string ty, .int .i64 tm, .slice ao vals.length ca] 24)).alloc (Obj.cells #[.string ty, .int .i64 tm, .slice bo vals.length cb] 24) := ⟨_, rfl⟩
  have hb1 : Below w.heap.size w W1 := by rw [hW1]; exact ((Below.refl _ _).alloc (Nat.le_refl _) _).alloc (by simp) _
  have hy : W1.heap[w.heap.size + 1]? = some (Obj.cells #[.string ty, .int .i64 tm, .slice bo vals.length cb] 24 (0, 0)) := by
    have := heap_alloc_new (w.alloc (Obj.cells #[.string ty, .int .i64 tm, .slice ao vals.length ca] 24)) (Obj.cells #[.string ty, .int .i64 tm, .slice bo vals.length cb] 24)
    rw [World.size_alloc] at this
    rw [hW1]
    exact this
  have hy1 : W1.heap[w.heap.size]? = some (Obj.cells #[.string ty, .int .i64 tm, .slice ao vals.length ca] 24 (0, 0)) := by
    rw [hW1, Below.heap_alloc _ _ _ (by simp)]
    exact heap_alloc_new w _
  have hz : w.heap.size ≤ W1.heap.size := hb1.size
  have c0 := (Cells3.of hy1).c0
  have c1 := (Cells3.of hy1).c1
  have c2 := (Cells3.of hy1).c2
  have d0 := (Cells3.of hy).c0
  have d1 := (Cells3.of hy).c1
  have d2 := (Cells3.of hy).c2
  have HV := Lib.hid (vals_same B C vals ao bo ca cb W1 hl (ha.below hb1 hB) (hb.below hb1 hC))
  have HB1 := Lib.hid hb1
  have HW1 := Lib.hid hW1
  have q1 : (ty.toList == ty.toList) = true := by simp
  clear hy hy1 hb1 hW1 ha hb
  go_enter Tryd.func18, Tryd.ntmps18
  go_upto_region 1 with fail
  rw [← HW1.out]
  go_wp2_with fail
  refine HV.out.mono ?_; rintro e w2 ⟨rfl, hb2⟩
  go_wp2_with fail
  go_ret
  exact ⟨rfl, HB1.out.trans (hb2.mono hz)⟩

/-- An event, and its form. -/
def tickE : Ev := ⟨⟨#[84, 105, 99, 107]⟩, 5, [⟨1, 12, ⟨#[]⟩, false⟩, ⟨2, 0, ⟨#[97, 98]⟩, false⟩, ⟨3, 0, ⟨#[]⟩, true⟩]⟩
def tickB : List UInt8 := [8, 84, 105, 99, 107, 10, 6, 1, 24, 2, 4, 97, 98, 3, 1]
theorem putB_small (n : Int) (z : Nat) (h : zz n = z) (hz : z < 128) : putB n = [UInt8.ofNat z] := by unfold putB; rw [h, putZ_small hz]
theorem tick_form : evE tickE = tickB := by
  have p4 := putB_small 4 8 (by decide) (by decide)
  have p5 := putB_small 5 10 (by decide) (by decide)
  have p3 := putB_small 3 6 (by decide) (by decide)
  have p12 := putB_small 12 24 (by decide) (by decide)
  have p2 := putB_small 2 4 (by decide) (by decide)
  have s4 : (((⟨#[84, 105, 99, 107]⟩ : ByteArray).size : Nat) : Int) = 4 := rfl
  have s2 : (((⟨#[97, 98]⟩ : ByteArray).size : Nat) : Int) = 2 := rfl
  have s3 : ((tickE.vals.length : Nat) : Int) = 3 := rfl
  unfold evE
  rw [s3]
  simp only [tickE, textE, s4, p4, p5, p3, List.flatMap_cons, List.flatMap_nil, valE, valTail, p12, s2, p2, if_true]
  decide
theorem tick_ok : evOk tickE := by
  refine ⟨by decide +kernel, by decide, by decide, ?_⟩
  intro v hv
  simp only [tickE, List.mem_cons, List.mem_nil_iff, or_false] at hv
  rcases hv with rfl | rfl | rfl
  · exact ⟨by decide +kernel, by decide, by decide⟩
  · exact ⟨by decide +kernel, by decide, by decide⟩
  · exact ⟨by decide +kernel, by decide, by decide⟩
end Go.Proofs.YtmdhacboegmccaaDoor
