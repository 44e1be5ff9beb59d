/- Package wire: the sum of a batch. -/
import Derived.Test.YtmdhacboegmccaaDoorOneForm
namespace Go.Proofs.YtmdhacboegmccaaDoor
open Go Go.RowKit

theorem sum_take (l : List UInt8) (k : Nat) (hk : k < l.length) : sumPQ (l.take (k + 1)) = sumR (sumPQ (l.take k)) l[k] := by
  rw [List.take_succ_eq_append_getElem hk, sumPQ_snoc]

set_option maxHeartbeats 8000000 in
set_option maxRecDepth 100000 in
theorem sum_any (l : List UInt8) (ao : Option Addr) (cap : Nat) (w : World) (hb : BytesAt w ao l) (hlc : l.length ≤ cap) (hcm : cap ≤ maxLen) :
    Calls Tryd.prog 51 #[.slice ao l.length cap] w fun en w' => en = .returned (.agg (bytesC (sumB l)).toArray) ∧ Below w.heap.size w w' := by
  obtain ⟨W1, hW1⟩ : ∃ W1, W1 = w.alloc (Obj.cells #[.int .u8 0, .int .u8 0, .int .u8 0, .int .u8 0] 91) := ⟨_, rfl⟩
  have hb1 : Below w.heap.size w W1 := by rw [hW1]; exact (Below.refl _ _).alloc (Nat.le_refl _) _
  have HB1 := Lib.hid hb1
  have HBN := Lib.hid (hb.below hb1)
  have hz1 : w.heap.size < W1.heap.size := by rw [hW1]; simp
  have HH1 := Lib.hid (show W1.heap[w.heap.size]? = some (Obj.cells #[.int .u8 0, .int .u8 0, .int .u8 0, .int .u8 0] 91 (0, 0)) by rw [hW1]; exact heap_alloc_new _ _)
  have HW1 := Lib.hid hW1
  unfold maxLen at hcm
  clear hb hb1 hW1
  go_enter Tryd.func51, Tryd.ntmps51
  go_upto_region 1 with fail
  rw [← HW1.out]
  go_wp2_with fail
  go_loop [3, 4, 9] (fun a c i => ∃ k : Nat, k ≤ l.length ∧ i = .int .i64 k ∧ a = .int .i64 ((sumPQ (l.take k)).1 : Nat) ∧ c = .int .i64 ((sumPQ (l.take k)).2 : Nat)) (fun _ _ i => l.length - (intOf i).toNat)
  case atStart => exact ⟨0, Nat.zero_le _, rfl, rfl, rfl⟩
  case round =>
    obtain ⟨k, hk, rfl, rfl, rfl⟩ := hrel
    obtain ⟨P, hP⟩ : ∃ P, P = (sumPQ (l.take k)).1 := ⟨_, rfl⟩
    obtain ⟨Q, hQ⟩ : ∃ Q, Q = (sumPQ (l.take k)).2 := ⟨_, rfl⟩
    have hlt := sumPQ_lt (l.take k)
    rw [← hP, ← hQ] at hlt ⊢
    obtain ⟨hp, hq⟩ := hlt
    have HP := Lib.hid hP
    have HQ := Lib.hid hQ
    clear hP hQ
    by_cases hlt : k < l.length
    · obtain ⟨b, o, rfl, hc⟩ : ∃ b o, ao = some ⟨b, o, none⟩ ∧ ∀ i (h : i < l.length), W1.cell? ⟨b, o + i, none⟩ = some (.int .u8 (l[i].toNat : Int)) := by
        rcases HBN.out with h | h
        · rw [h] at hlt; simp at hlt
        · exact h
      have hck := hc k hlt
      have hst := sum_take l k hlt
      obtain ⟨x, hx⟩ : ∃ x, x = l[k] := ⟨_, rfl⟩
      rw [← hx] at hck hst
      have hx8 := x.toNat_lt
      have hr : sumPQ (l.take k) = (P, Q) := by rw [HP.out, HQ.out]
      rw [hr] at hst
      have HST := Lib.hid hst
      clear hc hx hst hr
      have HM1 := Lib.hid (show ((P : Int) + (x.toNat : Int)) % 65521 = (((P + x.toNat) % 65521 : Nat) : Int) by omega)
      go_wp2_with fail
      go_round
      case rel =>
        refine ⟨k + 1, by omega, by go_num, ?_, ?_⟩
        · rw [HST.out]
          simp only [sumR]
          go_num
        · rw [HST.out]
          simp only [sumR]
          go_num
      case measure => simp [intOf]; omega
    · have hke : k = l.length := by omega
      subst hke
      rw [List.take_length] at HP HQ
      have a0 : W1.cell? ⟨w.heap.size, 0, none⟩ = some (.int .u8 0) := by simp [World.cell?, HH1.out]
      have a1 : W1.cell? ⟨w.heap.size, 1, none⟩ = some (.int .u8 0) := by simp [World.cell?, HH1.out]
      have a2 : W1.cell? ⟨w.heap.size, 2, none⟩ = some (.int .u8 0) := by simp [World.cell?, HH1.out]
      have a3 : W1.cell? ⟨w.heap.size, 3, none⟩ = some (.int .u8 0) := by simp [World.cell?, HH1.out]
      have b0 : W1.frozen? ⟨w.heap.size, 0, none⟩ = false := by simp [World.frozen?, HH1.out]
      have b1 : W1.frozen? ⟨w.heap.size, 1, none⟩ = false := by simp [World.frozen?, HH1.out]
      have b2 : W1.frozen? ⟨w.heap.size, 2, none⟩ = false := by simp [World.frozen?, HH1.out]
      have b3 : W1.frozen? ⟨w.heap.size, 3, none⟩ = false := by simp [World.frozen?, HH1.out]
      go_wp2_with fail
      refine bodyPost_ret (v := .agg #[.int .u8 ((Q : Int) / 256), .int .u8 ((Q : Int) % 256), .int .u8 ((P : Int) / 256), .int .u8 ((P : Int) % 256)]) (by simp [results, Tryd.results51, go_sem, a0, a1, a2, a3]) rfl ⟨?_, ?_⟩
      · have e : ∀ n : Nat, n < 256 → (((UInt8.ofNat n).toNat : Nat) : Int) = (n : Int) := fun n h => by simp; omega
        have h : (bytesC (sumB l)).toArray = #[.int .u8 ((Q : Int) / 256), .int .u8 ((Q : Int) % 256), .int .u8 ((P : Int) / 256), .int .u8 ((P : Int) % 256)] := by
          unfold sumB
          rw [← HP.out, ← HQ.out]
          simp only [bytesC, List.map_cons, List.map_nil]
          rw [e (Q / 256) (by omega), e (Q % 256) (by omega), e (P / 256) (by omega), e (P % 256) (by omega)]
          norm_cast
        rw [h]
      · exact ((((HB1.out.setCell (Nat.le_refl _) _).setCell (Nat.le_refl _) _).setCell (Nat.le_refl _) _).setCell (Nat.le_refl _) _)
end Go.Proofs.YtmdhacboegmccaaDoor
