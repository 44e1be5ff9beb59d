/- The document's own reader: text. -/
import Derived.Test.YtmdhacboegmccaaDoorRefReader
namespace Go.Proofs.YtmdhacboegmccaaDoor
open Go Go.RowKit

theorem number_zero {lo hi : Int} {r : Rd} (h : r.fault ≠ 0 → r.rest = []) (h2 : (numberR lo hi r).2.fault ≠ 0) : (numberR lo hi r).1 = 0 ∧ (numberR lo hi r).2.rest = [] := by
  by_cases h0 : r.fault = 0
  · rw [numberR_int] at h2 ⊢
    by_cases e : (intB r.rest).2.2 = 0
    · rw [if_pos e] at h2 ⊢
      by_cases e2 : (intB r.rest).1 < lo ∨ hi < (intB r.rest).1
      · rw [if_pos e2] at h2 ⊢
        exact ⟨rfl, by unfold Rd.refuse; rw [if_pos h0]⟩
      · rw [if_neg e2] at h2
        exact absurd h0 h2
    · rw [if_neg e]
      exact ⟨rfl, by unfold Rd.refuse; rw [if_pos h0]⟩
  · rw [number_ill h0 (h h0)]
    exact ⟨rfl, h h0⟩
/-- 's[p:q]' of bytes that lie somewhere. -/
theorem cut_both (ao : Option Addr) (L cap p q : Nat) (hp : p ≤ q) (hq : q ≤ cap) (z : Int) (hz : z = (q : Int)) : ∀ W, (Instr.slice 25 (.slice ao L cap) (some (.int .i64 (p : Int))) (some (.int .i64 z)) none).run Tryd.prog W = .ok (.slice (if cap = p then ao else ao.map (·.add p)) (q - p) (cap - p)) W := by
  intro W
  subst hz
  have hu : Tryd.prog.underlying 25 = some (.slice (Tryd.prog.elem 25)) := by kernel_rfl
  have he : Tryd.prog.elem 25 = 5 := by kernel_rfl
  rw [run_slice_lh W 25 ao L cap hu .i64 .i64 (p : Int) (q : Int) (by omega) (by omega) (by omega), he, Tryd.sizeOf5]
  simp only [Result.andThen, sliced, Int.toNat_natCast, Nat.mul_one]
theorem conv_cut {rb B : Nat} {w : World} {ao : Option Addr} {l : List UInt8} (h : BytesOff rb B w ao l) (cap p n c : Nat) (hpn : p + n ≤ l.length) (hc : l.length ≤ cap) : (convert 25 9 (.slice (if cap = p then ao else ao.map (·.add p)) n c)).run Tryd.prog w = .ok (.string ⟨((l.drop p).take n).toArray⟩) w := by
  by_cases h0 : n = 0
  · subst h0
    exact conv_nil _ c w
  · rw [if_neg (by omega)]
    rcases h with h | ⟨b, o, rfl, _, _, h⟩
    · rw [h] at hpn; simp at hpn; omega
    · have e2 : (some (⟨b, o, none⟩ : Addr)).map (·.add p) = some ⟨b, o + p, none⟩ := by simp [Addr.add]
      rw [e2]
      refine conv_take (l.drop p) n b (o + p) c w (by rw [List.length_drop]; omega) (fun i hi => ?_)
      have hi' : p + i < l.length := by rw [List.length_drop] at hi; omega
      have := h (p + i) hi'
      rw [← Nat.add_assoc] at this
      rw [this]
      simp

set_option maxHeartbeats 4000000 in
set_option maxRecDepth 100000 in
theorem refText_any (rb B : Nat) (l : List UInt8) (r : Rd) (lo hi : Int) (w : World) (hr : RfAt w rb B l r) (hlo : 0 ≤ lo) (hhi : hi ≤ 1000) :
    Calls Tryd.prog 57 #[.pointer (some ⟨rb, 0, none⟩), .int .i64 lo, .int .i64 hi] w fun en w' => en = .returned (.string (textR lo hi r).1) ∧ RfTo rb B l w w' (textR lo hi r).2 := by
  have HT := Lib.hid (textR_eq lo hi r)
  have HNL := Lib.hid (numberR_lo lo hi hlo r)
  have HNUM := Lib.hid (refNumber_any rb B l r lo hi w hr)
  have HZ := Lib.hid (number_zero (lo := lo) (hi := hi) (r := r) (by obtain ⟨_, _, _, _, _, _, _, _, _, _, h⟩ := hr.ex; exact h))
  obtain ⟨⟨m, r1⟩, hm⟩ : ∃ x, x = numberR lo hi r := ⟨_, rfl⟩
  rw [← hm] at HT HNL HNUM HZ
  simp only at HT HNL HNUM HZ
  have hm0 := HNL.out.1
  obtain ⟨n, rfl⟩ : ∃ n : Nat, m = (n : Int) := ⟨m.toNat, by omega⟩
  have hn1000 : n ≤ 1000 := by have := HNL.out.2; omega
  rw [Int.toNat_natCast] at HT
  clear hm hr hm0
  go_enter Tryd.func57, Tryd.ntmps57
  go_wp2_with fail
  (with_reducible refine HNUM.out.mono ?_); rintro en w1 ⟨rfl, hto1⟩
  have HTO1 := Lib.hid hto1
  have HR := Lib.hid hto1.at'
  have c2 := HR.out.c2
  obtain ⟨ao, cap, p, c0, c1, h1, h2, h3, h4, h5, h6⟩ := HR.out.ex
  have f1 := HR.out.f1
  clear hto1
  unfold maxLen at h2
  cases h : (r1.fault == 0)
  · have h0 : r1.fault ≠ 0 := by simpa using h
    have hz := HZ.out h0
    have hn0 : n = 0 := by omega
    have HE := Lib.hid (show textR lo hi r = (⟨#[]⟩, r1) by
      rw [HT.out, hz.2, hn0]
      simp only [List.length_nil]
      rw [if_neg (by omega)]
      obtain ⟨rs, fs⟩ := r1
      simp only at hz ⊢
      rw [hz.2]
      rfl)
    have hn : (r1.fault != 0) = true := by simpa using h0
    clear h5 h6 h4 h0 hz hn0
    go_wp2_with fail
    go_ret
    exact ⟨by rw [HE.out]; rfl, by rw [HE.out]; exact HTO1.out⟩
  have h0 : r1.fault = 0 := by simpa using h
  have hn : (r1.fault != 0) = false := by simpa using h0
  have HF := Lib.hid h0
  have HRS := Lib.hid (h5 h0)
  have hrl : r1.rest.length = l.length - p := by rw [h5 h0, List.length_drop]
  have HOF := Lib.hid h4
  have e1 : IntKind.i64.wrap ((l.length : Int) - (p : Int)) = (l.length : Int) - (p : Int) := IntWalk.i64_in _ (by omega)
  clear h5 h6 h4 h0 h
  by_cases hlt : l.length - p < n
  · have HE := Lib.hid (show textR lo hi r = (⟨#[]⟩, r1.refuse 30) by rw [HT.out, if_pos (by omega)])
    have hq : (l.length : Int) - (p : Int) < (n : Int) := by omega
    have HFF := Lib.hid (fun d => refFault_any rb B l r1 30 (by decide) (w1.drewN d) (HR.out.below (below_drewN (Below.refl _ _) _)))
    clear hrl hlt
    go_wp2_with fail
    go_quiet (fail)
    go_wp2_with fail
    (with_reducible refine (HFF.out _).mono ?_); rintro en w2 ⟨rfl, hto⟩
    go_wp2_with fail
    go_ret
    exact ⟨by rw [HE.out]; rfl, by rw [HE.out]; exact HTO1.out.trans (RfTo.pre (below_drewN (Below.refl _ _) _) hto)⟩
  · have hpn : p + n ≤ l.length := by omega
    have HE := Lib.hid (show textR lo hi r = (⟨((l.drop p).take n).toArray⟩, ⟨l.drop (p + n), 0⟩) by rw [HT.out, if_neg (by omega), HRS.out, HF.out, List.drop_drop])
    have hq : (n : Int) ≤ (l.length : Int) - (p : Int) := by omega
    have e2 : IntKind.i64.wrap ((p : Int) + (n : Int)) = (p : Int) + (n : Int) := IntWalk.i64_in _ (by omega)
    have e3 : IntKind.i64.wrap ((p : Int) + (n : Int) - (n : Int)) = (p : Int) := by rw [IntWalk.i64_in _ (by omega)]; omega
    have HSL := Lib.hid (cut_both ao l.length cap p (p + n) (by omega) (by omega) ((p : Int) + (n : Int)) (by omega))
    clear hrl hlt
    go_wp2_with fail
    go_quiet (fail)
    go_upto_region 8 with fail
    have HTO := Lib.hid (RfTo.pre (below_drewN (Below.refl w1.heap.size w1) nq) ((HR.out.below (below_drewN (Below.refl _ _) nq)).setAt (p + n) hpn HF.out ((p : Int) + (n : Int)) (by omega)))
    obtain ⟨W1, hW1⟩ : ∃ W1, W1 = (w1.drewN nq).setCell ⟨rb, 1, none⟩ (.int .i64 ((p : Int) + (n : Int))) := ⟨_, rfl⟩
    have HOF1 := Lib.hid (show BytesOff rb B W1 ao l by rw [hW1]; exact (HOF.out.keep (grownBy_of_below (below_drewN (Below.refl _ _) nq) _)).keep (grown_set _ _ _ _))
    rw [← hW1] at HTO ⊢
    have c0' : W1.cell? ⟨rb, 0, none⟩ = some (.slice ao l.length cap) := by rw [hW1, World.cell?_setCell_other _ _ _ _ (by intro e; cases e)]; exact c0
    have c1' : W1.cell? ⟨rb, 1, none⟩ = some (.int .i64 ((p : Int) + (n : Int))) := by rw [hW1]; exact World.cell?_setCell_same _ _ _ c1
    have hcv : ∀ d, (convert 25 9 (.slice (if cap = p then ao else ao.map (·.add p)) n (cap - p))).run Tryd.prog (W1.drewN d) = .ok (.string ⟨((l.drop p).take n).toArray⟩) (W1.drewN d) := fun d => conv_cut (HOF1.out.keep (grownBy_of_below (below_drewN (Below.refl _ _) d) _)) cap p n (cap - p) hpn h1
    have hcv0 : (convert 25 9 (.slice (if cap = p then ao else ao.map (·.add p)) n (cap - p))).run Tryd.prog W1 = .ok (.string ⟨((l.drop p).take n).toArray⟩) W1 := conv_cut HOF1.out cap p n (cap - p) hpn h1
    have hsl := HSL.out
    rw [Nat.add_sub_cancel_left] at hsl
    obtain ⟨ao', hao⟩ : ∃ ao', ao' = (if cap = p then ao else ao.map (·.add p)) := ⟨_, rfl⟩
    obtain ⟨S, hS⟩ : ∃ S : ByteArray, S = ⟨((l.drop p).take n).toArray⟩ := ⟨_, rfl⟩
    rw [← hao, ← hS] at hcv hcv0
    rw [← hao] at hsl
    rw [← hS] at HE
    clear hao hS hW1 c0 c1 c2 f1 e1 e2
    go_quiet (fail)
    go_wp2_with fail
    go_ret
    exact ⟨by rw [HE.out]; rfl, by rw [HE.out]; exact HTO1.out.trans (HTO.out.below (below_drewN (Below.refl _ _) _))⟩
end Go.Proofs.YtmdhacboegmccaaDoor
