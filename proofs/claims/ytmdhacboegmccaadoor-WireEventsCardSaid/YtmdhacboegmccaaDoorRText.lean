/- Package wire, the reader: text. -/
import Derived.Test.YtmdhacboegmccaaDoorReader
namespace Go.Proofs.YtmdhacboegmccaaDoor
open Go Go.RowKit

theorem textR_eq (lo hi : Int) (r : Rd) : textR lo hi r = if ((numberR lo hi r).2.rest.length : Int) < (numberR lo hi r).1 then (⟨#[]⟩, (numberR lo hi r).2.refuse 30) else (⟨((numberR lo hi r).2.rest.take (numberR lo hi r).1.toNat).toArray⟩, ⟨(numberR lo hi r).2.rest.drop (numberR lo hi r).1.toNat, (numberR lo hi r).2.fault⟩) := by
  unfold textR mapped andThen bytesR
  by_cases h : ((numberR lo hi r).2.rest.length : Int) < (numberR lo hi r).1
  · rw [if_pos h, if_pos h]
  · rw [if_neg h, if_neg h]
theorem numberR_lo (lo hi : Int) (h0 : 0 ≤ lo) (r : Rd) : 0 ≤ (numberR lo hi r).1 ∧ ((numberR lo hi r).1 ≤ hi ∨ (numberR lo hi r).1 = 0) := by
  unfold numberR
  split
  · split
    · exact ⟨Int.le_refl _, Or.inr rfl⟩
    · exact ⟨by simp only; omega, Or.inl (by simp only; omega)⟩
  · exact ⟨Int.le_refl _, Or.inr rfl⟩

theorem conv_nil (ao : Option Addr) (cap : Nat) (w : World) : (convert 25 9 (.slice ao 0 cap)).run Tryd.prog w = .ok (.string ⟨#[]⟩) w := by
  cases ao with
  | none =>
    rw [run_convert_bytes_string w 25 9 5 none 0 cap Tryd.underlying25 Tryd.underlying5 Tryd.underlying9]
    rfl
  | some a => exact run_convert_bytes_back (P := Tryd.prog) w 25 9 5 a cap [] Tryd.underlying25 Tryd.underlying5 Tryd.underlying9 (fun j hj => absurd hj (by simp))
theorem conv_take (l : List UInt8) (n b o cap : Nat) (w : World) (hn : n ≤ l.length) (hc : ∀ i (h : i < l.length), w.cell? ⟨b, o + i, none⟩ = some (.int .u8 (l[i].toNat : Int))) : (convert 25 9 (.slice (some ⟨b, o, none⟩) n cap)).run Tryd.prog w = .ok (.string ⟨(l.take n).toArray⟩) w := by
  have h := run_convert_bytes_back (P := Tryd.prog) w 25 9 5 ⟨b, o, none⟩ cap (l.take n) Tryd.underlying25 Tryd.underlying5 Tryd.underlying9 (fun j hj => by
    have hj' : j < l.length := by rw [List.length_take] at hj; omega
    have e : (⟨b, o, none⟩ : Addr).add j = ⟨b, o + j, none⟩ := by
      unfold Addr.add
      split
      · subst_vars; rfl
      · rfl
    rw [e, hc j hj']
    simp)
  rw [List.length_take, Nat.min_eq_left hn] at h
  exact h

set_option maxHeartbeats 8000000 in
set_option maxRecDepth 100000 in
theorem text_any (rb B : Nat) (r : Rd) (lo hi : Int) (w : World) (hr : RdAt w rb B r) (hlo : 0 ≤ lo) (hhi : hi ≤ 1000) :
    Calls Tryd.prog 77 #[.pointer (some ⟨rb, 0, none⟩), .int .i64 lo, .int .i64 hi] w fun en w' => en = .returned (.string (textR lo hi r).1) ∧ RdTo rb B w w' (textR lo hi r).2 := by
  have HT := Lib.hid (textR_eq lo hi r)
  have HNL := Lib.hid (numberR_lo lo hi hlo r)
  have HNUM := Lib.hid (number_any rb B r lo hi w hr)
  obtain ⟨⟨m, r1⟩, hm⟩ : ∃ x, x = numberR lo hi r := ⟨_, rfl⟩
  rw [← hm] at HT HNL HNUM
  simp only at HT HNL HNUM
  have hm0 := HNL.out.1
  obtain ⟨n, rfl⟩ : ∃ n : Nat, m = (n : Int) := ⟨m.toNat, by omega⟩
  have hn1000 : n ≤ 1000 := by have := HNL.out.2; omega
  rw [Int.toNat_natCast] at HT
  clear hm hr hm0
  go_enter Tryd.func77, Tryd.ntmps77
  go_wp2_with fail
  refine HNUM.out.mono ?_; rintro e w1 ⟨rfl, hto1⟩
  have HTO1 := Lib.hid hto1
  obtain ⟨ao, cap, c0, hcap, hcm, hoff⟩ := hto1.at'.ex
  have f0 := hto1.at'.f0
  have HOFF := Lib.hid hoff
  clear hoff hto1
  unfold maxLen at hcm
  by_cases hlt : r1.rest.length < n
  · have HE := Lib.hid (show textR lo hi r = (⟨#[]⟩, r1.refuse 30) by rw [HT.out, if_pos (by omega)])
    go_wp2_with fail
    refine (refuse_any rb B r1 30 _ HTO1.out.at').mono ?_; rintro e w2 ⟨rfl, hto⟩
    go_wp2_with fail
    go_ret
    exact ⟨by rw [HE.out]; rfl, by rw [HE.out]; exact HTO1.out.trans hto⟩
  · have HE := Lib.hid (show textR lo hi r = (⟨(r1.rest.take n).toArray⟩, ⟨r1.rest.drop n, r1.fault⟩) by rw [HT.out, if_neg (by omega)])
    by_cases h0 : n = 0
    · subst h0
      have hcv := conv_nil ao cap w1
      have HTO := Lib.hid (HTO1.out.at'.setRest ao cap r1.rest hcap (by unfold maxLen; omega) HOFF.out)
      go_wp2_with fail
      go_ret
      refine ⟨by rw [HE.out]; rfl, ?_⟩
      rw [HE.out]
      exact HTO1.out.trans HTO.out
    · obtain ⟨b, o, rfl, hbr, hbl, hc⟩ : ∃ b o, ao = some ⟨b, o, none⟩ ∧ b ≠ rb ∧ b < B ∧ ∀ i (h : i < r1.rest.length), w1.cell? ⟨b, o + i, none⟩ = some (.int .u8 (r1.rest[i].toNat : Int)) := by
        rcases HOFF.out with h | h
        · exfalso; rw [h] at hlt; simp at hlt; omega
        · exact h
      have hcv := conv_take r1.rest n b o cap w1 (by omega) hc
      have hle : n ≤ r1.rest.length := by omega
      have hpos : 0 < n := by omega
      clear hc
      by_cases hcp : n = cap
      · have HTO := Lib.hid (show RdTo rb B w1 (w1.setCell ⟨rb, 0, none⟩ (.slice (some ⟨b, o, none⟩) 0 0)) ⟨r1.rest.drop n, r1.fault⟩ by
          have h := HTO1.out.at'.setRest (some ⟨b, o, none⟩) 0 [] (Nat.le_refl _) (by unfold maxLen; omega) (Or.inl rfl)
          rw [List.drop_of_length_le (by omega)]
          exact h)
        subst hcp
        have hrl : r1.rest.length = n := by omega
        go_wp2_with fail
        go_ret
        refine ⟨by rw [HE.out]; rfl, ?_⟩
        rw [HE.out]
        have h := HTO1.out.trans HTO.out
        have e1 : r1.rest.length - n = 0 := by omega
        first | exact h | (rw [e1, Nat.sub_self]; exact h)
      · have HTO := Lib.hid (show RdTo rb B w1 (w1.setCell ⟨rb, 0, none⟩ (.slice (some ⟨b, o + n, none⟩) (r1.rest.length - n) (cap - n))) ⟨r1.rest.drop n, r1.fault⟩ by
          have h := HTO1.out.at'.setRest (some ⟨b, o + n, none⟩) (cap - n) (r1.rest.drop n) (by rw [List.length_drop]; omega) (by unfold maxLen; omega) (BytesOff.drop n HOFF.out)
          rw [List.length_drop] at h
          exact h)
        go_wp2_with fail
        go_ret
        exact ⟨by rw [HE.out]; rfl, by rw [HE.out]; exact HTO1.out.trans HTO.out⟩
end Go.Proofs.YtmdhacboegmccaaDoor
