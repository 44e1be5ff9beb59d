/- The walk of the law of cutting. -/
import Derived.Test.YtodbpfdknfcgbaaDoorRefSplit
namespace Go.Proofs.YtodbpfdknfcgbaaDoor
open Go Go.RowKit

theorem refSplit_long (t : ByteArray) (w : World) (ht : 65536 < t.size) (ht2 : t.size ≤ 9223372036854775807) :
    Calls Tryd.prog 12 #[.string t] w fun e w' => e = .returned (.tuple #[.slice none 0 0, .int .i64 0, .int .i64 2]) ∧ w' = w := by
  have hq : (65536 : Int) < (t.size : Int) := by omega
  go_enter Tryd.func12, Tryd.ntmps12
  go_wp2_with fail
  go_ret3
  exact ⟨rfl, rfl⟩
/-- The document's Split, of any text. -/
theorem refSplit_all (t : ByteArray) (w : World) (ht : t.size ≤ 9223372036854775807) :
    Calls Tryd.prog 12 #[.string t] w fun e w' => (∃ (l : List RowX) (va : Option Addr) (cap : Nat), e = .returned (.tuple #[.slice va l.length cap, .int .i64 (AtR t.data.toList), .int .i64 (SplitR t.data.toList).2.2]) ∧ cellsOf l = (SplitR t.data.toList).1 ∧ RowsIn w'.heap.size w' va l ∧ l.length ≤ cap ∧ cap ≤ maxLen ∧ ∀ x ∈ l, x.c.length ≤ maxLen) ∧ Below w.heap.size w w' := by
  have hsz : t.data.toList.length = t.size := rfl
  by_cases h : 65536 < t.size
  · refine (refSplit_long t w h ht).mono fun e w' ⟨h1, h2⟩ => ?_
    subst h2
    have hR := SplitR_long (t := t.data.toList) (by omega)
    refine ⟨⟨[], none, 0, ?_, by rw [hR]; rfl, Or.inl rfl, Nat.zero_le _, by unfold maxLen; omega, by simp⟩, Below.refl _ _⟩
    rw [h1]
    unfold AtR
    rw [hR]
    rfl
  · refine (refSplit_any t w (by omega)).mono fun e w' ⟨⟨l, va, cap, at', f, h1, h2, h3, h4, h5, h6⟩, h7⟩ => ?_
    obtain ⟨k1, k2⟩ := ref_all (t := t.data.toList) (by omega)
    rw [k1] at h2
    injection h2 with e1 e2
    injection e2 with e2 e3
    refine ⟨⟨l, va, cap, ?_, e1, h3, h4, h5, h6⟩, h7⟩
    rw [h1, e3, e2, Int.toNat_of_nonneg k2]

set_option maxHeartbeats 8000000 in
set_option maxRecDepth 100000 in
theorem splits_any (c : List (List UInt8)) (ao : Option Addr) (cap : Nat) (w : World) (hm : MaxAt w) (hc : StrsIn w.heap.size w ao c) (hcl : c.length ≤ 9223372036854775807) (hcs : ∀ y ∈ c, y.length ≤ 9223372036854775807) :
    Calls Tryd.prog 5 #[.slice ao c.length cap] w fun e w' => e = .returned (.bool true) ∧ Below w.heap.size w w' := by
  have HM := Lib.hid hm
  have HC := Lib.hid hc
  have HCS := Lib.hid hcs
  clear hm hc hcs
  go_enter Tryd.func5, Tryd.ntmps5
  go_wp2_with fail
  refine (begun_any w HM.out).mono ?_; rintro e w1 ⟨rfl, hb1⟩
  have HB1 := Lib.hid hb1
  clear hb1
  go_wp2_with fail
  go_loopw [4] (fun i wr => ∃ k : Nat, k ≤ c.length ∧ i = .int .i64 k ∧ Below w.heap.size w wr) (fun i _ => c.length - (intOf i).toNat)
  case atStart => exact ⟨0, Nat.zero_le _, rfl, HB1.out⟩
  case round =>
    obtain ⟨k, hk, rfl, hbel⟩ := hrel
    have HBE := Lib.hid hbel
    have hzw := hbel.size
    clear hbel
    by_cases hlt : k < c.length
    · obtain ⟨b, o, rfl, hb, hcell⟩ : ∃ b o, ao = some ⟨b, o, none⟩ ∧ b < w.heap.size ∧ ∀ i (h : i < c.length), wr.cell? ⟨b, o + i, none⟩ = some (.string ⟨c[i].toArray⟩) := by
        rcases HC.out.below HBE.out (Nat.le_refl _) with h | h
        · rw [h] at hlt; simp at hlt
        · exact h
      have hck := hcell k hlt
      have hsl := HCS.out c[k] (List.getElem_mem hlt)
      obtain ⟨s, hs⟩ : ∃ s : ByteArray, s = ⟨c[k].toArray⟩ := ⟨_, rfl⟩
      rw [← hs] at hck
      have hss : s.size ≤ 9223372036854775807 := by
        have : s.size = c[k].length := by rw [hs]; rfl
        omega
      have HA := Lib.hid (fun W => split_all s W hss)
      have HR := Lib.hid (fun W => refSplit_all s W hss)
      obtain ⟨P, hP⟩ : ∃ P, P = AtR s.data.toList := ⟨_, rfl⟩
      obtain ⟨F, hF⟩ : ∃ F, F = (SplitR s.data.toList).2.2 := ⟨_, rfl⟩
      rw [← hP, ← hF] at HA HR
      have hq1 : (P != P) = false := by simp
      have hq2 : (F != F) = false := by simp
      have HCK := Lib.hid hck
      have k0 : (0 : Int) ≤ (k : Int) := by omega
      have k1 : (k : Int) < (c.length : Int) := by omega
      clear hcell hs hP hF hsl
      go_wp2_with fail
      refine (HA.out wr).mono ?_; rintro e w2 ⟨⟨l, va, ca, rfl, hcl1, hown, hrow⟩, hb2⟩
      have hri := rows_in hown hrow
      have HI := Lib.hid hri.1
      have HCL := Lib.hid hcl1
      have hlc := hri.2.1
      have hlm := hri.2.2
      have HFT := Lib.hid (fun x hx => (strs_in (hrow x hx)).2)
      have HB2 := Lib.hid (HBE.out.trans (hb2.mono hzw))
      have hck2 := (hb2.cell (p := ⟨b, o + k, none⟩) (by simp; omega)).trans hck
      unfold maxLen at hlm
      clear hcl1 hown hrow hri hb2 hck
      go_wp2_with fail
      refine (HR.out w2).mono ?_; rintro e w3 ⟨⟨l2, vb, cb, rfl, hcl2, hri2, hlc2, hlm2, _⟩, hb3⟩
      have HB3 := Lib.hid (HB2.out.trans (hb3.mono HB2.out.size))
      have HI3 := Lib.hid ((HI.out.below hb3 (Nat.le_refl _)).mono hb3.size)
      have HSS := Lib.hid (same_same l l2 va vb ca cb w3.heap.size w3.heap.size w3 HI3.out hri2 (Nat.le_refl _) (Nat.le_refl _) (HCL.out.trans hcl2.symm) (by omega) HFT.out)
      clear hcl2 hri2 hb3 hck2 hlc2 hlm2
      go_wp2_with fail
      refine HSS.out.mono ?_; rintro e w4 ⟨rfl, hb4⟩
      have HB4 := Lib.hid (HB3.out.trans (hb4.mono HB3.out.size))
      clear hb4
      go_wp2_with fail
      go_roundw
      case rel => exact ⟨k + 1, by omega, by go_num, HB4.out⟩
      case measure => simp [intOf]; omega
    · go_wp2_with fail
      go_ret
      exact ⟨rfl, HBE.out⟩
end Go.Proofs.YtodbpfdknfcgbaaDoor
