/- Package csv, the reader's end of a row. -/
import Derived.Test.YtdkddnlolnbpgaaDoorCells
namespace Go.Proofs.YtdkddnlolnbpgaaDoor
open Go Go.RowKit

theorem rest_suffix {t : ByteArray} {s : List UInt8} (h : s <:+ t.data.toList) : restB t (t.size - s.length) = s := by
  obtain ⟨u, hu⟩ := h
  have hl : t.size = u.length + s.length := by
    rw [← List.length_append, hu]; rfl
  unfold restB
  rw [← hu, hl, Nat.add_sub_cancel, List.drop_left]
theorem rest_is_suffix (t : ByteArray) (p : Nat) : restB t p <:+ t.data.toList := List.drop_suffix _ _
theorem place_of {t : ByteArray} {p : Nat} (hp : p ≤ t.size) : t.size - (restB t p).length = p := by rw [rest_len]; omega
theorem end_suffix (l : List UInt8) : (endR l).1 <:+ l := by
  unfold endR
  split
  · exact List.nil_suffix
  · split
    · exact List.drop_suffix _ _
    · split
      · exact List.drop_suffix _ _
      · exact List.suffix_refl _
theorem rest_head {t : ByteArray} {p : Nat} (h : p < t.size) : (restB t p).head? = some (t[p]'h) := by
  unfold restB
  rw [List.head?_drop]
  exact Lib.data_getElem? t p h

set_option maxHeartbeats 8000000 in
set_option maxRecDepth 100000 in
theorem end_any (t : ByteArray) (p rb : Nat) (w : World) (hr : ReadAt w rb t p) (hk : p ≤ t.size) (ht : t.size ≤ 65536) :
    Calls Tryd.prog 29 #[.pointer (some ⟨rb, 0, none⟩)] w fun e w' => e = .returned (.int .i64 (endR (restB t p)).2) ∧ ReadTo rb w w' (t.size - (endR (restB t p)).1.length) := by
  have c0 := hr.c0
  have c1 := hr.c1
  have hl := rest_len t p
  have HR := Lib.hid hr
  have b0 : (0 : Int) ≤ (p : Int) := by omega
  have b1 : (p : Int) ≤ (t.size : Int) := by omega
  clear hr
  by_cases he : p = t.size
  · have h0 : restB t p = [] := List.eq_nil_of_length_eq_zero (by omega)
    have HE := Lib.hid (show endR (restB t p) = ([], 0) by rw [h0]; rfl)
    have hq : ((p : Int) == (t.size : Int)) = true := by rw [beq_iff_eq]; omega
    clear h0 hl
    go_enter Tryd.func29, Tryd.ntmps29
    go_wp2_with fail
    go_region_held3 (fun w' => w'.cell? ⟨rb, 0, none⟩ = some (.string t) ∧ w'.cell? ⟨rb, 1, none⟩ = some (.int .i64 p)) (go_keep) (fail)
    all_goals
      go_wp2_with fail
      go_ret
      refine ⟨by first | (rw [HE.out]; rfl) | rw [HE.out], ?_⟩
      rw [HE.out]
      have h := (ReadTo.stay HR.out).below (Below.refl _ w).drew
      rw [he] at h
      exact h
  · have hne : restB t p ≠ [] := by
      intro h
      rw [h] at hl
      simp at hl
      omega
    have hq : ((p : Int) == (t.size : Int)) = false := beq_eq_false_iff_ne.2 (by omega)
    cases h10 : Lib.hasPrefix (restB t p) [10]
    · cases h13 : Lib.hasPrefix (restB t p) [13, 10]
      · have hpt : p < t.size := by omega
        have hx := rest_head hpt
        obtain ⟨x, hx2⟩ : ∃ x : UInt8, x = t[p]'hpt := ⟨_, rfl⟩
        rw [← hx2] at hx
        have HE := Lib.hid (show endR (restB t p) = (restB t p, if x = 13 then 41 else 40) by
          unfold endR
          rw [if_neg hne, if_neg (by rw [h10]; simp), if_neg (by rw [h13]; simp), hx]
          simp)
        have HP := Lib.hid (place_of hk)
        have H10 := Lib.hid h10
        have H13 := Lib.hid h13
        have hpt2 : (p : Int) < (t.size : Int) := by omega
        have hx3 : t[p]'hpt = x := hx2.symm
        clear h10 h13 hne hx hx2 hl
        by_cases hxx : x = 13
        all_goals
          first
          | (have HE2 := Lib.hid (HE.out.trans (by rw [if_pos hxx]))
             have hxz : ((x.toNat : Int) == 13) = true := by rw [hxx]; rfl)
          | (have HE2 := Lib.hid (HE.out.trans (by rw [if_neg hxx]))
             have hxz : ((x.toNat : Int) == 13) = false := beq_eq_false_iff_ne.2 (by
               intro h
               apply hxx
               apply UInt8.toNat_inj.1
               simp
               omega))
          clear hxx
          go_enter Tryd.func29, Tryd.ntmps29
          go_wp2_with fail
          go_region_held3 (fun w' => w'.cell? ⟨rb, 0, none⟩ = some (.string t) ∧ w'.cell? ⟨rb, 1, none⟩ = some (.int .i64 p)) (go_keep) (fail)
          go_wp2_with fail
          (refine (pass_no t ⟨#[10]⟩ p rb _ (HR.out.below (Below.refl _ w).drew) hk H10.out).mono ?_); rintro e w2 ⟨rfl, hb2⟩
          have HB2 := Lib.hid (show Below w.heap.size w w2 from (Below.refl _ w).drew.trans hb2)
          clear hb2
          go_wp2_with fail
          (refine (pass_no t ⟨#[13, 10]⟩ p rb _ (HR.out.below HB2.out) hk H13.out).mono ?_); rintro e w3 ⟨rfl, hb3⟩
          have HB3 := Lib.hid (HB2.out.trans (hb3.mono HB2.out.size))
          have r0 := (HR.out.below HB3.out).c0
          have r1 := (HR.out.below HB3.out).c1
          clear hb3
          go_wp2_with fail
          go_region_held3 (fun w' => w'.cell? ⟨rb, 0, none⟩ = some (.string t) ∧ w'.cell? ⟨rb, 1, none⟩ = some (.int .i64 p)) (go_keep) (fail)
          go_wp2_with fail
          go_ret
          refine ⟨by first | (rw [HE2.out]; rfl) | rw [HE2.out], ?_⟩
          rw [HE2.out]
          simp only
          rw [HP.out]
          exact (ReadTo.stay HR.out).below (HB3.out.drew)
      · have HE := Lib.hid (show endR (restB t p) = ((restB t p).drop 2, 0) by
          unfold endR
          rw [if_neg hne, if_neg (by rw [h10]; simp), if_pos h13])
        have HQ := Lib.hid (show t.size - ((restB t p).drop 2).length = p + (⟨#[13, 10]⟩ : ByteArray).size by
          rw [List.length_drop, hl]
          have : 2 ≤ (restB t p).length := (List.isPrefixOf_iff_prefix.1 h13).length_le
          rw [hl] at this
          show t.size - (t.size - p - 2) = p + 2
          omega)
        have H10 := Lib.hid h10
        have H13 := Lib.hid h13
        clear h10 h13 hne hl
        go_enter Tryd.func29, Tryd.ntmps29
        go_wp2_with fail
        go_region_held3 (fun w' => w'.cell? ⟨rb, 0, none⟩ = some (.string t) ∧ w'.cell? ⟨rb, 1, none⟩ = some (.int .i64 p)) (go_keep) (fail)
        all_goals
          go_wp2_with fail
          (refine (pass_no t ⟨#[10]⟩ p rb _ (HR.out.below (Below.refl _ w).drew) hk H10.out).mono ?_); rintro e w2 ⟨rfl, hb2⟩
          have HB2 := Lib.hid (show Below w.heap.size w w2 from (Below.refl _ w).drew.trans hb2)
          clear hb2
          go_wp2_with fail
          (refine (pass_yes t ⟨#[13, 10]⟩ p rb _ (HR.out.below HB2.out) hk ht (by decide) H13.out).mono ?_); rintro e w3 ⟨rfl, hto3⟩
          have HT3 := Lib.hid (ReadTo.pre HB2.out hto3)
          clear hto3
          go_wp2_with fail
          go_ret
          refine ⟨by first | (rw [HE.out]; rfl) | rw [HE.out], ?_⟩
          rw [HE.out]
          simp only
          rw [HQ.out]
          exact HT3.out
    · have HE := Lib.hid (show endR (restB t p) = ((restB t p).drop 1, 0) by
        unfold endR
        rw [if_neg hne, if_pos h10])
      have HQ := Lib.hid (show t.size - ((restB t p).drop 1).length = p + (⟨#[10]⟩ : ByteArray).size by
        rw [List.length_drop, hl]
        have : 1 ≤ (restB t p).length := (List.isPrefixOf_iff_prefix.1 h10).length_le
        rw [hl] at this
        show t.size - (t.size - p - 1) = p + 1
        omega)
      have H10 := Lib.hid h10
      clear h10 hne hl
      go_enter Tryd.func29, Tryd.ntmps29
      go_wp2_with fail
      go_region_held3 (fun w' => w'.cell? ⟨rb, 0, none⟩ = some (.string t) ∧ w'.cell? ⟨rb, 1, none⟩ = some (.int .i64 p)) (go_keep) (fail)
      all_goals
        go_wp2_with fail
        (refine (pass_yes t ⟨#[10]⟩ p rb _ (HR.out.below (Below.refl _ w).drew) hk ht (by decide) H10.out).mono ?_); rintro e w3 ⟨rfl, hto3⟩
        have HT3 := Lib.hid (ReadTo.pre (Below.refl _ w).drew hto3)
        clear hto3
        go_wp2_with fail
        go_ret
        refine ⟨by first | (rw [HE.out]; rfl) | rw [HE.out], ?_⟩
        rw [HE.out]
        simp only
        rw [HQ.out]
        exact HT3.out
end Go.Proofs.YtdkddnlolnbpgaaDoor
