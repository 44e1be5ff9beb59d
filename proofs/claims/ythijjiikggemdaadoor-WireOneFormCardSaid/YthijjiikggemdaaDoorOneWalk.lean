/- The walk of the law of one form. -/
import Derived.Test.YthijjiikggemdaaDoorOneForm
namespace Go.Proofs.YthijjiikggemdaaDoor
open Go Go.RowKit

set_option maxHeartbeats 8000000 in
set_option maxRecDepth 100000 in
theorem oneForm_any (e : Ev) (n : Int) (bh raw : List UInt8) (va bo ro : Option Addr) (vc bc rc : Nat) (w : World) (hres : ResAt w) (hva : ValsIn w.heap.size w va e.vals) (hm : ∀ a ∈ e.vals, a.str.size ≤ maxLen) (hvl : e.vals.length ≤ maxLen) (hvi : ∀ a ∈ e.vals, -9223372036854775808 ≤ a.int ∧ a.int ≤ 9223372036854775807)
    (h1 : -9223372036854775808 ≤ n) (h2 : n ≤ 9223372036854775807) (hbh : BytesArg w bo bc bh) (hbl : bh.length ≤ 150000000000000) (hraw : BytesAt w ro raw) (hrc : raw.length ≤ rc) (hrm : rc ≤ maxLen) :
    Calls Tryd.prog 3 #[evV e va vc, .int .i64 n, .slice bo bh.length bc, .slice ro raw.length rc] w fun en w' => en = .returned (.bool true) ∧ Below w.heap.size w w' := by
  have HRES := Lib.hid hres
  have HBH := Lib.hid hbh
  have HV := Lib.hid hva
  have HM := Lib.hid hm
  have HVI := Lib.hid hvi
  obtain ⟨W1, hW1⟩ : ∃ W1, W1 = w.alloc (Obj.cells #[.string e.ty, .int .i64 e.time, .slice va e.vals.length vc] 24) := ⟨_, rfl⟩
  obtain ⟨T, hT⟩ : ∃ T, T = w.heap.size := ⟨_, rfl⟩
  have hb1 : Below w.heap.size w W1 := by rw [hW1]; exact (Below.refl _ _).alloc (Nat.le_refl _) _
  have HT1 := Lib.hid (show Cells3 W1 T (.string e.ty) (.int .i64 e.time) (.slice va e.vals.length vc) by rw [hW1, hT]; exact Cells3.made _ _ _ _ _)
  have HB1 := Lib.hid hb1
  have HRW := Lib.hid hraw
  have HW1 := Lib.hid hW1
  have HTE := Lib.hid hT
  obtain ⟨P, hP⟩ : ∃ P, P = putB n := ⟨_, rfl⟩
  have hpl := putB_le n h1 h2
  rw [← hP] at hpl
  have HIF := Lib.hid (intB_form n bh h1 h2)
  rw [← hP] at HIF
  have HPE := Lib.hid hP
  have q0 : (n != n) = false := by simp
  have q1 : ((P.length : Int) != (P.length : Int)) = false := by simp
  simp only [evV]
  clear hres hbh hva hm hvi hb1 hraw hW1 hT hP
  go_enter Tryd.func3, Tryd.ntmps3
  go_upto_region 1 with fail
  rw [← HW1.out]
  go_wp2_with fail
  refine (begun_any W1 (HRES.out.below HB1.out)).mono ?_; rintro en w2 ⟨rfl, hb2⟩
  have HB2 := Lib.hid (HB1.out.trans (hb2.mono HB1.out.size))
  have HT2 := Lib.hid (HT1.out.below hb2)
  clear hb2
  go_wp2_with fail
  refine (front_any raw ro rc w2 (HRES.out.below HB2.out) (HRW.out.below HB2.out) hrc hrm).mono ?_; rintro en w3 ⟨rfl, hb3⟩
  have HB3 := Lib.hid (HB2.out.trans (hb3.mono HB2.out.size))
  have HT3 := Lib.hid (HT2.out.below hb3)
  clear hb3
  go_wp2_with fail
  refine (number_law raw ro rc w3 (HRW.out.below HB3.out) hrc hrm).mono ?_; rintro en w4 ⟨rfl, hb4⟩
  have HB4 := Lib.hid (HB3.out.trans (hb4.mono HB3.out.size))
  have HT4 := Lib.hid (HT3.out.below hb4)
  clear hb4
  go_wp2_with fail
  refine (putInt_any n w4 h1 h2).mono ?_; rintro en w5 ⟨v5, rfl, hx5⟩
  rw [← HPE.out] at hx5
  obtain ⟨a5, c5, rfl, hg5, hy5, hc5, hm5⟩ := owned_arg hx5.own
  have HG5 := Lib.hid hg5
  have HY5 := Lib.hid hy5
  have HB5 := Lib.hid (HB4.out.trans (hx5.fresh.mono HB4.out.size))
  have HT5 := Lib.hid (HT4.out.below hx5.fresh)
  clear hx5 hg5 hy5
  go_upto_region 5 with fail
  go_wp2_with (first
    | (at_builtin; refine wpList_append_arg8 (by rfl) _ _ (by rfl) w5.heap.size (.slice none 0 0) [] (by rfl) (owns_nil _ _) a5 c5 P (by rfl) HG5.out (by simp; omega) (Nat.le_refl _) ?_; intro v6 w6 ho6 hg6; have HO6 := Lib.hid (Both.a ho6 hg6); have HBH6 := Lib.hid (HBH.out.below (HB5.out.trans (HO6.out.below.mono HB5.out.size))); have hz6 := HO6.out.below.size; clear ho6 hg6)
    | (at_builtin; go_must (refine wpList_append_arg8 (by rfl) _ _ (by rfl) w5.heap.size v6 P (by rfl) HO6.out.own bo bc bh (by rfl) HBH6.out (by omega) hz6 ?_; intro v7 w7 ho7 hg7; have HO7 := Lib.hid (Both.b HO6.out ho7 hg7); clear ho7 hg7)))
  obtain ⟨a7, c7, rfl, hg7, hy7, hc7, hm7⟩ := owned_arg HO7.out.own
  have hi7 := int_any (P ++ bh) a7 c7 w7 hy7 (by rw [List.length_append]; unfold maxLen; omega)
  rw [HIF.out] at hi7
  simp only at hi7
  have HI7 := Lib.hid hi7
  have HB7 := Lib.hid (HB5.out.trans (HO7.out.below.mono HB5.out.size))
  have HT7 := Lib.hid (HT5.out.below HO7.out.below)
  have HY7 := Lib.hid (HY5.out.below HO7.out.below)
  clear hi7 hg7 hy7 hc7 hm7
  refine HI7.out.mono ?_; rintro en w8 ⟨rfl, rfl⟩
  go_wp2_with fail
  refine (number_law P a5 c5 w7 HY7.out hc5 hm5).mono ?_; rintro en w8 ⟨rfl, hb8⟩
  have HB8 := Lib.hid (HB7.out.trans (hb8.mono HB7.out.size))
  have HT8 := Lib.hid (HT7.out.below hb8)
  clear hb8
  go_upto_region 8 with fail
  rw [← HTE.out]
  have t0 := HT8.out.c0
  have t1 := HT8.out.c1
  have t2 := HT8.out.c2
  have HV8 := Lib.hid (HV.out.below HB8.out (Nat.le_refl _))
  go_wp2_with fail
  clear t0 t1 t2
  by_cases hf : evFault e = 0
  · have hok := (evFault_ok e HVI.out).1 hf
    have hel := evE_le e hok
    have HOK := Lib.hid hok
    have HEC := Lib.hid (encode_ok e va vc w8 (HRES.out.below HB8.out) (HV8.out.mono HB8.out.size) HM.out hok hf)
    obtain ⟨E, hE⟩ : ∃ E, E = evE e := ⟨_, rfl⟩
    rw [← hE] at HEC hel
    have HEE := Lib.hid hE
    clear hok hE hf
    have q3 : ((E.length : Int) == (E.length : Int)) = true := by simp
    have HEC2 := HEC.out
    simp only [evV] at HEC2
    refine HEC2.mono ?_; rintro en w9 ⟨v9, rfl, ho9, hb9⟩
    clear HEC2
    obtain ⟨a9, c9, rfl, hg9, hy9, hc9, hm9⟩ := owned_arg ho9
    have HG9 := Lib.hid hg9
    have HY9 := Lib.hid hy9
    have HB9 := Lib.hid (HB8.out.trans (hb9.mono HB8.out.size))
    have HT9 := Lib.hid (HT8.out.below hb9)
    clear ho9 hb9 hg9 hy9
    go_upto_region 11 with fail
    go_wp2_with (first
      | (at_builtin; refine wpList_append_arg8 (by rfl) _ _ (by rfl) w9.heap.size (.slice none 0 0) [] (by rfl) (owns_nil _ _) a9 c9 E (by rfl) HG9.out (by simp; omega) (Nat.le_refl _) ?_; intro v10 w10 ho10 hg10; have HO10 := Lib.hid (Both.a ho10 hg10); have HBH10 := Lib.hid (HBH.out.below (HB9.out.trans (HO10.out.below.mono HB9.out.size))); have hz10 := HO10.out.below.size; clear ho10 hg10)
      | (at_builtin; go_must (refine wpList_append_arg8 (by rfl) _ _ (by rfl) w9.heap.size v10 E (by rfl) HO10.out.own bo bc bh (by rfl) HBH10.out (by omega) hz10 ?_; intro v11 w11 ho11 hg11; have HO11 := Lib.hid (Both.b HO10.out ho11 hg11); clear ho11 hg11)))
    obtain ⟨a11, c11, rfl, hg11, hy11, hc11, hm11⟩ := owned_arg HO11.out.own
    have HB11 := Lib.hid (HB9.out.trans (HO11.out.below.mono HB9.out.size))
    have HT11 := Lib.hid (HT9.out.below HO11.out.below)
    have HY11 := Lib.hid (HY9.out.below HO11.out.below)
    have hd := decode_form e bh a11 c11 w11 (HRES.out.below HB11.out) (by rw [← HEE.out]; exact hy11) (by rw [← HEE.out]; exact hc11) hm11 HOK.out
    rw [← HEE.out] at hd
    refine hd.mono ?_; rintro en w12 ⟨⟨g, c, rfl, ho⟩, hb12⟩
    clear hd hg11 hy11 hc11 hm11
    simp only [evV]
    obtain ⟨W2, hW2⟩ : ∃ W2, W2 = w12.alloc (Obj.cells #[.string e.ty, .int .i64 e.time, .slice (some ⟨g, 0, none⟩) e.vals.length c] 24) := ⟨_, rfl⟩
    obtain ⟨U, hU⟩ : ∃ U, U = w12.heap.size := ⟨_, rfl⟩
    have hb13 : Below w12.heap.size w12 W2 := by rw [hW2]; exact (Below.refl _ _).alloc (Nat.le_refl _) _
    have HU2 := Lib.hid (show Cells3 W2 U (.string e.ty) (.int .i64 e.time) (.slice (some ⟨g, 0, none⟩) e.vals.length c) by rw [hW2, hU]; exact Cells3.made _ _ _ _ _)
    have HDV := Lib.hid (((owned_vals ho).below hb13 (Nat.le_refl _)).mono hb13.size)
    have HB12 := Lib.hid (HB11.out.trans (hb12.mono HB11.out.size))
    have HB13 := Lib.hid (HB12.out.trans (hb13.mono HB12.out.size))
    have HT13 := Lib.hid ((HT11.out.below hb12).below hb13)
    have HY13 := Lib.hid ((HY11.out.below hb12).below hb13)
    have HEV := Lib.hid (HV.out.below HB13.out (Nat.le_refl _))
    have HW2 := Lib.hid hW2
    have HUE := Lib.hid hU
    clear ho hb12 hb13 hW2 hU
    go_upto_region 12 with fail
    rw [← HW2.out, ← HUE.out]
    have t0 := HT13.out.c0
    have t1 := HT13.out.c1
    have t2 := HT13.out.c2
    have u0 := HU2.out.c0
    have u1 := HU2.out.c1
    have u2 := HU2.out.c2
    go_wp2_with fail
    clear t0 t1 t2 u0 u1 u2
    have HES := events_same W2.heap.size w.heap.size e (some ⟨g, 0, none⟩) va c vc W2 hvl (Nat.le_refl _) HB13.out.size HDV.out HEV.out
    simp only [evV] at HES
    refine HES.mono ?_; rintro en w14 ⟨rfl, hb14⟩
    have HB14 := Lib.hid (HB13.out.trans (hb14.mono HB13.out.size))
    have HY14 := Lib.hid (HY13.out.below hb14)
    clear HES hb14
    go_wp2_with fail
    refine (front_any E a9 c9 w14 (HRES.out.below HB14.out) HY14.out hc9 hm9).mono ?_; rintro en w15 ⟨rfl, hb15⟩
    go_wp2_with fail
    go_ret
    exact ⟨rfl, HB14.out.trans (hb15.mono HB14.out.size)⟩
  · have hf2 : (evFault e == 0) = false := by simpa using hf
    have HEC := encode_no e va vc w8 (HRES.out.below HB8.out) (HV8.out.mono HB8.out.size) HM.out hf2
    obtain ⟨f, hfe⟩ : ∃ f, f = evFault e := ⟨_, rfl⟩
    rw [← hfe] at hf hf2 HEC
    have hf3 : (f != 0) = true := by simpa [bne] using hf
    simp only [evV] at HEC
    refine HEC.mono ?_; rintro en w9 ⟨rfl, hb9⟩
    go_wp2_with fail
    go_ret
    exact ⟨rfl, HB8.out.trans (hb9.mono HB8.out.size)⟩
end Go.Proofs.YthijjiikggemdaaDoor
