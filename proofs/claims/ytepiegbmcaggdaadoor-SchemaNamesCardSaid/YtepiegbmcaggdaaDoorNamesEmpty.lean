/- The walk of the law on names at the empty text. -/
import Derived.Test.YtepiegbmcaggdaaDoorNamesWalk
namespace Go.Proofs.YtepiegbmcaggdaaDoor
open Go Go.RowKit Go.Maps

set_option maxRecDepth 100000 in
set_option maxHeartbeats 4000000 in
theorem names_empty (w : World) (hr : ResAt w) (hk : KindAt w) :
    Calls Tryd.prog 5 #[.string ⟨#[]⟩] w fun e w' => e = .returned (.bool true) ∧ Below w.heap.size w w' := by
  have HR := Lib.hid hr
  have HK := Lib.hid hk
  clear hr hk
  go_enter Tryd.func5, Tryd.ntmps5
  go_wp2_with fail
  refine wp_loop_rounds 1 ?_
  rw [rounds_succ]
  go_wp2_with fail
  have hlit : w.alloc (Obj.cells #[Value.string { data := #[80, 65, 84, 84, 69, 82, 78] }, Value.string { data := #[83, 69, 81] }, Value.string { data := #[80, 65, 82, 84, 73, 84, 73, 79, 78] }, Value.string { data := #[66, 89] }, Value.string { data := #[87, 72, 69, 82, 69] }, Value.string { data := #[87, 73, 84, 72, 73, 78] }, Value.string { data := #[82, 69, 84, 85, 82, 78] }, Value.string { data := #[65, 78, 68] }, Value.string { data := #[79, 82] }, Value.string { data := #[78, 79, 84] }, Value.string { data := #[84, 82, 85, 69] }, Value.string { data := #[70, 65, 76, 83, 69] }, Value.string { data := #[84, 89, 80, 69] }, Value.string { data := #[73, 78, 84] }, Value.string { data := #[83, 84, 82] }, Value.string { data := #[66, 79, 79, 76] }] 52) = w.alloc (Obj.cells resCells 52) := rfl
  rw [hlit]
  clear hlit
  obtain ⟨W1, hW1⟩ : ∃ W1, W1 = w.alloc (Obj.cells resCells 52) := ⟨_, rfl⟩
  rw [← hW1]
  have HC1 := Lib.hid (fun k hk => hW1 ▸ lres_cells w 52 k hk)
  have HB1 := Lib.hid (show Below w.heap.size w W1 by rw [hW1]; exact (Below.refl _ _).alloc (Nat.le_refl _) _)
  have hs1 : w.heap.size < W1.heap.size := by rw [hW1]; simp
  clear hW1
  go_loop [3, 9] (fun v i => ∃ k : Nat, k ≤ 16 ∧ i = .int .i64 k ∧ v = .bool false) (fun _ i => 16 - (intOf i).toNat)
  case atStart => exact ⟨0, Nat.zero_le _, rfl, rfl⟩
  case round =>
    obtain ⟨k, hk, rfl, rfl⟩ := hrel
    by_cases hlt : k < 16
    · have hcell := HC1.out k hlt
      cases heq : ((resWord k).toList == [])
      all_goals
        go_wp2_with fail
        go_round
        case rel => exact ⟨k + 1, by omega, by go_num, rfl⟩
        case measure => simp [intOf]; omega
    · obtain rfl : k = 16 := by omega
      have hx : nameB ⟨#[120]⟩ = true := by decide +kernel
      have hI : nameB ⟨#[73, 78, 84]⟩ = false := by decide +kernel
      have HX := Lib.hid hx
      have HI := Lib.hid hI
      clear hx hI
      have hn : nameB ⟨#[]⟩ = false := by decide +kernel
      have hf1 : faultB ⟨#[]⟩ [] = 20 := by simp [faultB, hn]
      have hf2 := fault_bad ⟨#[]⟩ (by simp [attrNameB, hn])
      have HNB := Lib.hid hn
      have HF1 := Lib.hid hf1
      have HF2 := Lib.hid hf2
      clear hn hf1 hf2
      go_wp2_with fail
      refine (new_any _).mono ?_
      rintro e w2 ⟨rfl, hcat2, hb2⟩
      have HR2 := Lib.hid ((HR.out.below2 HB1.out (Nat.le_refl _)).below hb2)
      have HK2 := Lib.hid ((HK.out.below HB1.out (Nat.le_refl _)).below hb2 (Nat.le_refl _))
      have HC2 := Lib.hid hcat2
      have HB2 := Lib.hid (HB1.out.trans (hb2.mono (Nat.le_of_lt hs1)))
      have hz2 := hb2.size
      clear hcat2 hb2
      go_wp2_with fail
      refine (name_any _ _ HR2.out).mono ?_
      rintro e w3 ⟨rfl, hb3⟩
      rw [HX.out]
      have HR3 := Lib.hid (HR2.out.below hb3)
      have HK3 := Lib.hid (HK2.out.below hb3 (Nat.le_refl _))
      have HC3 := Lib.hid (HC2.out.below hb3)
      have HB3 := Lib.hid (HB2.out.trans (hb3.mono (by omega)))
      have hz3 := hb3.size
      clear hb3
      go_wp2_with fail
      refine (name_any _ _ HR3.out).mono ?_
      rintro e w4 ⟨rfl, hb4⟩
      rw [HI.out]
      have HR4 := Lib.hid (HR3.out.below hb4)
      have HK4 := Lib.hid (HK3.out.below hb4 (Nat.le_refl _))
      have HC4 := Lib.hid (HC3.out.below hb4)
      have HB4 := Lib.hid (HB3.out.trans (hb4.mono (by omega)))
      have hz4 := hb4.size
      clear hb4
      go_wp2_with fail
      have hd1 := declare_fault ⟨#[]⟩ [] none 0 (W1.heap.size + 1) w4 HR4.out HK4.out (Nat.le_refl _) (Or.inl rfl) (by rw [HF1.out]; decide)
      rw [HF1.out] at hd1
      refine hd1.mono ?_
      clear hd1
      rintro e w5 ⟨rfl, hb5⟩
      have HR5 := Lib.hid (HR4.out.below hb5)
      have HK5 := Lib.hid (HK4.out.below hb5 (Nat.le_refl _))
      have HC5 := Lib.hid (HC4.out.below hb5)
      have HB5 := Lib.hid (HB4.out.trans (hb5.mono (by omega)))
      have hz5 := hb5.size
      clear hb5
      go_wp2_with fail
      have hd2 := declare_fault ⟨#[79, 116, 104, 101, 114]⟩ [(⟨#[]⟩, 1)] (some ⟨w5.heap.size, 0, none⟩) 1 (W1.heap.size + 1) (w5.alloc (Obj.cells #[Value.string ⟨#[]⟩, Value.int IntKind.i64 1] 38)) (HR5.out.alloc _) (HK5.out.alloc _) (Nat.le_refl _) (attr_at w5 ⟨#[]⟩) (by rw [HF2.out]; decide)
      rw [HF2.out] at hd2
      refine hd2.mono ?_
      clear hd2
      rintro e w6 ⟨rfl, hb6⟩
      have HR6 := Lib.hid ((HR5.out.alloc _).below hb6)
      have HC6 := Lib.hid ((HC5.out.below ((Below.refl _ _).alloc (Nat.le_refl _) _)).below hb6)
      have HB6 := Lib.hid (below_step HB5.out (by omega) hb6)
      have hz6 := hb6.size
      simp only [World.size_alloc] at hz6
      clear hb6
      go_wp2_with fail
      refine (name_any _ _ HR6.out).mono ?_
      rintro e w7 ⟨rfl, hb7⟩
      rw [HNB.out]
      have HC7 := Lib.hid (HC6.out.below hb7)
      have HB7 := Lib.hid (HB6.out.trans (hb7.mono (by omega)))
      have hz7 := hb7.size
      clear hb7
      go_wp2_with fail
      refine (list_empty _ _ _ _ HC7.out).mono ?_
      rintro e w8 ⟨⟨la, lc, rfl⟩, hb8⟩
      go_wp2_with fail
      go_ret
      exact ⟨rfl, HB7.out.trans (hb8.mono (by omega))⟩
end Go.Proofs.YtepiegbmcaggdaaDoor
