/- The walk of the law on names. -/
import Derived.Test.YtepiegbmcaggdaaDoorCat2
import Derived.Test.YtepiegbmcaggdaaDoorNamesSpec
namespace Go.Proofs.YtepiegbmcaggdaaDoor
open Go Go.RowKit Go.Maps

theorem okUpto_succ (s : ByteArray) (k : Nat) (h : k < s.size) : okUpto s (k + 1) = (okUpto s k && okByte (s[k]'h).toNat k) := by
  rw [okUpto, dif_pos h]

/-- What the law's tests say of a byte. -/
def Cls (c : Int) (b1 b2 b3 b4 b5 b6 b7 : Bool) : Prop := decide (48 ≤ c) = b1 ∧ decide (c ≤ 57) = b2 ∧ decide (97 ≤ c) = b3 ∧ decide (c ≤ 122) = b4 ∧ decide (65 ≤ c) = b5 ∧ decide (c ≤ 90) = b6 ∧ (c == 95) = b7
/-- The classes of bytes. -/
theorem classes (c : Int) : Cls c false true false true false true false ∨ Cls c true true false true false true false ∨ Cls c true false false true false true false ∨ Cls c true false false true true true false ∨ Cls c true false false true true false false ∨ Cls c true false false true true false true ∨ Cls c true false false true true false false ∨ Cls c true false true true true false false ∨ Cls c true false true false true false false := by
  rcases (by omega : (c < 48) ∨ (48 ≤ c ∧ c ≤ 57) ∨ (57 < c ∧ c < 65) ∨ (65 ≤ c ∧ c ≤ 90) ∨ (90 < c ∧ c < 95) ∨ (c = 95) ∨ (95 < c ∧ c < 97) ∨ (97 ≤ c ∧ c ≤ 122) ∨ (122 < c)) with h | h | h | h | h | h | h | h | h
  · exact Or.inl ⟨decide_eq_false (by omega), decide_eq_true (by omega), decide_eq_false (by omega), decide_eq_true (by omega), decide_eq_false (by omega), decide_eq_true (by omega), beq_eq_false_iff_ne.2 (by omega)⟩
  · exact Or.inr (Or.inl ⟨decide_eq_true (by omega), decide_eq_true (by omega), decide_eq_false (by omega), decide_eq_true (by omega), decide_eq_false (by omega), decide_eq_true (by omega), beq_eq_false_iff_ne.2 (by omega)⟩)
  · exact Or.inr (Or.inr (Or.inl ⟨decide_eq_true (by omega), decide_eq_false (by omega), decide_eq_false (by omega), decide_eq_true (by omega), decide_eq_false (by omega), decide_eq_true (by omega), beq_eq_false_iff_ne.2 (by omega)⟩))
  · exact Or.inr (Or.inr (Or.inr (Or.inl ⟨decide_eq_true (by omega), decide_eq_false (by omega), decide_eq_false (by omega), decide_eq_true (by omega), decide_eq_true (by omega), decide_eq_true (by omega), beq_eq_false_iff_ne.2 (by omega)⟩)))
  · exact Or.inr (Or.inr (Or.inr (Or.inr (Or.inl ⟨decide_eq_true (by omega), decide_eq_false (by omega), decide_eq_false (by omega), decide_eq_true (by omega), decide_eq_true (by omega), decide_eq_false (by omega), beq_eq_false_iff_ne.2 (by omega)⟩))))
  · exact Or.inr (Or.inr (Or.inr (Or.inr (Or.inr (Or.inl ⟨decide_eq_true (by omega), decide_eq_false (by omega), decide_eq_false (by omega), decide_eq_true (by omega), decide_eq_true (by omega), decide_eq_false (by omega), beq_iff_eq.2 (by omega)⟩)))))
  · exact Or.inr (Or.inr (Or.inr (Or.inr (Or.inr (Or.inr (Or.inl ⟨decide_eq_true (by omega), decide_eq_false (by omega), decide_eq_false (by omega), decide_eq_true (by omega), decide_eq_true (by omega), decide_eq_false (by omega), beq_eq_false_iff_ne.2 (by omega)⟩))))))
  · exact Or.inr (Or.inr (Or.inr (Or.inr (Or.inr (Or.inr (Or.inr (Or.inl ⟨decide_eq_true (by omega), decide_eq_false (by omega), decide_eq_true (by omega), decide_eq_true (by omega), decide_eq_true (by omega), decide_eq_false (by omega), beq_eq_false_iff_ne.2 (by omega)⟩)))))))
  · exact Or.inr (Or.inr (Or.inr (Or.inr (Or.inr (Or.inr (Or.inr (Or.inr (⟨decide_eq_true (by omega), decide_eq_false (by omega), decide_eq_true (by omega), decide_eq_false (by omega), decide_eq_true (by omega), decide_eq_false (by omega), beq_eq_false_iff_ne.2 (by omega)⟩))))))))
theorem okByte_cls {c : Int} {k : Nat} {b1 b2 b3 b4 b5 b6 b7 : Bool} (h : Cls c b1 b2 b3 b4 b5 b6 b7) : okByte c k = ((b3 && b4 || b5 && b6 || b7) || (b1 && b2) && !decide (k = 0)) := by
  obtain ⟨h1, h2, h3, h4, h5, h6, h7⟩ := h
  simp only [okByte, lttrI, digI, h1, h2, h3, h4, h5, h6, h7]

theorem resCells_get : ∀ k, k < 16 → resCells[k]? = some (.string (resWord k))
  | 0, _ => by kernel_rfl | 1, _ => by kernel_rfl | 2, _ => by kernel_rfl | 3, _ => by kernel_rfl
  | 4, _ => by kernel_rfl | 5, _ => by kernel_rfl | 6, _ => by kernel_rfl | 7, _ => by kernel_rfl
  | 8, _ => by kernel_rfl | 9, _ => by kernel_rfl | 10, _ => by kernel_rfl | 11, _ => by kernel_rfl
  | 12, _ => by kernel_rfl | 13, _ => by kernel_rfl | 14, _ => by kernel_rfl | 15, _ => by kernel_rfl
  | n + 16, h => by omega
theorem lres_cells (w : World) (t : TypeId) (k : Nat) (hk : k < 16) : (w.alloc (.cells resCells t)).cell? ⟨w.heap.size, k, none⟩ = some (.string (resWord k)) := by
  have := heap_alloc_new w (.cells resCells t)
  simp only [World.cell?, this]
  simpa using resCells_get k hk
theorem ResAt.grown {w w' : World} (h : ResAt w) {m : Nat} (hg : w.grownBy w' (some m)) (hm : 0 < m) : ResAt w' := by
  have hl := h.lt
  obtain ⟨t, fr, h⟩ := h
  exact ⟨t, fr, (hg.block _ hl (by intro e; cases e; omega)).trans h⟩
theorem KindAt.grown {w w' : World} (h : KindAt w) {m : Nat} (hg : w.grownBy w' (some m)) (hm : 1 < m) : KindAt w' := by
  have hl := h.lt
  obtain ⟨t, fr, h⟩ := h
  exact ⟨t, fr, (hg.block _ hl (by intro e; cases e; omega)).trans h⟩

theorem nameB_size {s : ByteArray} (h : nameB s = true) : s.size ≤ 32 := by
  simp only [nameB, Bool.and_eq_true, decide_eq_true_eq] at h
  exact h.1.1.1
theorem other_name : nameB ⟨#[79, 116, 104, 101, 114]⟩ = true := by decide +kernel
theorem attr_at (w : World) (s : ByteArray) : AttrsAt (w.alloc (Obj.cells #[Value.string s, Value.int IntKind.i64 1] 38)) (some ⟨w.heap.size, 0, none⟩) [(s, 1)] :=
  Or.inr ⟨w.heap.size, 0, rfl, fun i hi => by
    obtain rfl : i = 0 := by simp at hi; exact hi
    simp⟩
theorem fault_one (s : ByteArray) (h : attrNameB s = true) : faultB ⟨#[79, 116, 104, 101, 114]⟩ [(s, 1)] = 0 := by
  simp [faultB, other_name, attrsFault, attrFault, h, hasB]
theorem key_ne {s : ByteArray} (h : (s.toList == [79, 116, 104, 101, 114]) = false) : keyL ⟨#[79, 116, 104, 101, 114]⟩ ≠ keyL s := by
  intro e
  rw [beq_eq_false_iff_ne, ByteArray.toList_eq] at h
  simp only [keyL, Lit.string.injEq] at e
  exact h e.symm
theorem key_eq {s : ByteArray} (h : (s.toList == [79, 116, 104, 101, 114]) = true) : keyL ⟨#[79, 116, 104, 101, 114]⟩ = keyL s := by
  rw [beq_iff_eq, ByteArray.toList_eq] at h
  simp only [keyL, h]
theorem other_attr {s : ByteArray} (h : (s.toList == [79, 116, 104, 101, 114]) = true) (hn : nameB s = true) : attrNameB s = true := by
  rw [beq_iff_eq, ByteArray.toList_eq] at h
  simp [attrNameB, hn, h]
theorem fault_bad (s : ByteArray) (h : attrNameB s = false) : faultB ⟨#[79, 116, 104, 101, 114]⟩ [(s, 1)] = 20 := by
  simp [faultB, other_name, attrsFault, attrFault, h]

set_option maxRecDepth 100000 in
set_option maxHeartbeats 4000000 in
theorem names_walk (s : ByteArray) (w : World) (hr : ResAt w) (hk : KindAt w) (hs : 1 ≤ s.size) (hm : s.size ≤ maxLen) :
    Calls Tryd.prog 5 #[.string s] w fun e w' => e = .returned (.bool true) ∧ Below w.heap.size w w' := by
  have HR := Lib.hid hr
  have HK := Lib.hid hk
  clear hr hk
  unfold maxLen at hm
  have h0 : decide ((s.size : Int) ≤ 32) = okUpto s 0 := by
    rw [Bool.eq_iff_iff]; simp [okUpto]; omega
  have H0 := Lib.hid h0
  clear h0
  go_enter Tryd.func5, Tryd.ntmps5
  go_wp2_with fail
  go_loop [3, 4] (fun v i => ∃ k : Nat, k ≤ s.size ∧ i = .int .i64 k ∧ v = .bool (okUpto s k)) (fun _ i => s.size - (intOf i).toNat)
  case atStart => exact ⟨0, Nat.zero_le _, rfl, by rw [← H0.out]⟩
  case round =>
    obtain ⟨k, hk, rfl, rfl⟩ := hrel
    by_cases hlt : k < s.size
    · have HS := Lib.hid (okUpto_succ s k hlt)
      have hb1 : (s[k]'hlt).toNat < 256 := (s[k]'hlt).toNat_lt
      rcases classes (s[k]'hlt).toNat with hc | hc | hc | hc | hc | hc | hc | hc | hc
      case inr.inl =>
        have HO := Lib.hid (okByte_cls (k := k) hc)
        obtain ⟨d1, d2, d3, d4, d5, d6, d7⟩ := hc
        by_cases hk0 : k = 0
        · have hk1 : ((k : Int) == 0) = true := by simp [hk0]
          have HK0 := Lib.hid hk0
          clear hk0
          go_wp2_with fail
          go_round
          case rel => exact ⟨k + 1, by omega, by go_num, by rw [HS.out, HO.out]; simp [HK0.out]⟩
          case measure => simp [intOf]; omega
        · have hk1 : ((k : Int) == 0) = false := by simp; omega
          have HK0 := Lib.hid hk0
          clear hk0
          go_wp2_with fail
          go_round
          case rel => exact ⟨k + 1, by omega, by go_num, by rw [HS.out, HO.out]; simp [HK0.out]⟩
          case measure => simp [intOf]; omega
      all_goals
        have HO := Lib.hid (okByte_cls (k := k) hc)
        obtain ⟨d1, d2, d3, d4, d5, d6, d7⟩ := hc
        go_wp2_with fail
        go_round
        case rel => exact ⟨k + 1, by omega, by go_num, by rw [HS.out, HO.out]; simp⟩
        case measure => simp [intOf]; omega
    · obtain rfl : k = s.size := by omega
      go_wp2_with fail
      have hlit : w.alloc (Obj.cells #[Value.string { data := #[80, 65, 84, 84, 69, 82, 78] }, Value.string { data := #[83, 69, 81] }, Value.string { data := #[80, 65, 82, 84, 73, 84, 73, 79, 78] }, Value.string { data := #[66, 89] }, Value.string { data := #[87, 72, 69, 82, 69] }, Value.string { data := #[87, 73, 84, 72, 73, 78] }, Value.string { data := #[82, 69, 84, 85, 82, 78] }, Value.string { data := #[65, 78, 68] }, Value.string { data := #[79, 82] }, Value.string { data := #[78, 79, 84] }, Value.string { data := #[84, 82, 85, 69] }, Value.string { data := #[70, 65, 76, 83, 69] }, Value.string { data := #[84, 89, 80, 69] }, Value.string { data := #[73, 78, 84] }, Value.string { data := #[83, 84, 82] }, Value.string { data := #[66, 79, 79, 76] }] 52) = w.alloc (Obj.cells resCells 52) := rfl
      rw [hlit]
      clear hlit
      obtain ⟨W1, hW1⟩ : ∃ W1, W1 = w.alloc (Obj.cells resCells 52) := ⟨_, rfl⟩
      rw [← hW1]
      have HC1 := Lib.hid (fun k hk => hW1 ▸ lres_cells w 52 k hk)
      have HW1 := Lib.hid hW1
      have HB1 := Lib.hid (show Below w.heap.size w W1 by rw [hW1]; exact (Below.refl _ _).alloc (Nat.le_refl _) _)
      have hs1 : w.heap.size < W1.heap.size := by rw [hW1]; simp
      clear hW1
      go_loop [3, 9] (fun v i => ∃ k : Nat, k ≤ 16 ∧ i = .int .i64 k ∧ v = .bool (okRes s k)) (fun _ i => 16 - (intOf i).toNat)
      case atStart => exact ⟨0, Nat.zero_le _, rfl, rfl⟩
      case round =>
        obtain ⟨k, hk, rfl, rfl⟩ := hrel
        by_cases hlt : k < 16
        · have hcell := HC1.out k hlt
          have HS := Lib.hid (show okRes s (k + 1) = (okRes s k && !((resWord k).toList == s.toList)) from rfl)
          cases heq : ((resWord k).toList == s.toList)
          all_goals
            go_wp2_with fail
            go_round
            case rel => exact ⟨k + 1, by omega, by go_num, by rw [HS.out, heq]; simp⟩
            case measure => simp [intOf]; omega
        · obtain rfl : k = 16 := by omega
          have HN := Lib.hid (okRes_name s)
          have hx : nameB ⟨#[120]⟩ = true := by decide +kernel
          have hI : nameB ⟨#[73, 78, 84]⟩ = false := by decide +kernel
          have HX := Lib.hid hx
          have HI := Lib.hid hI
          clear hx hI
          cases hnb : okRes s 16
          · have hn : nameB s = false := by rw [← HN.out]; exact hnb
            have hf1 : faultB s [] = 20 := by simp [faultB, hn]
            have hf2 := fault_bad s (by simp [attrNameB, hn])
            have HNB := Lib.hid hn
            have HF1 := Lib.hid hf1
            have HF2 := Lib.hid hf2
            clear hn hf1 hf2
            go_wp2_with fail
            refine (new_any _).mono ?_
            rintro e w2 ⟨rfl, hcat2, hb2⟩
            have HR2 := Lib.hid ((HR.out.below2 HB1.out (Nat.le_refl _)).below hb2)
            have HK2 := Lib.hid ((HK.out.below HB1.out (Nat.le_refl _)).below hb2 (Nat.le_refl _))
            have HC2 := Lib.hid hcat2
            have HB2 := Lib.hid (HB1.out.trans (hb2.mono (Nat.le_of_lt hs1)))
            have hz2 := hb2.size
            clear hcat2 hb2
            go_wp2_with fail
            refine (name_any _ _ HR2.out).mono ?_
            rintro e w3 ⟨rfl, hb3⟩
            rw [HX.out]
            have HR3 := Lib.hid (HR2.out.below hb3)
            have HK3 := Lib.hid (HK2.out.below hb3 (Nat.le_refl _))
            have HC3 := Lib.hid (HC2.out.below hb3)
            have HB3 := Lib.hid (HB2.out.trans (hb3.mono (by omega)))
            have hz3 := hb3.size
            clear hb3
            go_wp2_with fail
            refine (name_any _ _ HR3.out).mono ?_
            rintro e w4 ⟨rfl, hb4⟩
            rw [HI.out]
            have HR4 := Lib.hid (HR3.out.below hb4)
            have HK4 := Lib.hid (HK3.out.below hb4 (Nat.le_refl _))
            have HC4 := Lib.hid (HC3.out.below hb4)
            have HB4 := Lib.hid (HB3.out.trans (hb4.mono (by omega)))
            have hz4 := hb4.size
            clear hb4
            go_wp2_with fail
            have hd1 := declare_fault s [] none 0 (W1.heap.size + 1) w4 HR4.out HK4.out (Nat.le_refl _) (Or.inl rfl) (by rw [HF1.out]; decide)
            rw [HF1.out] at hd1
            refine hd1.mono ?_
            clear hd1
            rintro e w5 ⟨rfl, hb5⟩
            have HR5 := Lib.hid (HR4.out.below hb5)
            have HK5 := Lib.hid (HK4.out.below hb5 (Nat.le_refl _))
            have HC5 := Lib.hid (HC4.out.below hb5)
            have HB5 := Lib.hid (HB4.out.trans (hb5.mono (by omega)))
            have hz5 := hb5.size
            clear hb5
            go_wp2_with fail
            have hd2 := declare_fault ⟨#[79, 116, 104, 101, 114]⟩ [(s, 1)] (some ⟨w5.heap.size, 0, none⟩) 1 (W1.heap.size + 1) (w5.alloc (Obj.cells #[Value.string s, Value.int IntKind.i64 1] 38)) (HR5.out.alloc _) (HK5.out.alloc _) (Nat.le_refl _) (attr_at w5 s) (by rw [HF2.out]; decide)
            rw [HF2.out] at hd2
            refine hd2.mono ?_
            clear hd2
            rintro e w6 ⟨rfl, hb6⟩
            have HR6 := Lib.hid ((HR5.out.alloc _).below hb6)
            have HC6 := Lib.hid ((HC5.out.below ((Below.refl _ _).alloc (Nat.le_refl _) _)).below hb6)
            have HB6 := Lib.hid (below_step HB5.out (by omega) hb6)
            have hz6 := hb6.size
            simp only [World.size_alloc] at hz6
            clear hb6
            go_wp2_with fail
            refine (name_any _ _ HR6.out).mono ?_
            rintro e w7 ⟨rfl, hb7⟩
            rw [HNB.out]
            have HC7 := Lib.hid (HC6.out.below hb7)
            have HB7 := Lib.hid (HB6.out.trans (hb7.mono (by omega)))
            have hz7 := hb7.size
            clear hb7
            go_wp2_with fail
            refine (list_empty _ _ _ _ HC7.out).mono ?_
            rintro e w8 ⟨⟨la, lc, rfl⟩, hb8⟩
            go_wp2_with fail
            go_ret
            exact ⟨rfl, HB7.out.trans (hb8.mono (by omega))⟩
          · have hn : nameB s = true := by rw [← HN.out]; exact hnb
            have HNB := Lib.hid hn
            have HSZ := Lib.hid (nameB_size hn)
            have HF1 := Lib.hid (show faultB s [] = 0 by simp [faultB, hn, attrsFault])
            clear hn
            cases ho : (s.toList == [79, 116, 104, 101, 114])
            · cases ht : (s.toList == [116, 105, 109, 101])
              · have HF2 := Lib.hid (fault_one s (by simp only [attrNameB, HNB.out, ← ByteArray.toList_eq, ht]; rfl))
                have HO := Lib.hid ho
                go_wp2_with fail
                refine (new_any _).mono ?_
                rintro e w2 ⟨rfl, hcat2, hb2⟩
                have HR2 := Lib.hid ((HR.out.below2 HB1.out (Nat.le_refl _)).below hb2)
                have HK2 := Lib.hid ((HK.out.below HB1.out (Nat.le_refl _)).below hb2 (Nat.le_refl _))
                have HC2 := Lib.hid hcat2
                have HB2 := Lib.hid (HB1.out.trans (hb2.mono (Nat.le_of_lt hs1)))
                have hz2 := hb2.size
                clear hcat2 hb2
                go_wp2_with fail
                refine (name_any _ _ HR2.out).mono ?_
                rintro e w3 ⟨rfl, hb3⟩
                rw [HX.out]
                have HR3 := Lib.hid (HR2.out.below hb3)
                have HK3 := Lib.hid (HK2.out.below hb3 (Nat.le_refl _))
                have HC3 := Lib.hid (HC2.out.below hb3)
                have HB3 := Lib.hid (HB2.out.trans (hb3.mono (by omega)))
                have hz3 := hb3.size
                clear hb3
                go_wp2_with fail
                refine (name_any _ _ HR3.out).mono ?_
                rintro e w4 ⟨rfl, hb4⟩
                rw [HI.out]
                have HR4 := Lib.hid (HR3.out.below hb4)
                have HK4 := Lib.hid (HK3.out.below hb4 (Nat.le_refl _))
                have HC4 := Lib.hid (HC3.out.below hb4)
                have HB4 := Lib.hid (HB3.out.trans (hb4.mono (by omega)))
                have hz4 := hb4.size
                clear hb4
                go_wp2_with fail
                have hd1 := declare_ok s [] none 0 (W1.heap.size + 1) W1.heap.size 0 (.map []) w4 HR4.out HK4.out (Nat.le_refl _) (Or.inl rfl) HC4.out HSZ.out (by decide) (by simp) HF1.out rfl (by decide) (by decide)
                refine hd1.mono ?_
                clear hd1
                rintro e w5 ⟨rfl, hg5, g, cp, hcat5, _, _, _⟩
                have HR5 := Lib.hid (HR4.out.grown hg5 (by have := HR.out.lt; omega))
                have HK5 := Lib.hid (HK4.out.grown hg5 (by have := HK.out.lt; omega))
                have HC5 := Lib.hid hcat5
                have HB5 := Lib.hid (HB4.out.grown hg5 (by omega) (fun k hk => by cases hk; omega))
                have hz5 := hg5.size
                clear hg5 hcat5
                go_wp2_with fail
                have hd2 := declare_ok ⟨#[79, 116, 104, 101, 114]⟩ [(s, 1)] (some ⟨w5.heap.size, 0, none⟩) 1 (W1.heap.size + 1) W1.heap.size 1 _ (w5.alloc (Obj.cells #[Value.string s, Value.int IntKind.i64 1] 38)) (HR5.out.alloc _) (HK5.out.alloc _) (Nat.le_refl _) (attr_at w5 s) (HC5.out.below ((Below.refl _ _).alloc (Nat.le_refl _) _)) (by decide) (by simp) (by intro a ha; simp at ha; subst ha; exact HSZ.out) HF2.out ((has_put_other (key_ne HO.out) _).trans rfl) (Nat.lt_of_le_of_lt HC5.out.owns.size_le (by decide)) (by decide)
                refine hd2.mono ?_
                clear hd2
                rintro e w6 ⟨rfl, hg6, _⟩
                have HR6 := Lib.hid ((HR5.out.alloc _).grown hg6 (by have := HR.out.lt; omega))
                have HB6 := Lib.hid ((HB5.out.alloc (by omega) _).grown hg6 (by simp; omega) (fun k hk => by cases hk; omega))
                have hz6 := hg6.size
                simp only [World.size_alloc] at hz6
                clear hg6
                go_wp2_with fail
                refine (name_any _ _ HR6.out).mono ?_
                rintro e w7 ⟨rfl, hb7⟩
                rw [HNB.out]
                go_wp2_with fail
                go_ret
                exact ⟨rfl, HB6.out.trans (hb7.mono (by omega))⟩
              · have HF2 := Lib.hid (fault_bad s (by simp only [attrNameB, HNB.out, ← ByteArray.toList_eq, ht]; rfl))
                go_wp2_with fail
                refine (new_any _).mono ?_
                rintro e w2 ⟨rfl, hcat2, hb2⟩
                have HR2 := Lib.hid ((HR.out.below2 HB1.out (Nat.le_refl _)).below hb2)
                have HK2 := Lib.hid ((HK.out.below HB1.out (Nat.le_refl _)).below hb2 (Nat.le_refl _))
                have HC2 := Lib.hid hcat2
                have HB2 := Lib.hid (HB1.out.trans (hb2.mono (Nat.le_of_lt hs1)))
                have hz2 := hb2.size
                clear hcat2 hb2
                go_wp2_with fail
                refine (name_any _ _ HR2.out).mono ?_
                rintro e w3 ⟨rfl, hb3⟩
                rw [HX.out]
                have HR3 := Lib.hid (HR2.out.below hb3)
                have HK3 := Lib.hid (HK2.out.below hb3 (Nat.le_refl _))
                have HC3 := Lib.hid (HC2.out.below hb3)
                have HB3 := Lib.hid (HB2.out.trans (hb3.mono (by omega)))
                have hz3 := hb3.size
                clear hb3
                go_wp2_with fail
                refine (name_any _ _ HR3.out).mono ?_
                rintro e w4 ⟨rfl, hb4⟩
                rw [HI.out]
                have HR4 := Lib.hid (HR3.out.below hb4)
                have HK4 := Lib.hid (HK3.out.below hb4 (Nat.le_refl _))
                have HC4 := Lib.hid (HC3.out.below hb4)
                have HB4 := Lib.hid (HB3.out.trans (hb4.mono (by omega)))
                have hz4 := hb4.size
                clear hb4
                go_wp2_with fail
                have hd1 := declare_ok s [] none 0 (W1.heap.size + 1) W1.heap.size 0 (.map []) w4 HR4.out HK4.out (Nat.le_refl _) (Or.inl rfl) HC4.out HSZ.out (by decide) (by simp) HF1.out rfl (by decide) (by decide)
                refine hd1.mono ?_
                clear hd1
                rintro e w5 ⟨rfl, hg5, g, cp, hcat5, _, _, _⟩
                have HR5 := Lib.hid (HR4.out.grown hg5 (by have := HR.out.lt; omega))
                have HK5 := Lib.hid (HK4.out.grown hg5 (by have := HK.out.lt; omega))
                have HC5 := Lib.hid hcat5
                have HB5 := Lib.hid (HB4.out.grown hg5 (by omega) (fun k hk => by cases hk; omega))
                have hz5 := hg5.size
                clear hg5 hcat5
                go_wp2_with fail
                have hd2 := declare_fault ⟨#[79, 116, 104, 101, 114]⟩ [(s, 1)] (some ⟨w5.heap.size, 0, none⟩) 1 (W1.heap.size + 1) (w5.alloc (Obj.cells #[Value.string s, Value.int IntKind.i64 1] 38)) (HR5.out.alloc _) (HK5.out.alloc _) (Nat.le_refl _) (attr_at w5 s) (by rw [HF2.out]; decide)
                rw [HF2.out] at hd2
                refine hd2.mono ?_
                clear hd2
                rintro e w6 ⟨rfl, hb6⟩
                have HR6 := Lib.hid ((HR5.out.alloc _).below hb6)
                have HB6 := Lib.hid (below_step HB5.out (by omega) hb6)
                have hz6 := hb6.size
                simp only [World.size_alloc] at hz6
                clear hb6
                go_wp2_with fail
                refine (name_any _ _ HR6.out).mono ?_
                rintro e w7 ⟨rfl, hb7⟩
                rw [HNB.out]
                go_wp2_with fail
                go_ret
                exact ⟨rfl, HB6.out.trans (hb7.mono (by omega))⟩
            · have HF2 := Lib.hid (fault_one s (other_attr ho HNB.out))
              have HO := Lib.hid ho
              go_wp2_with fail
              refine (new_any _).mono ?_
              rintro e w2 ⟨rfl, hcat2, hb2⟩
              have HR2 := Lib.hid ((HR.out.below2 HB1.out (Nat.le_refl _)).below hb2)
              have HK2 := Lib.hid ((HK.out.below HB1.out (Nat.le_refl _)).below hb2 (Nat.le_refl _))
              have HC2 := Lib.hid hcat2
              have HB2 := Lib.hid (HB1.out.trans (hb2.mono (Nat.le_of_lt hs1)))
              have hz2 := hb2.size
              clear hcat2 hb2
              go_wp2_with fail
              refine (name_any _ _ HR2.out).mono ?_
              rintro e w3 ⟨rfl, hb3⟩
              rw [HX.out]
              have HR3 := Lib.hid (HR2.out.below hb3)
              have HK3 := Lib.hid (HK2.out.below hb3 (Nat.le_refl _))
              have HC3 := Lib.hid (HC2.out.below hb3)
              have HB3 := Lib.hid (HB2.out.trans (hb3.mono (by omega)))
              have hz3 := hb3.size
              clear hb3
              go_wp2_with fail
              refine (name_any _ _ HR3.out).mono ?_
              rintro e w4 ⟨rfl, hb4⟩
              rw [HI.out]
              have HR4 := Lib.hid (HR3.out.below hb4)
              have HK4 := Lib.hid (HK3.out.below hb4 (Nat.le_refl _))
              have HC4 := Lib.hid (HC3.out.below hb4)
              have HB4 := Lib.hid (HB3.out.trans (hb4.mono (by omega)))
              have hz4 := hb4.size
              clear hb4
              go_wp2_with fail
              have hd1 := declare_ok s [] none 0 (W1.heap.size + 1) W1.heap.size 0 (.map []) w4 HR4.out HK4.out (Nat.le_refl _) (Or.inl rfl) HC4.out HSZ.out (by decide) (by simp) HF1.out rfl (by decide) (by decide)
              refine hd1.mono ?_
              clear hd1
              rintro e w5 ⟨rfl, hg5, g, cp, hcat5, _, _, _⟩
              have HR5 := Lib.hid (HR4.out.grown hg5 (by have := HR.out.lt; omega))
              have HK5 := Lib.hid (HK4.out.grown hg5 (by have := HK.out.lt; omega))
              have HC5 := Lib.hid hcat5
              have HB5 := Lib.hid (HB4.out.grown hg5 (by omega) (fun k hk => by cases hk; omega))
              have hz5 := hg5.size
              clear hg5 hcat5
              go_wp2_with fail
              have hd2 := declare_dup ⟨#[79, 116, 104, 101, 114]⟩ [(s, 1)] (some ⟨w5.heap.size, 0, none⟩) 1 (W1.heap.size + 1) W1.heap.size 1 _ (w5.alloc (Obj.cells #[Value.string s, Value.int IntKind.i64 1] 38)) (HR5.out.alloc _) (HK5.out.alloc _) (Nat.le_refl _) (attr_at w5 s) (HC5.out.below ((Below.refl _ _).alloc (Nat.le_refl _) _)) (by decide) HF2.out (by rw [key_eq HO.out]; exact has_put_same isMap_empty (keyL_ok _) _)
              refine hd2.mono ?_
              clear hd2
              rintro e w6 ⟨rfl, hb6⟩
              have HR6 := Lib.hid ((HR5.out.alloc _).below hb6)
              have HB6 := Lib.hid (below_step HB5.out (by omega) hb6)
              have hz6 := hb6.size
              simp only [World.size_alloc] at hz6
              clear hb6
              go_wp2_with fail
              refine (name_any _ _ HR6.out).mono ?_
              rintro e w7 ⟨rfl, hb7⟩
              rw [HNB.out]
              go_wp2_with fail
              go_ret
              exact ⟨rfl, HB6.out.trans (hb7.mono (by omega))⟩
end Go.Proofs.YtepiegbmcaggdaaDoor
