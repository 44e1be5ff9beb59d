/- Package schema: whether a text is a word, a name, an attribute's name, for every text, over the table of the words of the language. -/
import Derived.Test.YtmdhacboegmccaaDoorChars
import Derived.Deep.LoopGhost
namespace Go.Proofs.YtmdhacboegmccaaDoor
open Go Go.RowKit

/-- The table of the words of the language lies in its variable. -/
def ResAt (w : World) : Prop := ∃ t fr, w.heap[0]? = some (.cells resCells t fr)
theorem ResAt.lt {w : World} (h : ResAt w) : 0 < w.heap.size := by
  obtain ⟨t, fr, h⟩ := h
  exact (Array.getElem?_eq_some_iff.1 h).1
theorem ResAt.below {w w' : World} (h : ResAt w) (hb : Below w.heap.size w w') : ResAt w' := by
  have hl := h.lt
  obtain ⟨t, fr, h⟩ := h
  exact ⟨t, fr, (hb.block _ hl).trans h⟩

theorem ret_bool {a b : Bool} (h : a = b) : Ending.returned (.bool a) = .returned (.bool b) := by rw [h]

theorem isWord_any (s : ByteArray) (w : World) : Calls Tryd.prog 86 #[.string s] w fun e w' => e = .returned (.bool (isWordB s)) ∧ Below w.heap.size w w' := by
  by_cases h : s.size = 0
  · have h1 : s.toList = [] := by rw [ByteArray.toList_eq]; exact List.eq_nil_of_length_eq_zero (by simpa using h)
    have h2 : (s.toList == []) = true := by rw [h1]; rfl
    have HE := Lib.hid (show isWordB s = false by simp [isWordB, h])
    clear h1 h
    go_enter Tryd.func86, Tryd.ntmps86
    go_wp2_with fail
    go_ret
    exact ⟨ret_bool HE.out.symm, Below.refl _ _⟩
  · have h2 : (s.toList == []) = false := by
      rw [ByteArray.toList_eq, beq_eq_false_iff_ne]
      intro e
      exact h (by simpa using congrArg List.length e)
    have h3 : s.toList.isEmpty = false := by
      cases e : s.toList with
      | nil => rw [e] at h2; cases h2
      | cons a l => rfl
    have HE := Lib.hid (show ((wordLen s : Int) == s.size) = isWordB s by
      have h0 : 0 < s.size := by omega
      rw [Bool.eq_iff_iff]
      simp [isWordB, h0]
      omega)
    go_enter Tryd.func86, Tryd.ntmps86
    go_wp2_with (go_at_call 89; refine (wordLength_any _ _).mono ?_; rintro e w' ⟨rfl, hb⟩)
    go_ret
    exact ⟨ret_bool HE.out, hb⟩

theorem isWordB_pos {s : ByteArray} (h : isWordB s = true) : 0 < s.size := by simp [isWordB] at h; exact h.1

theorem res_index : ∀ k : Nat, k < 16 → ∀ w : World, (Instr.index 121 (.agg resCells) (.int .i64 k)).run Tryd.prog w = .ok (.string (resWord k)) w
  | 0, _, _ => by kernel_rfl | 1, _, _ => by kernel_rfl | 2, _, _ => by kernel_rfl | 3, _, _ => by kernel_rfl
  | 4, _, _ => by kernel_rfl | 5, _, _ => by kernel_rfl | 6, _, _ => by kernel_rfl | 7, _, _ => by kernel_rfl
  | 8, _, _ => by kernel_rfl | 9, _, _ => by kernel_rfl | 10, _, _ => by kernel_rfl | 11, _, _ => by kernel_rfl
  | 12, _, _ => by kernel_rfl | 13, _, _ => by kernel_rfl | 14, _, _ => by kernel_rfl | 15, _, _ => by kernel_rfl
  | n + 16, h, _ => by omega

set_option maxRecDepth 100000 in
theorem name_long (s : ByteArray) (w : World) (h1 : ¬ s.size ≤ 32) : Calls Tryd.prog 73 #[.string s] w fun e w' => e = .returned (.bool (nameB s)) ∧ Below w.heap.size w w' := by
  go_enter Tryd.func73, Tryd.ntmps73
  go_wp2_with (go_at_call 86; refine (isWord_any _ _).mono ?_; rintro e w' ⟨rfl, hb⟩)
  go_ret
  exact ⟨by simp [nameB, h1], Below.refl _ _⟩
set_option maxRecDepth 100000 in
theorem name_word (s : ByteArray) (w : World) (h1 : s.size ≤ 32) (h2 : isWordB s = false) : Calls Tryd.prog 73 #[.string s] w fun e w' => e = .returned (.bool (nameB s)) ∧ Below w.heap.size w w' := by
  have HE := Lib.hid (show nameB s = false by simp [nameB, h2])
  go_enter Tryd.func73, Tryd.ntmps73
  go_wp2_with (go_at_call 86; refine (isWord_any _ _).mono ?_; rintro e w' ⟨rfl, hb⟩)
  go_ret
  exact ⟨ret_bool HE.out.symm, hb⟩
set_option maxRecDepth 100000 in
theorem name_digit (s : ByteArray) (w : World) (h1 : s.size ≤ 32) (h2 : isWordB s = true) (h0 : 0 < s.size) (h3 : digI (s[0]'h0).toNat = true) : Calls Tryd.prog 73 #[.string s] w fun e w' => e = .returned (.bool (nameB s)) ∧ Below w.heap.size w w' := by
  have HE := Lib.hid (show nameB s = false by
    have e : s.get! 0 = s[0]'h0 := get_at s 0 h0
    simp [nameB, e, h3])
  have hb0 : (s[0]'h0).toNat < 256 := (s[0]'h0).toNat_lt
  go_enter Tryd.func73, Tryd.ntmps73
  go_wp2_with (first | (go_at_call 86; refine (isWord_any _ _).mono ?_; rintro e w' ⟨rfl, hb⟩) | (go_at_call 87; refine (isDigit_any _ _).mono ?_; rintro e w' ⟨rfl, rfl⟩))
  go_ret
  exact ⟨ret_bool HE.out.symm, hb⟩

theorem res_hit (s : ByteArray) (k : Nat) (hk : k < 16) (h : (s.toList == (resWord k).toList) = true) : resWords.contains s.data.toList = true := by
  rw [beq_iff_eq, ByteArray.toList_eq] at h
  have e : (resWord k).toList = resWords.getD k [] := by simp [resWord]
  have hl : k < resWords.length := by simpa [resWords] using hk
  have e2 : resWords.getD k [] = resWords[k]'hl := by simp [List.getD, List.getElem?_eq_getElem hl]
  rw [h, e, e2, List.contains_iff_mem]
  exact List.getElem_mem hl
theorem res_miss (s : ByteArray) (h : ∀ j, j < 16 → (s.toList == (resWord j).toList) = false) : resWords.contains s.data.toList = false := by
  rw [← Bool.not_eq_true, List.contains_iff_mem]
  intro hm
  obtain ⟨j, hj, e⟩ := List.getElem_of_mem hm
  have h16 : j < 16 := by simpa [resWords] using hj
  have := h j h16
  rw [beq_eq_false_iff_ne] at this
  apply this
  have e2 : (resWord j).toList = resWords.getD j [] := by simp [resWord]
  have e3 : resWords.getD j [] = resWords[j]'hj := by simp [List.getD, List.getElem?_eq_getElem hj]
  rw [e2, e3, e, ByteArray.toList_eq]
theorem nameB_res (s : ByteArray) (h1 : s.size ≤ 32) (h2 : isWordB s = true) (h0 : 0 < s.size) (h3 : digI (s[0]'h0).toNat = false) : nameB s = !resWords.contains s.data.toList := by
  have e : s.get! 0 = s[0]'h0 := get_at s 0 h0
  simp [nameB, e, h1, h2, h3]

set_option maxRecDepth 100000 in
theorem name_rest (s : ByteArray) (w : World) (hr : ResAt w) (h1 : s.size ≤ 32) (h2 : isWordB s = true) (h0 : 0 < s.size) (h3 : digI (s[0]'h0).toNat = false) : Calls Tryd.prog 73 #[.string s] w fun e w' => e = .returned (.bool (nameB s)) ∧ Below w.heap.size w w' := by
  have HI := Lib.hid res_index
  have HN := Lib.hid (nameB_res s h1 h2 h0 h3)
  have hb0 : (s[0]'h0).toNat < 256 := (s[0]'h0).toNat_lt
  go_enter Tryd.func73, Tryd.ntmps73
  go_wp2_with (first | (go_at_call 86; refine (isWord_any _ _).mono ?_; rintro e w' ⟨rfl, hb⟩; obtain ⟨tr, fr, hg⟩ := hr.below hb) | (go_at_call 87; refine (isDigit_any _ _).mono ?_; rintro e w' ⟨rfl, rfl⟩) | (refine wpList_load_row rfl 121 _ rfl 0 rfl _ _ _ _ hg Tryd.underlying121 rfl (by kernel_rfl) ?_))
  clear h3 hr
  have HB := Lib.hid hb
  clear hb
  go_loop [4, 20] (fun _ i => ∃ k : Nat, k ≤ 16 ∧ i = .int .i64 k ∧ ∀ j, j < k → (s.toList == (resWord j).toList) = false) (fun _ i => 16 - (intOf i).toNat)
  case atStart => exact ⟨0, Nat.zero_le _, rfl, fun j hj => absurd hj (by omega)⟩
  case round =>
    obtain ⟨k, hk, rfl, hall⟩ := hrel
    have HA := Lib.hid hall
    clear hall
    by_cases hlt : k < 16
    · have hix := HI.out k hlt
      by_cases heq : (s.toList == (resWord k).toList) = true
      · have HE := Lib.hid (show nameB s = false by rw [HN.out, res_hit s k hlt heq]; rfl)
        go_wp2
        go_ret
        exact ⟨ret_bool HE.out.symm, HB.out⟩
      · have heq' : (s.toList == (resWord k).toList) = false := by simpa using heq
        clear heq
        go_wp2
        go_round
        case rel =>
          refine ⟨k + 1, by omega, by go_num, fun j hj => ?_⟩
          rcases Nat.lt_or_ge j k with h' | h'
          · exact HA.out j h'
          · obtain rfl : j = k := by omega
            exact heq'
        case measure => simp [intOf]; omega
    · have HE := Lib.hid (show nameB s = true by rw [HN.out, res_miss s (fun j hj => HA.out j (by omega))]; rfl)
      go_wp2
      go_ret
      exact ⟨ret_bool HE.out.symm, HB.out⟩

/-- Name, for every text. -/
theorem name_any (s : ByteArray) (w : World) (hr : ResAt w) : Calls Tryd.prog 73 #[.string s] w fun e w' => e = .returned (.bool (nameB s)) ∧ Below w.heap.size w w' := by
  by_cases h1 : s.size ≤ 32
  · cases h2 : isWordB s
    · exact name_word s w h1 h2
    · have h0 := isWordB_pos h2
      cases h3 : digI (s[0]'h0).toNat
      · exact name_rest s w hr h1 h2 h0 h3
      · exact name_digit s w h1 h2 h0 h3
  · exact name_long s w h1

end Go.Proofs.YtmdhacboegmccaaDoor
