/- Package csv: a cell as it stands in a text. -/
import Derived.Test.YtdkddnlolnbpgaaDoorSplit
namespace Go.Proofs.YtdkddnlolnbpgaaDoor
open Go Go.RowKit

theorem replaceK_quotes : ∀ s : List UInt8, Lib.replaceK [34] [34, 34] (s.count 34) s = dblB s
  | [] => rfl
  | b :: l => by
    have ih := replaceK_quotes l
    rw [dbl_cons]
    by_cases hb : b = 34
    · subst hb
      rw [List.count_cons_self, if_pos rfl]
      have h0 : Lib.index (34 :: l) [34] = ((0 : Nat) : Int) := by rw [Lib.index_one]; simp [Lib.indexByte]
      rw [Lib.replaceK_hit [34] [34, 34] _ _ 0 h0]
      simp only [List.take_zero, List.nil_append, List.length_singleton, Nat.zero_add, List.drop_one, List.tail_cons]
      rw [ih]
    · rw [List.count_cons_of_ne hb, if_neg hb]
      cases hk : l.count 34 with
      | zero =>
        rw [hk] at ih
        simp only [Lib.replaceK] at ih ⊢
        rw [← ih]
        rfl
      | succ k =>
        obtain ⟨i, hi⟩ := Lib.index_of_count (s := l) (old := [34]) (by rw [Lib.count_one, hk]; omega)
        have hi2 : Lib.index (b :: l) [34] = ((i + 1 : Nat) : Int) := by
          rw [Lib.index_one] at hi ⊢
          have hb2 : (b == 34) = false := by simpa using hb
          rw [Lib.indexByte, hb2, hi]
          simp only [Bool.false_eq_true, if_false]
          rw [if_neg (by rw [beq_iff_eq]; omega)]
          push_cast
          rfl
        rw [hk, Lib.replaceK_hit [34] [34, 34] k l i hi] at ih
        rw [Lib.replaceK_hit [34] [34, 34] k (b :: l) (i + 1) hi2, ← ih]
        simp only [List.take_succ_cons, List.cons_append, List.nil_append, List.append_assoc, List.length_singleton, List.drop_succ_cons]
theorem replace_quotes (s : List UInt8) : Lib.replaceAll s [34] [34, 34] = dblB s := by
  unfold Lib.replaceAll Lib.replace
  rw [if_neg (by decide)]
  unfold Lib.replaceNum
  rw [if_pos (Or.inl (by decide)), Lib.count_one, replaceK_quotes]
/-- The library's variable holds some number. -/
def MaxAt (w : World) : Prop := ∃ m, w.cell? ⟨1, 0, none⟩ = some (.int .i64 m)
theorem MaxAt.below {w w' : World} (h : MaxAt w) (hb : Below w.heap.size w w') : MaxAt w' := by
  obtain ⟨m, h⟩ := h
  exact ⟨m, (hb.cell (p := ⟨1, 0, none⟩) (World.block_lt_of_cell? w _ h)).trans h⟩
theorem count_quotes (s : ByteArray) : Lib.countB s ⟨#[34]⟩ ≤ s.size := Lib.countB_le ⟨#[34]⟩ (by decide) s.size s (Nat.le_refl _)

set_option maxHeartbeats 8000000 in
set_option maxRecDepth 100000 in
theorem written_any (s : ByteArray) (w : World) (hm : MaxAt w) (hs : s.size ≤ 65536) :
    Calls Tryd.prog 26 #[.string s] w fun e w' => e = .returned (.string ⟨(writtenB s.data.toList).toArray⟩) ∧ Below w.heap.size w w' := by
  have hcq := count_quotes s
  have HM := Lib.hid hm
  have HIX := Lib.hid (index_none s.data.toList)
  clear hm
  cases hsp : specAny s.data.toList
  · have HW := Lib.hid (show writtenB s.data.toList = s.data.toList by unfold writtenB; rw [if_neg (by rw [hsp]; simp)])
    rw [hsp] at HIX
    clear hsp
    go_enter Tryd.func26, Tryd.ntmps26
    go_wp2_with fail
    refine (containsAny_any s w (by omega)).mono ?_; rintro e w2 ⟨rfl, hb2⟩
    rw [HIX.out]
    go_wp2_with fail
    go_ret
    exact ⟨by rw [HW.out]; rfl, hb2⟩
  · have HW := Lib.hid (show writtenB s.data.toList = 34 :: (dblB s.data.toList ++ [34]) by unfold writtenB; rw [if_pos hsp])
    rw [hsp] at HIX
    clear hsp
    obtain ⟨d, hd⟩ : ∃ d : ByteArray, d = ⟨(dblB s.data.toList).toArray⟩ := ⟨_, rfl⟩
    have hdl : d.size ≤ 131072 := by
      have h1 := (dbl_len s.data.toList).2
      have h2 : s.data.toList.length = s.size := rfl
      have h3 : d.size = (dblB s.data.toList).length := by rw [hd]; rfl
      omega
    have hj1 : ∀ w : World, (Op.stringOp .add ⟨#[34]⟩ d).run Tryd.prog w = .ok (.string (⟨#[34]⟩ ++ d)) w := fun w => run_string_add_sum w _ _ (by rw [quote_size]; omega)
    have hj2 : ∀ w : World, (Op.stringOp .add (⟨#[34]⟩ ++ d) ⟨#[34]⟩).run Tryd.prog w = .ok (.string (⟨#[34]⟩ ++ d ++ ⟨#[34]⟩)) w := fun w => run_string_add_sum w _ _ (by rw [ByteArray.size_append, quote_size]; omega)
    have HE := Lib.hid (show (⟨#[34]⟩ ++ d ++ ⟨#[34]⟩ : ByteArray) = ⟨(writtenB s.data.toList).toArray⟩ by
      apply bytes_of
      rw [HW.out, hd]
      simp [ByteArray.data_append])
    have HD := Lib.hid hd
    clear hd
    go_enter Tryd.func26, Tryd.ntmps26
    go_wp2_with fail
    refine (containsAny_any s w (by omega)).mono ?_; rintro e w2 ⟨rfl, hb2⟩
    rw [HIX.out]
    have HB2 := Lib.hid hb2
    clear hb2
    go_wp2_with fail
    obtain ⟨m, hmm⟩ := HM.out.below HB2.out
    refine (Tryd.strings_ReplaceAll s ⟨#[34]⟩ ⟨#[34, 34]⟩ m w2 (by omega) hmm (by decide) (by show s.size + Lib.countB s ⟨#[34]⟩ * 2 ≤ _; omega)).mono ?_; rintro e w3 ⟨rfl, hb3⟩
    rw [show (Lib.replaceAll s.data.toList (⟨#[34]⟩ : ByteArray).data.toList (⟨#[34, 34]⟩ : ByteArray).data.toList) = dblB s.data.toList from replace_quotes _, ← HD.out]
    have HB3 := Lib.hid (HB2.out.trans (hb3.mono HB2.out.size))
    clear hb3 hmm
    go_wp2_with fail
    go_ret
    exact ⟨congrArg (fun s => Ending.returned (.string s)) HE.out, HB3.out⟩
end Go.Proofs.YtdkddnlolnbpgaaDoor
