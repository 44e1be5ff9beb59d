/- Package token: may a token be; how it is written. -/
import Derived.Test.YtaipljdpkgdheaaDoorScan
import Derived.Test.YtaipljdpkgdheaaDoorBuilder
namespace Go.Proofs.YtaipljdpkgdheaaDoor
open Go Go.RowKit

/-- May a text hold the token? -/
def mayB (k : Int) (l : List UInt8) : Bool :=
  if k = 1 then wordTB l else if k = 2 then numB l else if k = 3 then decide ((l.length : Int) ≤ 256)
  else if k = 4 then (!(l == []) && ((signR l : Int) == (l.length : Int))) else if k = 5 then (l == []) else false
theorem list_of (s : ByteArray) : s.toList = s.data.toList := ByteArray.toList_eq s

set_option maxHeartbeats 8000000 in
set_option maxRecDepth 100000 in
theorem mayBe_any (k a : Int) (s : ByteArray) (w : World) (hT : Tabs w) (hm : s.size ≤ 140737488355328) (hne : k = 4 → s.size ≠ 0) :
    Calls Tryd.prog 22 #[.agg #[.int .i64 k, .string s, .int .i64 a]] w fun e w' => e = .returned (.bool (mayB k s.data.toList)) ∧ Below w.heap.size w w' := by
  obtain ⟨W1, hW1⟩ : ∃ W1, W1 = w.alloc (Obj.cells #[.int .i64 k, .string s, .int .i64 a] 28) := ⟨_, rfl⟩
  have HB1 := Lib.hid (show Below w.heap.size w W1 by rw [hW1]; exact (Below.refl _ _).alloc (Nat.le_refl _) _)
  have hc := show Cells3 W1 w.heap.size (.int .i64 k) (.string s) (.int .i64 a) by rw [hW1]; exact Cells3.made _ _ _ _ _
  have c0 := hc.c0
  have c1 := hc.c1
  have HW1 := Lib.hid hW1
  have HT1 := Lib.hid (hT.below HB1.out)
  clear hc hW1 hT
  have hlen : s.data.toList.length = s.size := rfl
  by_cases h1 : k = 1
  · subst h1
    have HE := Lib.hid (show mayB 1 s.data.toList = wordTB s.data.toList from rfl)
    have HC := Lib.hid (isWord_any s W1)
    go_enter Tryd.func22, Tryd.ntmps22
    go_upto_region 1 with fail
    rw [← HW1.out]
    go_wp2_with fail
    refine HC.out.mono ?_; rintro e w2 ⟨rfl, hb2⟩
    have HB2 := Lib.hid (HB1.out.trans (hb2.mono HB1.out.size))
    clear hb2
    go_wp2_with fail
    go_ret
    exact ⟨ret_bool2 HE.out.symm, HB2.out⟩
  by_cases h2 : k = 2
  · subst h2
    have HE := Lib.hid (show mayB 2 s.data.toList = numB s.data.toList from rfl)
    have HC := Lib.hid (isNumber_any s W1 HT1.out hm)
    clear h1
    go_enter Tryd.func22, Tryd.ntmps22
    go_upto_region 1 with fail
    rw [← HW1.out]
    go_wp2_with fail
    refine HC.out.mono ?_; rintro e w2 ⟨rfl, hb2⟩
    have HB2 := Lib.hid (HB1.out.trans (hb2.mono HB1.out.size))
    clear hb2
    go_wp2_with fail
    go_ret
    exact ⟨ret_bool2 HE.out.symm, HB2.out⟩
  by_cases h3 : k = 3
  · subst h3
    have HE := Lib.hid (show mayB 3 s.data.toList = decide ((s.size : Int) ≤ 256) from rfl)
    clear h1 h2
    go_enter Tryd.func22, Tryd.ntmps22
    go_upto_region 1 with fail
    rw [← HW1.out]
    go_wp2_with fail
    go_ret
    exact ⟨ret_bool2 HE.out.symm, HB1.out⟩
  by_cases h4 : k = 4
  · subst h4
    clear h1 h2 h3
    have h0 := hne rfl
    have hpos : 0 < s.size := by omega
    have b0 : (s.toList == []) = false := by
      rw [list_of, beq_eq_false_iff_ne]
      intro e
      exact h0 (by simpa using congrArg List.length e)
    have b1 : (s.toList != []) = true := by simp [bne, b0]
    have HE := Lib.hid (show mayB 4 s.data.toList = ((signR s.data.toList : Int) == (s.size : Int)) by
      have b2 : (s.data.toList == []) = false := by rw [← list_of]; exact b0
      show (!(s.data.toList == []) && _) = _
      rw [b2]
      rfl)
    have HC := Lib.hid (fun W => sign_any s W hpos)
    go_enter Tryd.func22, Tryd.ntmps22
    go_upto_region 1 with fail
    rw [← HW1.out]
    go_wp2_with fail
    go_region_held3 (fun w' => w'.cell? ⟨w.heap.size, 1, none⟩ = some (.string s)) (go_keep) ((go_at_call 41; (with_reducible refine (HC.out _).mono ?_); rintro e w2 ⟨rfl, hw⟩; subst hw))
    all_goals
      go_wp2_with fail
      go_ret
      exact ⟨ret_bool2 HE.out.symm, HB1.out.drew⟩
  by_cases h5 : k = 5
  · subst h5
    have HE := Lib.hid (show mayB 5 s.data.toList = s.toList.isEmpty by rw [list_of]; show (s.data.toList == []) = _; cases s.data.toList <;> rfl)
    clear h1 h2 h3 h4
    go_enter Tryd.func22, Tryd.ntmps22
    go_upto_region 1 with fail
    rw [← HW1.out]
    go_wp2_with fail
    go_ret
    exact ⟨ret_bool2 HE.out.symm, HB1.out⟩
  have HE := Lib.hid (show mayB k s.data.toList = false by unfold mayB; rw [if_neg h1, if_neg h2, if_neg h3, if_neg h4, if_neg h5])
  have e1 : (k == 1) = false := beq_eq_false_iff_ne.2 h1
  have e2 : (k == 2) = false := beq_eq_false_iff_ne.2 h2
  have e3 : (k == 3) = false := beq_eq_false_iff_ne.2 h3
  have e4 : (k == 4) = false := beq_eq_false_iff_ne.2 h4
  have e5 : (k == 5) = false := beq_eq_false_iff_ne.2 h5
  clear h1 h2 h3 h4 h5
  go_enter Tryd.func22, Tryd.ntmps22
  go_upto_region 1 with fail
  rw [← HW1.out]
  go_wp2_with fail
  go_ret
  exact ⟨ret_bool2 HE.out.symm, HB1.out⟩

theorem showX_str (s : ByteArray) (w : World) (hs : s.size ≤ 256) :
    Calls Tryd.prog 43 #[.agg #[.int .i64 2, .int .i64 0, .string s, .bool false]] w fun e w' => e = .returned (.tuple #[.string ⟨(34 :: (s.data.toList.flatMap escB ++ [34])).toArray⟩, .int .i64 0]) ∧ Below w.heap.size w w' := by
  have HV := Lib.hid (fun W => valid_any (strV s) W (by show s.size ≤ maxLen; unfold maxLen; omega))
  rw [show validB (strV s) = true by simp [validB, strV, hs]] at HV
  have HQ := Lib.hid (fun W => quoteX_any s W hs)
  simp only [Val.v, strV] at HV ⊢
  have hb := Lib.hid (fun (o : Obj) => (Below.refl w.heap.size w).alloc (Nat.le_refl _) o)
  go_enter Tryd.func43, Tryd.ntmps43
  go_wp2_with fail
  refine (HV.out _).mono ?_; rintro e w1 ⟨rfl, hb1⟩
  have HB1 := Lib.hid ((hb.out _).trans (hb1.mono (by rw [World.size_alloc]; omega)))
  have cb := hb1.block w.heap.size (by rw [World.size_alloc]; omega)
  rw [heap_alloc_new] at cb
  have c0 := cell_of_heap (i := 0) cb rfl
  have c1 := cell_of_heap (i := 1) cb rfl
  have c2 := cell_of_heap (i := 2) cb rfl
  have c3 := cell_of_heap (i := 3) cb rfl
  clear hb1 cb
  go_wp2_with fail
  refine (HQ.out _).mono ?_; rintro e w2 ⟨rfl, hb2⟩
  have HB2 := Lib.hid (HB1.out.trans (hb2.mono HB1.out.size))
  clear hb2
  go_wp2_with fail
  go_ret2
  exact ⟨rfl, HB2.out⟩
/-- A token as it stands in a text. -/
def writtenB (k : Int) (l : List UInt8) : List UInt8 := if k = 3 then 34 :: (l.flatMap escB ++ [34]) else l
set_option maxHeartbeats 8000000 in
set_option maxRecDepth 100000 in
theorem written_any (k a : Int) (s : ByteArray) (w : World) (hs : k = 3 → s.size ≤ 256) :
    Calls Tryd.prog 25 #[.agg #[.int .i64 k, .string s, .int .i64 a]] w fun e w' => e = .returned (.string ⟨(writtenB k s.data.toList).toArray⟩) ∧ Below w.heap.size w w' := by
  obtain ⟨W1, hW1⟩ : ∃ W1, W1 = w.alloc (Obj.cells #[.int .i64 k, .string s, .int .i64 a] 28) := ⟨_, rfl⟩
  have HB1 := Lib.hid (show Below w.heap.size w W1 by rw [hW1]; exact (Below.refl _ _).alloc (Nat.le_refl _) _)
  have hc := show Cells3 W1 w.heap.size (.int .i64 k) (.string s) (.int .i64 a) by rw [hW1]; exact Cells3.made _ _ _ _ _
  have c0 := hc.c0
  have c1 := hc.c1
  have HW1 := Lib.hid hW1
  clear hc hW1
  by_cases h3 : k = 3
  · subst h3
    have HS := Lib.hid (showX_str s W1 (hs rfl))
    have HE := Lib.hid (show writtenB 3 s.data.toList = 34 :: (s.data.toList.flatMap escB ++ [34]) from rfl)
    clear hs
    go_enter Tryd.func25, Tryd.ntmps25
    go_upto_region 1 with fail
    rw [← HW1.out]
    go_wp2_with fail
    refine HS.out.mono ?_; rintro e w2 ⟨rfl, hb2⟩
    have HB2 := Lib.hid (HB1.out.trans (hb2.mono HB1.out.size))
    clear hb2
    go_wp2_with fail
    go_ret
    exact ⟨by rw [HE.out]; rfl, HB2.out⟩
  · have e3 : (k == 3) = false := beq_eq_false_iff_ne.2 h3
    have e4 : (k != 3) = true := by simp [bne, e3]
    have HE := Lib.hid (show writtenB k s.data.toList = s.data.toList by unfold writtenB; rw [if_neg h3])
    clear hs h3
    go_enter Tryd.func25, Tryd.ntmps25
    go_upto_region 1 with fail
    rw [← HW1.out]
    go_wp2_with fail
    go_ret
    exact ⟨by rw [HE.out]; rfl, HB1.out⟩
end Go.Proofs.YtaipljdpkgdheaaDoor
