/- Package wire: appendValue, for every value that may be. -/
import Derived.Test.YtmdhacboegmccaaDoorText
namespace Go.Proofs.YtmdhacboegmccaaDoor
open Go Go.RowKit

/-- The box of a value, and the row beside it. -/
structure BoxV (w0 w : World) (a : Val) : Prop where
  c0 : w.cell? ⟨w0.heap.size, 0, none⟩ = some (.int .i64 a.kind)
  c1 : w.cell? ⟨w0.heap.size, 1, none⟩ = some (.int .i64 a.int)
  c2 : w.cell? ⟨w0.heap.size, 2, none⟩ = some (.string a.str)
  c3 : w.cell? ⟨w0.heap.size, 3, none⟩ = some (.bool a.bool)
theorem BoxV.made (w : World) (a : Val) : BoxV w (w.alloc (Obj.cells #[.int .i64 a.kind, .int .i64 a.int, .string a.str, .bool a.bool] 95)) a := ⟨by simp, by simp, by simp, by simp⟩
theorem row_apart {w : World} {B : Nat} {v : Value} {n : Nat} {xs : List Value} (h : w.ownsRow B 5 1 v n xs) : some w.heap.size ≠ v.ownBlock := by
  intro e
  have := (h.lt _ e.symm).2
  omega
theorem BoxV.grown {w0 w w' : World} {a : Val} {row : Option Nat} (h : BoxV w0 w a) (hg : w.grownBy w' row) (hne : some w0.heap.size ≠ row) : BoxV w0 w' a :=
  ⟨hg.cell h.c0 hne, hg.cell h.c1 hne, hg.cell h.c2 hne, hg.cell h.c3 hne⟩

theorem valE_int0 : valE ⟨1, 0, ⟨#[]⟩, false⟩ = [1] ++ [0] := by
  unfold valE valTail putB
  rw [if_pos rfl, show zz 0 = 0 from rfl, putZ_small (by omega)]
  rfl
theorem valE_str0 : valE ⟨2, 0, ⟨#[]⟩, false⟩ = [2] ++ [0] := by
  unfold valE valTail textE putB
  rw [if_neg (by decide), if_pos rfl, show zz ((⟨#[]⟩ : ByteArray).size : Int) = 0 from rfl, putZ_small (by omega)]
  rfl
theorem valE_no : valE ⟨3, 0, ⟨#[]⟩, false⟩ = [3] ++ [0] := rfl
theorem valE_yes : valE ⟨3, 0, ⟨#[]⟩, true⟩ = [3] ++ [1] := rfl

set_option maxHeartbeats 8000000 in
set_option maxRecDepth 100000 in
theorem appendValue_int0 (B : Nat) (v : Value) (l : List UInt8)  (w : World) (hown : w.ownsRow B 5 1 v l.length (bytesC l)) (hl : l.length ≤ 800000000) (hB : B ≤ w.heap.size) :
    Calls Tryd.prog 76 #[v, (⟨1, 0, ⟨#[]⟩, false⟩ : Val).v] w fun e w' => ∃ v', e = .returned v' ∧ Ext8 B w v w' v' (l ++ valE ⟨1, 0, ⟨#[]⟩, false⟩) := by
  obtain ⟨i0, hi0, hz0, hz1, hz2⟩ := info_parts Tryd.infoU8
  simp only [Val.v]
  obtain ⟨W1, hW1⟩ : ∃ W1, W1 = w.alloc (Obj.cells #[.int .i64 1, .int .i64 0, .string ⟨#[]⟩, .bool false] 95) := ⟨_, rfl⟩
  have hb1 : Below w.heap.size w W1 := by rw [hW1]; exact (Below.refl _ _).alloc (Nat.le_refl _) _
  have HB1 := Lib.hid hb1
  have HO1 := Lib.hid (owns_below hown hb1)
  have HBX := Lib.hid (show BoxV w W1 ⟨1, 0, ⟨#[]⟩, false⟩ by rw [hW1]; exact BoxV.made w ⟨1, 0, ⟨#[]⟩, false⟩)
  have hap := row_apart hown
  have hsz1 : w.heap.size < W1.heap.size := by rw [hW1]; simp
  have c0 := HBX.out.c0
  simp only at c0
  have HW1 := Lib.hid hW1
  clear hown hb1 hW1
  go_enter Tryd.func76, Tryd.ntmps76
  go_upto_region 1 with fail
  rw [← HW1.out]
  go_upto_region 2 with (at_builtin; go_must (refine wpList_append_lies _ (by rfl) _ _ _ (by rfl) B 5 i0 _ 1 1 Tryd.underlying25 hi0 hz0 hz1 hz2 rfl (by omega) v l.length (bytesC l) (by rfl) (HO1.out.alloc _) ⟨_, 0, none⟩ 1 1 (bytesC [1]) (by rfl) (by rfl) (World.news_of_block (cs := #[.int .u8 1]) (t := 5) (fr := (0, 0)) (heap_alloc_new _ _)) (bytesC_one _) (by omega) (by unfold maxLen; omega) (by omega) (by simp; omega) _ rfl ?_; intro g cap w7 hown7 hgrow7 hat7 hlt7; have HX := Lib.hid (Ext8.app (m := [1]) rfl hown7 hgrow7 hat7); have hbx := (HBX.out.grown (World.grownBy_alloc W1 (Obj.cells #[Value.int IntKind.u8 1] 5) none) (by simp)).grown hgrow7 hap; have d0 := hbx.c0; have d1 := hbx.c1; have d2 := hbx.c2; have d3 := hbx.c3; simp only at d0 d1 d2 d3; have z7 : W1.heap.size < w7.heap.size := Nat.lt_of_lt_of_le (by simp) hgrow7.size; clear hown7 hgrow7 hat7 hbx))
  have hll : (l ++ [(1 : UInt8)]).length = l.length + 1 := by simp
  have HLL := Lib.hid hll
  have hlb : (l ++ [(1 : UInt8)]).length ≤ 800000001 := by omega
  clear hll
  go_wp2_with (at_builtin; go_must (refine wpList_append_lies _ (by rfl) _ _ _ (by rfl) B 5 i0 _ 1 1 Tryd.underlying25 hi0 hz0 hz1 hz2 rfl (by omega) (.slice (some ⟨g, 0, none⟩) (l.length + 1) cap) (l ++ [1]).length (bytesC (l ++ [1])) (by first | rfl | (rw [HLL.out])) (HX.out.own.alloc _) ⟨_, 0, none⟩ 1 1 (bytesC [0]) (by rfl) (by rfl) (World.news_of_block (cs := #[.int .u8 0]) (t := 5) (fr := (0, 0)) (heap_alloc_new _ _)) (bytesC_one _) (by omega) (by unfold maxLen; omega) (by omega) (by simp; omega) _ rfl ?_; intro g2 cap2 w8 hown8 hgrow8 hat8 hlt8))
  go_ret
  refine ⟨_, rfl, ?_⟩
  have h := Ext8.pre HB1.out (HX.out.trans (Ext8.app (m := [0]) rfl hown8 hgrow8 hat8))
  have e : (l ++ [(1 : UInt8)]).length + [(0 : UInt8)].length = l.length + 1 + 1 := by simp
  rw [e, List.append_assoc, ← valE_int0] at h
  exact h

set_option maxHeartbeats 8000000 in
set_option maxRecDepth 100000 in
theorem appendValue_int (B : Nat) (v : Value) (l : List UInt8) (n : Int) (h1 : -9223372036854775808 ≤ n) (h2 : n ≤ 9223372036854775807) (h0 : (n == 0) = false) (w : World) (hown : w.ownsRow B 5 1 v l.length (bytesC l)) (hl : l.length ≤ 800000000) (hB : B ≤ w.heap.size) :
    Calls Tryd.prog 76 #[v, (⟨1, n, ⟨#[]⟩, false⟩ : Val).v] w fun e w' => ∃ v', e = .returned v' ∧ Ext8 B w v w' v' (l ++ valE ⟨1, n, ⟨#[]⟩, false⟩) := by
  obtain ⟨i0, hi0, hz0, hz1, hz2⟩ := info_parts Tryd.infoU8
  simp only [Val.v]
  obtain ⟨W1, hW1⟩ : ∃ W1, W1 = w.alloc (Obj.cells #[.int .i64 1, .int .i64 n, .string ⟨#[]⟩, .bool false] 95) := ⟨_, rfl⟩
  have hb1 : Below w.heap.size w W1 := by rw [hW1]; exact (Below.refl _ _).alloc (Nat.le_refl _) _
  have HB1 := Lib.hid hb1
  have HO1 := Lib.hid (owns_below hown hb1)
  have HBX := Lib.hid (show BoxV w W1 ⟨1, n, ⟨#[]⟩, false⟩ by rw [hW1]; exact BoxV.made w ⟨1, n, ⟨#[]⟩, false⟩)
  have hap := row_apart hown
  have hsz1 : w.heap.size < W1.heap.size := by rw [hW1]; simp
  have c0 := HBX.out.c0
  simp only at c0
  have HW1 := Lib.hid hW1
  clear hown hb1 hW1
  go_enter Tryd.func76, Tryd.ntmps76
  go_upto_region 1 with fail
  rw [← HW1.out]
  go_upto_region 2 with (at_builtin; go_must (refine wpList_append_lies _ (by rfl) _ _ _ (by rfl) B 5 i0 _ 1 1 Tryd.underlying25 hi0 hz0 hz1 hz2 rfl (by omega) v l.length (bytesC l) (by rfl) (HO1.out.alloc _) ⟨_, 0, none⟩ 1 1 (bytesC [1]) (by rfl) (by rfl) (World.news_of_block (cs := #[.int .u8 1]) (t := 5) (fr := (0, 0)) (heap_alloc_new _ _)) (bytesC_one _) (by omega) (by unfold maxLen; omega) (by omega) (by simp; omega) _ rfl ?_; intro g cap w7 hown7 hgrow7 hat7 hlt7; have HX := Lib.hid (Ext8.app (m := [1]) rfl hown7 hgrow7 hat7); have hbx := (HBX.out.grown (World.grownBy_alloc W1 (Obj.cells #[Value.int IntKind.u8 1] 5) none) (by simp)).grown hgrow7 hap; have d0 := hbx.c0; have d1 := hbx.c1; have d2 := hbx.c2; have d3 := hbx.c3; simp only at d0 d1 d2 d3; have z7 : W1.heap.size < w7.heap.size := Nat.lt_of_lt_of_le (by simp) hgrow7.size; clear hown7 hgrow7 hat7 hbx))
  have hll : (l ++ [(1 : UInt8)]).length = l.length + 1 := by simp
  have HLL := Lib.hid hll
  have hlb : (l ++ [(1 : UInt8)]).length ≤ 800000001 := by omega
  clear hll
  go_wp2_with fail
  refine (appendInt_any B _ _ n w7 HX.out.own (by omega) (by omega) h1 h2).mono ?_; rintro e w8 ⟨v8, rfl, hx8⟩
  go_wp2_with fail
  go_ret
  refine ⟨_, rfl, ?_⟩
  have h := Ext8.pre HB1.out (HX.out.trans hx8)
  rw [List.append_assoc] at h
  exact h

set_option maxHeartbeats 8000000 in
set_option maxRecDepth 100000 in
theorem appendValue_str0 (B : Nat) (v : Value) (l : List UInt8)  (w : World) (hown : w.ownsRow B 5 1 v l.length (bytesC l)) (hl : l.length ≤ 800000000) (hB : B ≤ w.heap.size) :
    Calls Tryd.prog 76 #[v, (⟨2, 0, ⟨#[]⟩, false⟩ : Val).v] w fun e w' => ∃ v', e = .returned v' ∧ Ext8 B w v w' v' (l ++ valE ⟨2, 0, ⟨#[]⟩, false⟩) := by
  obtain ⟨i0, hi0, hz0, hz1, hz2⟩ := info_parts Tryd.infoU8
  simp only [Val.v]
  obtain ⟨W1, hW1⟩ : ∃ W1, W1 = w.alloc (Obj.cells #[.int .i64 2, .int .i64 0, .string ⟨#[]⟩, .bool false] 95) := ⟨_, rfl⟩
  have hb1 : Below w.heap.size w W1 := by rw [hW1]; exact (Below.refl _ _).alloc (Nat.le_refl _) _
  have HB1 := Lib.hid hb1
  have HO1 := Lib.hid (owns_below hown hb1)
  have HBX := Lib.hid (show BoxV w W1 ⟨2, 0, ⟨#[]⟩, false⟩ by rw [hW1]; exact BoxV.made w ⟨2, 0, ⟨#[]⟩, false⟩)
  have hap := row_apart hown
  have hsz1 : w.heap.size < W1.heap.size := by rw [hW1]; simp
  have c0 := HBX.out.c0
  simp only at c0
  have HW1 := Lib.hid hW1
  clear hown hb1 hW1
  go_enter Tryd.func76, Tryd.ntmps76
  go_upto_region 1 with fail
  rw [← HW1.out]
  go_upto_region 2 with (at_builtin; go_must (refine wpList_append_lies _ (by rfl) _ _ _ (by rfl) B 5 i0 _ 1 1 Tryd.underlying25 hi0 hz0 hz1 hz2 rfl (by omega) v l.length (bytesC l) (by rfl) (HO1.out.alloc _) ⟨_, 0, none⟩ 1 1 (bytesC [2]) (by rfl) (by rfl) (World.news_of_block (cs := #[.int .u8 2]) (t := 5) (fr := (0, 0)) (heap_alloc_new _ _)) (bytesC_one _) (by omega) (by unfold maxLen; omega) (by omega) (by simp; omega) _ rfl ?_; intro g cap w7 hown7 hgrow7 hat7 hlt7; have HX := Lib.hid (Ext8.app (m := [2]) rfl hown7 hgrow7 hat7); have hbx := (HBX.out.grown (World.grownBy_alloc W1 (Obj.cells #[Value.int IntKind.u8 2] 5) none) (by simp)).grown hgrow7 hap; have d0 := hbx.c0; have d1 := hbx.c1; have d2 := hbx.c2; have d3 := hbx.c3; simp only at d0 d1 d2 d3; have z7 : W1.heap.size < w7.heap.size := Nat.lt_of_lt_of_le (by simp) hgrow7.size; clear hown7 hgrow7 hat7 hbx))
  have hll : (l ++ [(2 : UInt8)]).length = l.length + 1 := by simp
  have HLL := Lib.hid hll
  have hlb : (l ++ [(2 : UInt8)]).length ≤ 800000001 := by omega
  clear hll
  go_wp2_with (at_builtin; go_must (refine wpList_append_lies _ (by rfl) _ _ _ (by rfl) B 5 i0 _ 1 1 Tryd.underlying25 hi0 hz0 hz1 hz2 rfl (by omega) (.slice (some ⟨g, 0, none⟩) (l.length + 1) cap) (l ++ [2]).length (bytesC (l ++ [2])) (by first | rfl | (rw [HLL.out])) (HX.out.own.alloc _) ⟨_, 0, none⟩ 1 1 (bytesC [0]) (by rfl) (by rfl) (World.news_of_block (cs := #[.int .u8 0]) (t := 5) (fr := (0, 0)) (heap_alloc_new _ _)) (bytesC_one _) (by omega) (by unfold maxLen; omega) (by omega) (by simp; omega) _ rfl ?_; intro g2 cap2 w8 hown8 hgrow8 hat8 hlt8))
  go_ret
  refine ⟨_, rfl, ?_⟩
  have h := Ext8.pre HB1.out (HX.out.trans (Ext8.app (m := [0]) rfl hown8 hgrow8 hat8))
  have e : (l ++ [(2 : UInt8)]).length + [(0 : UInt8)].length = l.length + 1 + 1 := by simp
  rw [e, List.append_assoc, ← valE_str0] at h
  exact h

set_option maxHeartbeats 8000000 in
set_option maxRecDepth 100000 in
theorem appendValue_str (B : Nat) (v : Value) (l : List UInt8) (s : ByteArray) (hs : s.size ≤ 256) (h0 : (s.toList == []) = false) (w : World) (hown : w.ownsRow B 5 1 v l.length (bytesC l)) (hl : l.length ≤ 800000000) (hB : B ≤ w.heap.size) :
    Calls Tryd.prog 76 #[v, (⟨2, 0, s, false⟩ : Val).v] w fun e w' => ∃ v', e = .returned v' ∧ Ext8 B w v w' v' (l ++ valE ⟨2, 0, s, false⟩) := by
  obtain ⟨i0, hi0, hz0, hz1, hz2⟩ := info_parts Tryd.infoU8
  simp only [Val.v]
  obtain ⟨W1, hW1⟩ : ∃ W1, W1 = w.alloc (Obj.cells #[.int .i64 2, .int .i64 0, .string s, .bool false] 95) := ⟨_, rfl⟩
  have hb1 : Below w.heap.size w W1 := by rw [hW1]; exact (Below.refl _ _).alloc (Nat.le_refl _) _
  have HB1 := Lib.hid hb1
  have HO1 := Lib.hid (owns_below hown hb1)
  have HBX := Lib.hid (show BoxV w W1 ⟨2, 0, s, false⟩ by rw [hW1]; exact BoxV.made w ⟨2, 0, s, false⟩)
  have hap := row_apart hown
  have hsz1 : w.heap.size < W1.heap.size := by rw [hW1]; simp
  have c0 := HBX.out.c0
  simp only at c0
  have HW1 := Lib.hid hW1
  clear hown hb1 hW1
  go_enter Tryd.func76, Tryd.ntmps76
  go_upto_region 1 with fail
  rw [← HW1.out]
  go_upto_region 2 with (at_builtin; go_must (refine wpList_append_lies _ (by rfl) _ _ _ (by rfl) B 5 i0 _ 1 1 Tryd.underlying25 hi0 hz0 hz1 hz2 rfl (by omega) v l.length (bytesC l) (by rfl) (HO1.out.alloc _) ⟨_, 0, none⟩ 1 1 (bytesC [2]) (by rfl) (by rfl) (World.news_of_block (cs := #[.int .u8 2]) (t := 5) (fr := (0, 0)) (heap_alloc_new _ _)) (bytesC_one _) (by omega) (by unfold maxLen; omega) (by omega) (by simp; omega) _ rfl ?_; intro g cap w7 hown7 hgrow7 hat7 hlt7; have HX := Lib.hid (Ext8.app (m := [2]) rfl hown7 hgrow7 hat7); have hbx := (HBX.out.grown (World.grownBy_alloc W1 (Obj.cells #[Value.int IntKind.u8 2] 5) none) (by simp)).grown hgrow7 hap; have d0 := hbx.c0; have d1 := hbx.c1; have d2 := hbx.c2; have d3 := hbx.c3; simp only at d0 d1 d2 d3; have z7 : W1.heap.size < w7.heap.size := Nat.lt_of_lt_of_le (by simp) hgrow7.size; clear hown7 hgrow7 hat7 hbx))
  have hll : (l ++ [(2 : UInt8)]).length = l.length + 1 := by simp
  have HLL := Lib.hid hll
  have hlb : (l ++ [(2 : UInt8)]).length ≤ 800000001 := by omega
  clear hll
  go_wp2_with fail
  refine (appendText_any B _ _ s w7 HX.out.own (by omega) (by omega) (by omega)).mono ?_; rintro e w8 ⟨v8, rfl, hx8⟩
  go_wp2_with fail
  go_ret
  refine ⟨_, rfl, ?_⟩
  have h := Ext8.pre HB1.out (HX.out.trans hx8)
  rw [List.append_assoc] at h
  exact h

set_option maxHeartbeats 8000000 in
set_option maxRecDepth 100000 in
theorem appendValue_no (B : Nat) (v : Value) (l : List UInt8)  (w : World) (hown : w.ownsRow B 5 1 v l.length (bytesC l)) (hl : l.length ≤ 800000000) (hB : B ≤ w.heap.size) :
    Calls Tryd.prog 76 #[v, (⟨3, 0, ⟨#[]⟩, false⟩ : Val).v] w fun e w' => ∃ v', e = .returned v' ∧ Ext8 B w v w' v' (l ++ valE ⟨3, 0, ⟨#[]⟩, false⟩) := by
  obtain ⟨i0, hi0, hz0, hz1, hz2⟩ := info_parts Tryd.infoU8
  simp only [Val.v]
  obtain ⟨W1, hW1⟩ : ∃ W1, W1 = w.alloc (Obj.cells #[.int .i64 3, .int .i64 0, .string ⟨#[]⟩, .bool false] 95) := ⟨_, rfl⟩
  have hb1 : Below w.heap.size w W1 := by rw [hW1]; exact (Below.refl _ _).alloc (Nat.le_refl _) _
  have HB1 := Lib.hid hb1
  have HO1 := Lib.hid (owns_below hown hb1)
  have HBX := Lib.hid (show BoxV w W1 ⟨3, 0, ⟨#[]⟩, false⟩ by rw [hW1]; exact BoxV.made w ⟨3, 0, ⟨#[]⟩, false⟩)
  have hap := row_apart hown
  have hsz1 : w.heap.size < W1.heap.size := by rw [hW1]; simp
  have c0 := HBX.out.c0
  simp only at c0
  have HW1 := Lib.hid hW1
  clear hown hb1 hW1
  go_enter Tryd.func76, Tryd.ntmps76
  go_upto_region 1 with fail
  rw [← HW1.out]
  go_upto_region 2 with (at_builtin; go_must (refine wpList_append_lies _ (by rfl) _ _ _ (by rfl) B 5 i0 _ 1 1 Tryd.underlying25 hi0 hz0 hz1 hz2 rfl (by omega) v l.length (bytesC l) (by rfl) (HO1.out.alloc _) ⟨_, 0, none⟩ 1 1 (bytesC [3]) (by rfl) (by rfl) (World.news_of_block (cs := #[.int .u8 3]) (t := 5) (fr := (0, 0)) (heap_alloc_new _ _)) (bytesC_one _) (by omega) (by unfold maxLen; omega) (by omega) (by simp; omega) _ rfl ?_; intro g cap w7 hown7 hgrow7 hat7 hlt7; have HX := Lib.hid (Ext8.app (m := [3]) rfl hown7 hgrow7 hat7); have hbx := (HBX.out.grown (World.grownBy_alloc W1 (Obj.cells #[Value.int IntKind.u8 3] 5) none) (by simp)).grown hgrow7 hap; have d0 := hbx.c0; have d1 := hbx.c1; have d2 := hbx.c2; have d3 := hbx.c3; simp only at d0 d1 d2 d3; have z7 : W1.heap.size < w7.heap.size := Nat.lt_of_lt_of_le (by simp) hgrow7.size; clear hown7 hgrow7 hat7 hbx))
  have hll : (l ++ [(3 : UInt8)]).length = l.length + 1 := by simp
  have HLL := Lib.hid hll
  have hlb : (l ++ [(3 : UInt8)]).length ≤ 800000001 := by omega
  clear hll
  go_wp2_with (at_builtin; go_must (refine wpList_append_lies _ (by rfl) _ _ _ (by rfl) B 5 i0 _ 1 1 Tryd.underlying25 hi0 hz0 hz1 hz2 rfl (by omega) (.slice (some ⟨g, 0, none⟩) (l.length + 1) cap) (l ++ [3]).length (bytesC (l ++ [3])) (by first | rfl | (rw [HLL.out])) (HX.out.own.alloc _) ⟨_, 0, none⟩ 1 1 (bytesC [0]) (by rfl) (by rfl) (World.news_of_block (cs := #[.int .u8 0]) (t := 5) (fr := (0, 0)) (heap_alloc_new _ _)) (bytesC_one _) (by omega) (by unfold maxLen; omega) (by omega) (by simp; omega) _ rfl ?_; intro g2 cap2 w8 hown8 hgrow8 hat8 hlt8))
  go_ret
  refine ⟨_, rfl, ?_⟩
  have h := Ext8.pre HB1.out (HX.out.trans (Ext8.app (m := [0]) rfl hown8 hgrow8 hat8))
  have e : (l ++ [(3 : UInt8)]).length + [(0 : UInt8)].length = l.length + 1 + 1 := by simp
  rw [e, List.append_assoc, ← valE_no] at h
  exact h

set_option maxHeartbeats 8000000 in
set_option maxRecDepth 100000 in
theorem appendValue_yes (B : Nat) (v : Value) (l : List UInt8)  (w : World) (hown : w.ownsRow B 5 1 v l.length (bytesC l)) (hl : l.length ≤ 800000000) (hB : B ≤ w.heap.size) :
    Calls Tryd.prog 76 #[v, (⟨3, 0, ⟨#[]⟩, true⟩ : Val).v] w fun e w' => ∃ v', e = .returned v' ∧ Ext8 B w v w' v' (l ++ valE ⟨3, 0, ⟨#[]⟩, true⟩) := by
  obtain ⟨i0, hi0, hz0, hz1, hz2⟩ := info_parts Tryd.infoU8
  simp only [Val.v]
  obtain ⟨W1, hW1⟩ : ∃ W1, W1 = w.alloc (Obj.cells #[.int .i64 3, .int .i64 0, .string ⟨#[]⟩, .bool true] 95) := ⟨_, rfl⟩
  have hb1 : Below w.heap.size w W1 := by rw [hW1]; exact (Below.refl _ _).alloc (Nat.le_refl _) _
  have HB1 := Lib.hid hb1
  have HO1 := Lib.hid (owns_below hown hb1)
  have HBX := Lib.hid (show BoxV w W1 ⟨3, 0, ⟨#[]⟩, true⟩ by rw [hW1]; exact BoxV.made w ⟨3, 0, ⟨#[]⟩, true⟩)
  have hap := row_apart hown
  have hsz1 : w.heap.size < W1.heap.size := by rw [hW1]; simp
  have c0 := HBX.out.c0
  simp only at c0
  have HW1 := Lib.hid hW1
  clear hown hb1 hW1
  go_enter Tryd.func76, Tryd.ntmps76
  go_upto_region 1 with fail
  rw [← HW1.out]
  go_upto_region 2 with (at_builtin; go_must (refine wpList_append_lies _ (by rfl) _ _ _ (by rfl) B 5 i0 _ 1 1 Tryd.underlying25 hi0 hz0 hz1 hz2 rfl (by omega) v l.length (bytesC l) (by rfl) (HO1.out.alloc _) ⟨_, 0, none⟩ 1 1 (bytesC [3]) (by rfl) (by rfl) (World.news_of_block (cs := #[.int .u8 3]) (t := 5) (fr := (0, 0)) (heap_alloc_new _ _)) (bytesC_one _) (by omega) (by unfold maxLen; omega) (by omega) (by simp; omega) _ rfl ?_; intro g cap w7 hown7 hgrow7 hat7 hlt7; have HX := Lib.hid (Ext8.app (m := [3]) rfl hown7 hgrow7 hat7); have hbx := (HBX.out.grown (World.grownBy_alloc W1 (Obj.cells #[Value.int IntKind.u8 3] 5) none) (by simp)).grown hgrow7 hap; have d0 := hbx.c0; have d1 := hbx.c1; have d2 := hbx.c2; have d3 := hbx.c3; simp only at d0 d1 d2 d3; have z7 : W1.heap.size < w7.heap.size := Nat.lt_of_lt_of_le (by simp) hgrow7.size; clear hown7 hgrow7 hat7 hbx))
  have hll : (l ++ [(3 : UInt8)]).length = l.length + 1 := by simp
  have HLL := Lib.hid hll
  have hlb : (l ++ [(3 : UInt8)]).length ≤ 800000001 := by omega
  clear hll
  go_wp2_with (at_builtin; go_must (refine wpList_append_lies _ (by rfl) _ _ _ (by rfl) B 5 i0 _ 1 1 Tryd.underlying25 hi0 hz0 hz1 hz2 rfl (by omega) (.slice (some ⟨g, 0, none⟩) (l.length + 1) cap) (l ++ [3]).length (bytesC (l ++ [3])) (by first | rfl | (rw [HLL.out])) (HX.out.own.alloc _) ⟨_, 0, none⟩ 1 1 (bytesC [1]) (by rfl) (by rfl) (World.news_of_block (cs := #[.int .u8 1]) (t := 5) (fr := (0, 0)) (heap_alloc_new _ _)) (bytesC_one _) (by omega) (by unfold maxLen; omega) (by omega) (by simp; omega) _ rfl ?_; intro g2 cap2 w8 hown8 hgrow8 hat8 hlt8))
  go_ret
  refine ⟨_, rfl, ?_⟩
  have h := Ext8.pre HB1.out (HX.out.trans (Ext8.app (m := [1]) rfl hown8 hgrow8 hat8))
  have e : (l ++ [(3 : UInt8)]).length + [(1 : UInt8)].length = l.length + 1 + 1 := by simp
  rw [e, List.append_assoc, ← valE_yes] at h
  exact h

end Go.Proofs.YtmdhacboegmccaaDoor
