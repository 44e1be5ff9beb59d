/- The laws' tick and begun. -/
import Derived.Test.YtmdhacboegmccaaDoorEq
namespace Go.Proofs.YtmdhacboegmccaaDoor
open Go Go.RowKit

theorem bytes_of_block {w : World} {b : Nat} {l : List UInt8} {t : TypeId} (h : w.heap[b]? = some (Obj.cells (bytesC l).toArray t (0, 0))) : BytesAt w (some ⟨b, 0, none⟩) l := by
  refine Or.inr ⟨b, 0, rfl, fun i hi => ?_⟩
  rw [Nat.zero_add, cell_of_row w b i _ t (0, 0) h]
  simpa using bytesC_get l i hi
theorem vals_of_block {w : World} {b B : Nat} {l : List Val} {t : TypeId} (hB : b < B) (h : w.heap[b]? = some (Obj.cells (valCells l).toArray t (0, 0))) : ValsIn B w (some ⟨b, 0, none⟩) l := by
  refine Or.inr ⟨b, 0, rfl, hB, fun i hi => ?_⟩
  have hg := valCells_get l i hi
  rw [Nat.zero_add, cell_of_row w b _ _ t (0, 0) h, cell_of_row w b _ _ t (0, 0) h, cell_of_row w b _ _ t (0, 0) h, cell_of_row w b _ _ t (0, 0) h]
  simpa using hg

set_option maxHeartbeats 8000000 in
set_option maxRecDepth 100000 in
theorem tick_any (w : World) : Calls Tryd.prog 44 #[] w fun en w' => (∃ g h : Nat, en = .returned (.tuple #[evV tickE (some ⟨g, 0, none⟩) 3, .slice (some ⟨h, 0, none⟩) tickB.length 15]) ∧ ValsIn w'.heap.size w' (some ⟨g, 0, none⟩) tickE.vals ∧ BytesAt w' (some ⟨h, 0, none⟩) tickB) ∧ Below w.heap.size w w' := by
  have HW := Lib.hid (show ∀ (a v e b : Obj), (((w.alloc a).alloc v).alloc e).heap.size = w.heap.size + 1 + 1 + 1 ∧ ((((w.alloc a).alloc v).alloc e).alloc b).heap[w.heap.size + 1]? = some v ∧ ((((w.alloc a).alloc v).alloc e).alloc b).heap[w.heap.size + 1 + 1 + 1]? = some b ∧ Below w.heap.size w ((((w.alloc a).alloc v).alloc e).alloc b) by
    intro a v e b
    have h1 := heap_alloc_new (w.alloc a) v
    have h2 := heap_alloc_new (((w.alloc a).alloc v).alloc e) b
    rw [World.size_alloc] at h1
    rw [World.size_alloc, World.size_alloc, World.size_alloc] at h2
    refine ⟨by simp, ?_, h2, ((((Below.refl _ w).alloc (Nat.le_refl _) a).alloc (by simp) v).alloc (by simp; omega) e).alloc (by simp; omega) b⟩
    rw [Below.heap_alloc _ _ _ (by simp), Below.heap_alloc _ _ _ (by simp)]
    exact h1)
  go_enter Tryd.func44, Tryd.ntmps44
  go_wp2_with fail
  obtain ⟨_, h2, h3, h4⟩ := HW.out (Obj.cells #[.string ⟨#[84, 105, 99, 107]⟩, .int .i64 5, .slice (some ⟨w.heap.size + 1, 0, none⟩) 3 3] 24) (Obj.cells (valCells tickE.vals).toArray 95) (Obj.cells #[.string ⟨#[84, 105, 99, 107]⟩, .int .i64 5, .slice (some ⟨w.heap.size + 1, 0, none⟩) 3 3] 24) (Obj.cells (bytesC tickB).toArray 5)
  refine bodyPost_ret (v := .tuple #[.agg #[.string ⟨#[84, 105, 99, 107]⟩, .int .i64 5, .slice (some ⟨w.heap.size + 1, 0, none⟩) 3 3], .slice (some ⟨w.heap.size + 1 + 1 + 1, 0, none⟩) 15 15]) (by simp [results, Tryd.results44, go_sem]) rfl ⟨⟨w.heap.size + 1, w.heap.size + 1 + 1 + 1, rfl, ?_, ?_⟩, h4⟩
  · exact vals_of_block (by simp) h2
  · exact bytes_of_block h3

theorem owned_bytes {w : World} {B : Nat} {v : Value} {l : List UInt8} (h : w.ownsRow B 5 1 v l.length (bytesC l)) : ∃ ao cap, v = .slice ao l.length cap ∧ BytesAt w ao l ∧ l.length ≤ cap ∧ cap ≤ maxLen := by
  rcases h.2 with ⟨e, h0⟩ | ⟨g, cap, cur, e, hb, hh, hn, hc, hs, ht⟩
  · refine ⟨none, 0, by rw [e, h0], Or.inl (List.eq_nil_of_length_eq_zero h0), by omega, by unfold maxLen; omega⟩
  · refine ⟨some ⟨g, 0, none⟩, cap, e, Or.inr ⟨g, 0, rfl, fun i hi => ?_⟩, hn, hc⟩
    have hg := bytesC_get l i hi
    rw [← ht, List.getElem?_take, if_pos (by omega)] at hg
    rw [Nat.zero_add, cell_of_row w g i _ _ (0, 0) hh]
    simpa using hg
theorem owned_vals {w : World} {B g cap : Nat} {l : List Val} (h : w.ownsRow B 95 4 (.slice (some ⟨g, 0, none⟩) l.length cap) l.length (valCells l)) : ValsIn w.heap.size w (some ⟨g, 0, none⟩) l := by
  rcases h.2 with ⟨e, h0⟩ | ⟨g', cap', cur, e, hb, hh, hn, hc, hs, ht⟩
  · cases e
  · cases e
    refine Or.inr ⟨g, 0, rfl, (Array.getElem?_eq_some_iff.1 hh).1, fun i hi => ?_⟩
    have hg := valCells_get l i hi
    rw [← ht] at hg
    rw [List.getElem?_take, List.getElem?_take, List.getElem?_take, List.getElem?_take, if_pos (by omega), if_pos (by omega), if_pos (by omega), if_pos (by omega)] at hg
    rw [Nat.zero_add, cell_of_row w g _ _ _ (0, 0) hh, cell_of_row w g _ _ _ (0, 0) hh, cell_of_row w g _ _ _ (0, 0) hh, cell_of_row w g _ _ _ (0, 0) hh]
    simpa using hg
theorem event_there (e : Ev) (r : List UInt8) (h : evOk e) : eventR ⟨evE e ++ r, 0⟩ = (e, ⟨r, 0⟩) := event_codec.there e r h
theorem tick_read : eventR ⟨tickB, 0⟩ = (tickE, ⟨[], 0⟩) := by
  have h := event_there tickE [] tick_ok
  rw [tick_form, List.append_nil] at h
  exact h
/-- Decode of what is read as an event. -/
theorem decode_ok (l : List UInt8) (e : Ev) (r : List UInt8) (ao : Option Addr) (cap : Nat) (w : World) (hres : ResAt w) (hb : BytesAt w ao l) (hlc : l.length ≤ cap) (hcm : cap ≤ maxLen) (he : eventR ⟨l, 0⟩ = (e, ⟨r, 0⟩)) :
    Calls Tryd.prog 17 #[.slice ao l.length cap] w fun en w' => (∃ g c, en = .returned (.tuple #[evV e (some ⟨g, 0, none⟩) c, .int .i64 ((l.length : Int) - (r.length : Int)), .int .i64 0]) ∧ w'.ownsRow w.heap.size 95 4 (.slice (some ⟨g, 0, none⟩) e.vals.length c) e.vals.length (valCells e.vals)) ∧ Below w.heap.size w w' := by
  refine (decode_core l ao cap w hres hb hlc hcm).mono fun en w' ⟨h, hb⟩ => ⟨?_, hb⟩
  rw [he] at h
  rcases h with ⟨_, h⟩ | ⟨h, _⟩
  · exact h
  · exact absurd rfl h
/-- Decode of what is refused. -/
theorem decode_no (l : List UInt8) (ao : Option Addr) (cap : Nat) (w : World) (hres : ResAt w) (hb : BytesAt w ao l) (hlc : l.length ≤ cap) (hcm : cap ≤ maxLen) (he : (eventR ⟨l, 0⟩).2.fault ≠ 0) :
    Calls Tryd.prog 17 #[.slice ao l.length cap] w fun en w' => en = .returned (.tuple #[.agg #[.string ⟨#[]⟩, .int .i64 0, .slice none 0 0], .int .i64 0, .int .i64 (eventR ⟨l, 0⟩).2.fault]) ∧ Below w.heap.size w w' := by
  refine (decode_core l ao cap w hres hb hlc hcm).mono fun en w' ⟨h, hb⟩ => ⟨?_, hb⟩
  rcases h with ⟨h, _⟩ | ⟨_, h⟩
  · exact absurd h he
  · exact h

set_option maxHeartbeats 8000000 in
set_option maxRecDepth 100000 in
theorem begun_any (w : World) (hres : ResAt w) : Calls Tryd.prog 11 #[] w fun en w' => en = .returned (.bool true) ∧ Below w.heap.size w w' := by
  have HRES := Lib.hid hres
  clear hres
  go_enter Tryd.func11, Tryd.ntmps11
  go_wp2_with fail
  refine (tick_any w).mono ?_; rintro e w1 ⟨⟨g, h, rfl, hv, hby⟩, hb1⟩
  simp only [evV]
  obtain ⟨W2, hW2⟩ : ∃ W2, W2 = w1.alloc (Obj.cells #[.string tickE.ty, .int .i64 tickE.time, .slice (some ⟨g, 0, none⟩) tickE.vals.length 3] 24) := ⟨_, rfl⟩
  obtain ⟨T, hT⟩ : ∃ T, T = w1.heap.size := ⟨_, rfl⟩
  have hb2 : Below w1.heap.size w1 W2 := by rw [hW2]; exact (Below.refl _ _).alloc (Nat.le_refl _) _
  have HT2 := Lib.hid (show Cells3 W2 T (.string tickE.ty) (.int .i64 tickE.time) (.slice (some ⟨g, 0, none⟩) tickE.vals.length 3) by rw [hW2, hT]; exact Cells3.made _ _ _ _ _)
  have HV2 := Lib.hid ((hv.below hb2 (Nat.le_refl _)).mono hb2.size)
  have HY2 := Lib.hid (hby.below hb2)
  have HB2 := Lib.hid (hb1.trans (hb2.mono hb1.size))
  have HW2 := Lib.hid hW2
  have HTE := Lib.hid hT
  clear hv hby hb1 hb2 hW2 hT
  go_upto_region 2 with fail
  rw [← HW2.out, ← HTE.out]
  have t0 := HT2.out.c0
  have t1 := HT2.out.c1
  have t2 := HT2.out.c2
  go_wp2_with fail
  clear t0 t1 t2
  refine (encode_ok tickE (some ⟨g, 0, none⟩) 3 W2 (HRES.out.below HB2.out) HV2.out (by decide) tick_ok ((evFault_ok tickE (fun a ha => (tick_ok.2.2.2 a ha).2)).2 tick_ok)).mono ?_; rintro e w3 ⟨v3, rfl, ho3, hb3⟩
  rw [tick_form] at ho3
  have HB3 := Lib.hid (HB2.out.trans (hb3.mono HB2.out.size))
  have HT3 := Lib.hid (HT2.out.below hb3)
  have HV3 := Lib.hid ((HV2.out.below hb3 (Nat.le_refl _)))
  have HZ23 := Lib.hid hb3.size
  have HY3 := Lib.hid (HY2.out.below hb3)
  have HO3 := Lib.hid ho3
  clear hb3 ho3
  go_wp2_with fail
  refine (decode_ok tickB tickE [] (some ⟨h, 0, none⟩) 15 w3 (HRES.out.below HB3.out) HY3.out (by decide) (by decide) tick_read).mono ?_; rintro e w4 ⟨⟨g4, c4, rfl, ho4⟩, hb4⟩
  have HB4 := Lib.hid (HB3.out.trans (hb4.mono HB3.out.size))
  have HT4 := Lib.hid (HT3.out.below hb4)
  have HV4 := Lib.hid (HV3.out.below hb4 HZ23.out)
  have HY4 := Lib.hid (HY3.out.below hb4)
  have HO4 := Lib.hid (owns_below HO3.out hb4)
  have HU4 := Lib.hid (owned_vals ho4)
  clear ho4
  simp only [evV]
  obtain ⟨W5, hW5⟩ : ∃ W5, W5 = w4.alloc (Obj.cells #[.string tickE.ty, .int .i64 tickE.time, .slice (some ⟨g4, 0, none⟩) tickE.vals.length c4] 24) := ⟨_, rfl⟩
  obtain ⟨U, hU⟩ : ∃ U, U = w4.heap.size := ⟨_, rfl⟩
  have hb5 : Below w4.heap.size w4 W5 := by rw [hW5]; exact (Below.refl _ _).alloc (Nat.le_refl _) _
  have HU5 := Lib.hid (show Cells3 W5 U (.string tickE.ty) (.int .i64 tickE.time) (.slice (some ⟨g4, 0, none⟩) tickE.vals.length c4) by rw [hW5, hU]; exact Cells3.made _ _ _ _ _)
  have HT5 := Lib.hid (HT4.out.below hb5)
  have HV5 := Lib.hid (HV4.out.below hb5 (Nat.le_trans HZ23.out hb4.size))
  have HX5 := Lib.hid ((HU4.out.below hb5 (Nat.le_refl _)))
  have HY5 := Lib.hid (HY4.out.below hb5)
  have HO5 := Lib.hid (owns_below HO4.out hb5)
  have HB5 := Lib.hid (HB4.out.trans (hb5.mono HB4.out.size))
  have HZ5 := Lib.hid (show W2.heap.size ≤ W5.heap.size from Nat.le_trans HZ23.out (Nat.le_trans hb4.size hb5.size))
  have HZ45 := Lib.hid hb5.size
  have HW5 := Lib.hid hW5
  have HUE := Lib.hid hU
  clear hb4 hb5 hW5 hU
  obtain ⟨ao, cc, rfl, hyo, _, _⟩ := owned_bytes HO5.out
  have HYO := Lib.hid hyo
  clear hyo
  have q15 : ((tickB.length : Int) - (([] : List UInt8).length : Int) == (tickB.length : Int)) = true := by simp
  go_upto_region 4 with fail
  rw [← HW5.out, ← HUE.out]
  go_wp2_with fail
  refine (same_same tickB (some ⟨h, 0, none⟩) ao 15 cc W5 (by decide) HY5.out HYO.out).mono ?_; rintro e w6 ⟨rfl, hb6⟩
  have HT6 := Lib.hid (HT5.out.below hb6)
  have HU6 := Lib.hid (HU5.out.below hb6)
  have HV6 := Lib.hid (HV5.out.below hb6 HZ5.out)
  have HX6 := Lib.hid (HX5.out.below hb6 HZ45.out)
  have HB6 := Lib.hid (HB5.out.trans (hb6.mono HB5.out.size))
  have HZ6 := Lib.hid hb6.size
  clear hb6
  have t0 := HT6.out.c0
  have t1 := HT6.out.c1
  have t2 := HT6.out.c2
  have u0 := HU6.out.c0
  have u1 := HU6.out.c1
  have u2 := HU6.out.c2
  go_wp2_with fail
  refine (events_same w4.heap.size W2.heap.size tickE (some ⟨g4, 0, none⟩) (some ⟨g, 0, none⟩) c4 3 w6 (by decide) (Nat.le_trans HZ45.out HZ6.out) (Nat.le_trans HZ5.out HZ6.out) HX6.out HV6.out).mono ?_; rintro e w7 ⟨rfl, hb7⟩
  go_wp2_with fail
  go_ret
  exact ⟨rfl, HB6.out.trans (hb7.mono HB6.out.size)⟩
end Go.Proofs.YtmdhacboegmccaaDoor
