/- Package wire: Decode, for any bytes. -/
import Derived.Test.YtmdhacboegmccaaDoorREvent
namespace Go.Proofs.YtmdhacboegmccaaDoor
open Go Go.RowKit

theorem RdTo.fresh {rb B : Nat} {w W w' : World} {r : Rd} (hb : Below w.heap.size w W) (h : RdTo rb B W w' r) (hrb : w.heap.size ≤ rb) : Below w.heap.size w w' :=
  hb.grown h.grown hb.size (fun k e => by cases e; exact hrb)

set_option maxHeartbeats 8000000 in
set_option maxRecDepth 100000 in
theorem decode_core (l : List UInt8) (ao : Option Addr) (cap : Nat) (w : World) (hres : ResAt w) (hb : BytesAt w ao l) (hlc : l.length ≤ cap) (hcm : cap ≤ maxLen) :
    Calls Tryd.prog 17 #[.slice ao l.length cap] w fun en w' => (((eventR ⟨l, 0⟩).2.fault = 0 ∧ ∃ g c, en = .returned (.tuple #[.agg #[.string (eventR ⟨l, 0⟩).1.ty, .int .i64 (eventR ⟨l, 0⟩).1.time, .slice (some ⟨g, 0, none⟩) (eventR ⟨l, 0⟩).1.vals.length c], .int .i64 ((l.length : Int) - ((eventR ⟨l, 0⟩).2.rest.length : Int)), .int .i64 0]) ∧ w'.ownsRow w.heap.size 95 4 (.slice (some ⟨g, 0, none⟩) (eventR ⟨l, 0⟩).1.vals.length c) (eventR ⟨l, 0⟩).1.vals.length (valCells (eventR ⟨l, 0⟩).1.vals)) ∨ ((eventR ⟨l, 0⟩).2.fault ≠ 0 ∧ en = .returned (.tuple #[.agg #[.string ⟨#[]⟩, .int .i64 0, .slice none 0 0], .int .i64 0, .int .i64 (eventR ⟨l, 0⟩).2.fault]))) ∧ Below w.heap.size w w' := by
  obtain ⟨W1, hW1⟩ : ∃ W1, W1 = (w.alloc (Obj.cells #[.string ⟨#[]⟩, .int .i64 0, .slice none 0 0] 24)).alloc (Obj.cells #[.slice ao l.length cap, .int .i64 0] 88) := ⟨_, rfl⟩
  have hb1 : Below w.heap.size w W1 := by rw [hW1]; exact ((Below.refl _ _).alloc (Nat.le_refl _) _).alloc (by simp) _
  have hz1 : w.heap.size + 2 = W1.heap.size := by rw [hW1]; simp
  have hy : W1.heap[w.heap.size + 1]? = some (Obj.cells #[.slice ao l.length cap, .int .i64 0] 88 (0, 0)) := by
    have := heap_alloc_new (w.alloc (Obj.cells #[.string ⟨#[]⟩, .int .i64 0, .slice none 0 0] 24)) (Obj.cells #[.slice ao l.length cap, .int .i64 0] 88)
    rw [World.size_alloc] at this
    rw [hW1]
    exact this
  have hy1 : W1.heap[w.heap.size]? = some (Obj.cells #[.string ⟨#[]⟩, .int .i64 0, .slice none 0 0] 24 (0, 0)) := by
    rw [hW1, Below.heap_alloc _ _ _ (by simp)]
    exact heap_alloc_new w _
  have hr1 : RdAt W1 (w.heap.size + 1) w.heap.size ⟨l, 0⟩ := by
    refine ⟨⟨ao, cap, by simp [World.cell?, hy], hlc, hcm, ?_⟩, by simp [World.cell?, hy], by simp [World.frozen?, hy], by simp [World.frozen?, hy]⟩
    rcases hb with h | ⟨b, o, rfl, h⟩
    · exact Or.inl h
    · cases l with
      | nil => exact Or.inl rfl
      | cons x l =>
        have hl := World.block_lt_of_cell? w _ (h 0 (by simp))
        simp only at hl
        exact Or.inr ⟨b, o, rfl, by omega, hl, fun i hi => (hb1.cell (p := ⟨b, o + i, none⟩) hl).trans (h i hi)⟩
  have HR1 := Lib.hid hr1
  have HA1 := Lib.hid (Cells3.of hy1)
  have HRES := Lib.hid (hres.below hb1)
  have HB1 := Lib.hid hb1
  have hg := hres.lt
  have hrb : 0 ≠ w.heap.size + 1 := by omega
  have HW1 := Lib.hid hW1
  obtain ⟨⟨ev, r'⟩, hev⟩ : ∃ x, x = eventR ⟨l, 0⟩ := ⟨_, rfl⟩
  have HEV := Lib.hid (event_any (w.heap.size + 1) w.heap.size ⟨l, 0⟩ W1 HRES.out HR1.out (by omega) hrb)
  rw [← hev] at HEV ⊢
  simp only at HEV ⊢
  clear hres hb hb1 hy hy1 hr1 hW1 hev
  unfold maxLen at hcm
  go_enter Tryd.func17, Tryd.ntmps17
  go_upto_region 2 with fail
  rw [← HW1.out]
  go_wp2_with fail
  (refine HEV.out.mono ?_); rintro e w2 ⟨⟨g, c, rfl, hown⟩, hto⟩
  have HTO := Lib.hid hto
  have HOWN := Lib.hid hown
  have hz2 := hto.grown.size
  have hA2 := HA1.out.to hto (by omega)
  have hE2 := Cells3.made w2 (.string ev.ty) (.int .i64 ev.time) (.slice (some ⟨g, 0, none⟩) ev.vals.length c) 24
  obtain ⟨W3, hW3⟩ : ∃ W3, W3 = w2.alloc (Obj.cells #[.string ev.ty, .int .i64 ev.time, .slice (some ⟨g, 0, none⟩) ev.vals.length c] 24) := ⟨_, rfl⟩
  obtain ⟨E, hE⟩ : ∃ E, E = w2.heap.size := ⟨_, rfl⟩
  have hb3 : Below w2.heap.size w2 W3 := by rw [hW3]; exact (Below.refl _ _).alloc (Nat.le_refl _) _
  rw [← hW3, ← hE] at hE2
  have HE3 := Lib.hid hE2
  have HA3 := Lib.hid (hA2.below hb3)
  have HR3 := Lib.hid (hto.at'.below hb3)
  have HB3 := Lib.hid ((RdTo.fresh HB1.out hto (by omega)).trans (hb3.mono (by omega)))
  have HO3 := Lib.hid (owns_below hown hb3)
  have hEA : w.heap.size ≠ E := by omega
  have HW3 := Lib.hid hW3
  have HEE := Lib.hid hE
  clear hto hown hA2 hE2 hW3 hE hb3
  go_upto_region 3 with fail
  rw [← HW3.out, ← HEE.out]
  obtain ⟨ao', cap', c0, hc', hcm', _⟩ := HR3.out.ex
  have c1 := HR3.out.c1
  have e0 := HE3.out.c0
  have e1 := HE3.out.c1
  have e2 := HE3.out.c2
  have a0 := HA3.out.c0
  have a1 := HA3.out.c1
  have a2 := HA3.out.c2
  have b0 := HA3.out.f0
  have b1 := HA3.out.f1
  have b2 := HA3.out.f2
  unfold maxLen at hcm'
  cases hf : (r'.fault == 0)
  · have hf2 : (r'.fault != 0) = true := by simp [bne, hf]
    have HF := Lib.hid (show r'.fault ≠ 0 by simpa using hf)
    go_wp2_with fail
    go_region
    all_goals
      go_wp2_with fail
      refine bodyPost_ret (v := .tuple #[.agg #[.string ⟨#[]⟩, .int .i64 0, .slice none 0 0], .int .i64 0, .int .i64 r'.fault]) (by simp [results, Tryd.results17, go_sem, a0, a1, a2]) rfl ⟨Or.inr ⟨HF.out, rfl⟩, ?_⟩
      exact (((HB3.out.setCell (Nat.le_refl _) _).setCell (Nat.le_refl _) _).setCell (Nat.le_refl _) _).drew
  · have HF := Lib.hid (show r'.fault = 0 by simpa using hf)
    have hf2 : (r'.fault != 0) = false := by simp [bne, hf]
    have hw : IntKind.i64.wrap ((l.length : Int) - (r'.rest.length : Int)) = (l.length : Int) - (r'.rest.length : Int) := IntWalk.i64_in _ (by omega)
    go_wp2_with fail
    go_region
    all_goals
      go_wp2_with fail
      refine bodyPost_ret (v := .tuple #[.agg #[.string ev.ty, .int .i64 ev.time, .slice (some ⟨g, 0, none⟩) ev.vals.length c], .int .i64 ((l.length : Int) - (r'.rest.length : Int)), .int .i64 0]) (by simp [results, Tryd.results17, go_sem, a0, a1, a2]) rfl ⟨Or.inl ⟨HF.out, g, c, rfl, ?_⟩, ?_⟩
      · have h := ownsRow_setCell_below (ownsRow_setCell_below (ownsRow_setCell_below HO3.out (a := ⟨w.heap.size, 0, none⟩) (by simp; omega) (.string ev.ty)) (a := ⟨w.heap.size, 1, none⟩) (by simp; omega) (.int .i64 ev.time)) (a := ⟨w.heap.size, 2, none⟩) (by simp; omega) (.slice (some ⟨g, 0, none⟩) ev.vals.length c)
        exact own_base h (by omega)
      · exact (((HB3.out.setCell (Nat.le_refl _) _).setCell (Nat.le_refl _) _).setCell (Nat.le_refl _) _).drew
end Go.Proofs.YtmdhacboegmccaaDoor
