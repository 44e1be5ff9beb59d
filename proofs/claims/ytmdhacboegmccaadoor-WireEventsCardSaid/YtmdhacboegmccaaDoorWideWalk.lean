/- The laws' wide and tight, for every event. -/
import Derived.Test.YtmdhacboegmccaaDoorWide
namespace Go.Proofs.YtmdhacboegmccaaDoor
open Go Go.RowKit

/-- What wide answers. -/
def WideTo (e : Ev) (w : World) (en : Ending) (w' : World) : Prop :=
  ∃ g r, en = .returned (.tuple #[evV e (some ⟨g, 0, none⟩) (e.vals.length + 34), .slice (some ⟨g, 0, none⟩) (e.vals.length + 34) (e.vals.length + 34)]) ∧ VRow w' w.heap.size g r ∧ r.length = e.vals.length + 34 ∧ (∀ i (h : i < r.length), r[i] = wideAt e.vals i) ∧ Below w.heap.size w w'

set_option maxHeartbeats 8000000 in
set_option maxRecDepth 100000 in
theorem wide_any (e : Ev) (va : Option Addr) (cap : Nat) (w : World) (hva : ValsIn w.heap.size w va e.vals) (hn : e.vals.length ≤ 3518437208780) :
    Calls Tryd.prog 26 #[evV e va cap] w (WideTo e w) := by
  obtain ⟨i0, hi0, hz0, hz1, hz2⟩ := info_parts Tryd.infoVal
  obtain ⟨W1, hW1⟩ : ∃ W1, W1 = (w.alloc (Obj.cells #[.string e.ty, .int .i64 e.time, .slice va e.vals.length cap] 24)).alloc (Obj.cells #[.string ⟨#[]⟩, .int .i64 0, .slice none 0 0] 24) := ⟨_, rfl⟩
  have hb1 : Below w.heap.size w W1 := by rw [hW1]; exact ((Below.refl _ _).alloc (Nat.le_refl _) _).alloc (by simp) _
  have HB1 := Lib.hid hb1
  have hz1' : w.heap.size + 1 + 1 = W1.heap.size := by rw [hW1]; simp
  have HV1 := Lib.hid (hva.below hb1 (Nat.le_refl _))
  have hyA : W1.heap[w.heap.size + 1]? = some (Obj.cells #[.string ⟨#[]⟩, .int .i64 0, .slice none 0 0] 24 (0, 0)) := by
    have := heap_alloc_new (w.alloc (Obj.cells #[.string e.ty, .int .i64 e.time, .slice va e.vals.length cap] 24)) (Obj.cells #[.string ⟨#[]⟩, .int .i64 0, .slice none 0 0] 24)
    rw [World.size_alloc] at this
    rw [hW1]
    exact this
  have HE := Lib.hid (show Cells3 W1 w.heap.size (.string e.ty) (.int .i64 e.time) (.slice va e.vals.length cap) by rw [hW1]; exact (Cells3.made _ _ _ _ _).keep (Below.heap_alloc _ _ _ (by simp)))
  have HA := Lib.hid (Cells3.of hyA)
  have HW1 := Lib.hid hW1
  obtain ⟨ty, tm, vals⟩ := e
  simp only [evV] at *
  have c2 := HE.out.c2
  obtain ⟨N, hN⟩ : ∃ N, N = vals.length + 34 := ⟨_, rfl⟩
  have hN1 : (vals.length : Int) + 34 = (N : Int) := by omega
  have hN2 : N ≤ 3518437208814 := by omega
  have hN3 : vals.length ≤ N := by omega
  have HN := Lib.hid hN
  have HZ1 := Lib.hid hz1'
  have hzw : w.heap.size + 1 < W1.heap.size := by omega
  clear hva hb1 hW1 hyA hN hz1'
  go_enter Tryd.func26, Tryd.ntmps26
  go_upto_region 1 with fail
  rw [← HW1.out]
  go_upto_region 3 with (at_make; refine wpList_make_full _ rfl _ _ 22 rfl W1.heap.size 95 i0 _ 4 Tryd.underlying22 hi0 hz0 hz1 .i64 .i64 _ _ N rfl rfl (by first | rfl | exact hN1) (by first | rfl | exact hN1) (by rw [hz2]; omega) (by unfold maxLen; omega) (Nat.le_refl _) ?_; intro w2 hown2 hgrow2)
  obtain ⟨g, hg⟩ : ∃ g, g = W1.heap.size := ⟨_, rfl⟩
  have HC2 := Lib.hid (show VRow w2 W1.heap.size g (List.replicate N zeroVal) by rw [hg]; exact vrow_made hown2)
  have hb2 : Below W1.heap.size W1 w2 := below_of_grown hgrow2 rfl
  have HB2 := Lib.hid hb2
  have hgl : W1.heap.size ≤ g := by omega
  rw [← hg]
  have HG := Lib.hid hg
  clear hown2 hgrow2 hb2 hg
  go_wp2_with fail
  have HE2 := Lib.hid (HE.out.below HB2.out)
  have HA2 := Lib.hid (HA.out.below HB2.out)
  have HV2 := Lib.hid ((HV1.out.below HB2.out (by omega)).mono (show w.heap.size ≤ W1.heap.size by omega))
  have l2 : (vals.length : Int) ≤ 3518437208780 := by omega
  have hgr : W1.heap.size ≤ w2.heap.size := HB2.out.size
  clear c2
  go_loopw [6] (fun i wr => ∃ (k : Nat) (r : List Val), k ≤ N ∧ i = .int .i64 k ∧ VRow wr W1.heap.size g r ∧ r.length = N ∧ (∀ j (h : j < r.length), j < k → r[j] = wideAt vals j) ∧ Below W1.heap.size W1 wr) (fun i _ => N - (intOf i).toNat)
  case atStart => exact ⟨0, List.replicate N zeroVal, Nat.zero_le _, rfl, HC2.out, List.length_replicate .., fun j _ h => by omega, HB2.out⟩
  case round =>
    obtain ⟨k, r, hk, rfl, hc, hr, hall, hbel⟩ := hrel
    have HC := Lib.hid hc
    have HALL := Lib.hid hall
    have HBE := Lib.hid hbel
    have HR := Lib.hid hr
    have HEr := Lib.hid (HE.out.below hbel)
    have HVr := Lib.hid (HV1.out.below hbel (by omega))
    have zr := hbel.size
    clear hc hall hbel hr
    by_cases hlt : k < N
    · have k0 : (0 : Int) ≤ (k : Int) := by omega
      have k1 : (k : Int) < (N : Int) := by omega
      have hMK := Lib.hid (mark_any ((k : Int) - (vals.length : Int)) wr (by omega) (by omega))
      go_wp2_with fail
      (with_reducible refine hMK.out.mono ?_); rintro en w3 ⟨rfl, hb3⟩
      have HC3 := Lib.hid (HC.out.below hb3)
      have HB3 := Lib.hid (HBE.out.trans (hb3.mono zr))
      obtain ⟨x0, x1, x2, x3⟩ := HC3.out.c k (by have := HR.out; omega)
      have f0 := HC3.out.f (k * 4) (by have := HR.out; omega)
      have f1 := HC3.out.f (k * 4 + 1) (by have := HR.out; omega)
      have f2 := HC3.out.f (k * 4 + 2) (by have := HR.out; omega)
      have f3 := HC3.out.f (k * 4 + 3) (by have := HR.out; omega)
      clear hb3
      obtain ⟨W4, hW4⟩ : ∃ W4, W4 = storeV w3 g k (markV ((k : Int) - (vals.length : Int))) := ⟨_, rfl⟩
      have HC4 := Lib.hid (show VRow W4 W1.heap.size g (r.set k (markV ((k : Int) - (vals.length : Int)))) by rw [hW4]; exact HC3.out.set k (by have := HR.out; omega) _)
      have HB4 := Lib.hid (show Below W1.heap.size W1 W4 by rw [hW4]; exact storeV_below HB3.out hgl)
      unfold storeV markV at hW4
      simp only at hW4
      have HW4 := Lib.hid hW4
      clear hW4
      go_upto_region 7 with fail
      rw [← HW4.out]
      clear x0 x1 x2 x3 f0 f1 f2 f3
      have HEr4 := Lib.hid (HE.out.below HB4.out)
      by_cases hkl : k < vals.length
      · have l1 : (k : Int) < (vals.length : Int) := by omega
        obtain ⟨b, o, rfl, hbB, hc4⟩ : ∃ b o, va = some ⟨b, o, none⟩ ∧ b < w.heap.size ∧ ∀ i (h : i < vals.length), W4.cell? ⟨b, o + i * 4, none⟩ = some (.int .i64 vals[i].kind) ∧ W4.cell? ⟨b, o + i * 4 + 1, none⟩ = some (.int .i64 vals[i].int) ∧ W4.cell? ⟨b, o + i * 4 + 2, none⟩ = some (.string vals[i].str) ∧ W4.cell? ⟨b, o + i * 4 + 3, none⟩ = some (.bool vals[i].bool) := by
          rcases HV1.out.below HB4.out (by omega) with h | h
          · rw [h] at hkl; simp at hkl
          · exact h
        obtain ⟨v0, v1, v2, v3⟩ := hc4 k hkl
        have HRA := Lib.hid (wideAt_in vals k hkl)
        obtain ⟨⟨vk, vi, vs, vb⟩, hv⟩ : ∃ a, a = vals[k] := ⟨_, rfl⟩
        rw [← hv] at v0 v1 v2 v3 HRA
        simp only at v0 v1 v2 v3
        clear hc4 hv
        have c2 := HEr4.out.c2
        have hrl : k < (r.set k (markV ((k : Int) - (vals.length : Int)))).length := by rw [List.length_set]; have := HR.out; omega
        obtain ⟨x0, x1, x2, x3⟩ := HC4.out.c k hrl
        have f0 := HC4.out.f (k * 4) (by omega)
        have f1 := HC4.out.f (k * 4 + 1) (by omega)
        have f2 := HC4.out.f (k * 4 + 2) (by omega)
        have f3 := HC4.out.f (k * 4 + 3) (by omega)
        rw [List.getElem_set_self] at x0 x1 x2 x3
        obtain ⟨W5, hW5⟩ : ∃ W5, W5 = storeV W4 g k ⟨vk, vi, vs, vb⟩ := ⟨_, rfl⟩
        have HC5 := Lib.hid (show VRow W5 W1.heap.size g ((r.set k (markV ((k : Int) - (vals.length : Int)))).set k ⟨vk, vi, vs, vb⟩) by rw [hW5]; exact HC4.out.set k hrl _)
        have HB5 := Lib.hid (show Below W1.heap.size W1 W5 by rw [hW5]; exact storeV_below HB4.out hgl)
        unfold storeV at hW5
        simp only at hW5
        have HW5 := Lib.hid hW5
        clear hW5 hrl
        go_upto_region 5 with fail
        rw [← HW5.out]
        clear x0 x1 x2 x3 f0 f1 f2 f3 v0 v1 v2 v3 c2
        go_wp2_with fail
        go_roundw
        case rel =>
          refine ⟨k + 1, (r.set k (markV ((k : Int) - (vals.length : Int)))).set k ⟨vk, vi, vs, vb⟩, by omega, by go_num, HC5.out, by rw [List.length_set, List.length_set]; exact HR.out, fun j h hj => ?_, HB5.out⟩
          rw [List.length_set, List.length_set] at h
          by_cases e : k = j
          · subst e
            rw [HRA.out]
            simp
          · simp only [List.getElem_set, e, if_false]
            exact HALL.out j h (by omega)
        case measure => simp [intOf]; omega
      · have l1 : ¬ (k : Int) < (vals.length : Int) := by omega
        have HRA := Lib.hid (wideAt_out vals k hkl)
        go_wp2_with fail
        go_roundw
        case rel =>
          refine ⟨k + 1, r.set k (markV ((k : Int) - (vals.length : Int))), by omega, by go_num, HC4.out, by rw [List.length_set]; exact HR.out, fun j h hj => ?_, HB4.out⟩
          rw [List.length_set] at h
          by_cases e : k = j
          · subst e
            rw [HRA.out]
            simp
          · simp only [List.getElem_set, e, if_false]
            exact HALL.out j h (by omega)
        case measure => simp [intOf]; omega
    · have k1 : ¬ (k : Int) < (N : Int) := by omega
      have HAr := Lib.hid (HA.out.below HBE.out)
      have c2 := HEr.out.c2
      have g2 := HEr.out.f2
      have hne : w.heap.size + 1 ≠ w.heap.size := by omega
      obtain ⟨W5, hW5⟩ : ∃ W5, W5 = wr.setCell ⟨w.heap.size, 2, none⟩ (.slice (some ⟨g, 0, none⟩) vals.length N) := ⟨_, rfl⟩
      have HE5 := Lib.hid (show Cells3 W5 w.heap.size (.string ty) (.int .i64 tm) (.slice (some ⟨g, 0, none⟩) vals.length N) by rw [hW5]; exact HEr.out.set2 _)
      have HA5 := Lib.hid (show Cells3 W5 (w.heap.size + 1) (.string ⟨#[]⟩) (.int .i64 0) (.slice none 0 0) by rw [hW5]; exact HAr.out.other (a := ⟨w.heap.size, 2, none⟩) hne _)
      have HC5 := Lib.hid (show VRow W5 W1.heap.size g r by rw [hW5]; exact HC.out.keep (Below.heap_setCell _ _ _ _ (by simp only; omega)) (by simp [World.setCell]))
      have HB5 := Lib.hid (show Below w.heap.size w W5 by rw [hW5]; exact (HB1.out.trans (HBE.out.mono (by omega))).setCell (Nat.le_refl _) _)
      have HW5 := Lib.hid hW5
      have HRR := Lib.hid (show ∀ i (h : i < r.length), r[i] = wideAt vals i from fun i h => HALL.out i h (by have := HR.out; omega))
      clear hW5
      go_upto_region 10 with fail
      rw [← HW5.out]
      clear c2 g2
      have e0 := HE5.out.c0
      have e1 := HE5.out.c1
      have e2 := HE5.out.c2
      have a0 := HA5.out.c0
      have a1 := HA5.out.c1
      have a2 := HA5.out.c2
      have b0 := HA5.out.f0
      have b1 := HA5.out.f1
      have b2 := HA5.out.f2
      go_wp2_with fail
      refine bodyPost_ret (v := .tuple #[.agg #[.string ty, .int .i64 tm, .slice (some ⟨g, 0, none⟩) vals.length N], .slice (some ⟨g, 0, none⟩) N N]) (by simp [results, Tryd.results26, go_sem, a0, a1, a2]) rfl ⟨g, r, by simp only [evV, HN.out], ?_, by rw [HR.out, HN.out], HRR.out, ?_⟩
      · have h := HC5.out
        exact ⟨((h.keep (w' := ((W5.setCell ⟨w.heap.size + 1, 0, none⟩ (.string ty)).setCell ⟨w.heap.size + 1, 1, none⟩ (.int .i64 tm)).setCell ⟨w.heap.size + 1, 2, none⟩ (.slice (some ⟨g, 0, none⟩) vals.length N)) (by rw [Below.heap_setCell _ _ _ _ (by simp only; omega), Below.heap_setCell _ _ _ _ (by simp only; omega), Below.heap_setCell _ _ _ _ (by simp only; omega)]) (by simp [World.setCell]))).c, ((h.keep (w' := ((W5.setCell ⟨w.heap.size + 1, 0, none⟩ (.string ty)).setCell ⟨w.heap.size + 1, 1, none⟩ (.int .i64 tm)).setCell ⟨w.heap.size + 1, 2, none⟩ (.slice (some ⟨g, 0, none⟩) vals.length N)) (by rw [Below.heap_setCell _ _ _ _ (by simp only; omega), Below.heap_setCell _ _ _ _ (by simp only; omega), Below.heap_setCell _ _ _ _ (by simp only; omega)]) (by simp [World.setCell]))).f, by omega, by simp [World.setCell]; exact h.lt⟩
      · exact ((HB5.out.setCell (by simp) _).setCell (by simp) _).setCell (by simp) _
end Go.Proofs.YtmdhacboegmccaaDoor
