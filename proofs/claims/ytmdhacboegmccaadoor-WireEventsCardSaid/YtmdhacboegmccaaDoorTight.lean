/- The laws' tight, at what wide made. -/
import Derived.Test.YtmdhacboegmccaaDoorWideWalk
namespace Go.Proofs.YtmdhacboegmccaaDoor
open Go Go.RowKit

theorem wide_take {l r : List Val} (hr : r.length = l.length + 34) (h : ∀ i (h : i < r.length), r[i] = wideAt l i) : r.take l.length = l := by
  apply List.ext_getElem
  · rw [List.length_take, hr]; omega
  · intro i h1 h2
    rw [List.getElem_take, h i (by omega), wideAt_in l i h2]

set_option maxHeartbeats 8000000 in
set_option maxRecDepth 100000 in
theorem tight_any (B : Nat) (e : Ev) (va : Option Addr) (cap g : Nat) (r : List Val) (w : World) (hva : ValsIn w.heap.size w va e.vals) (hn : e.vals.length ≤ 3518437208780) (hg : VRow w B g r) (hr : r.length = e.vals.length + 34) (hall : ∀ i (h : i < r.length), r[i] = wideAt e.vals i) :
    Calls Tryd.prog 28 #[.slice (some ⟨g, 0, none⟩) (e.vals.length + 34) (e.vals.length + 34), evV e va cap] w fun en w' => en = .returned (.bool true) ∧ Below w.heap.size w w' := by
  obtain ⟨W1, hW1⟩ : ∃ W1, W1 = w.alloc (Obj.cells #[.string e.ty, .int .i64 e.time, .slice va e.vals.length cap] 24) := ⟨_, rfl⟩
  have hb1 : Below w.heap.size w W1 := by rw [hW1]; exact (Below.refl _ _).alloc (Nat.le_refl _) _
  have HB1 := Lib.hid hb1
  have hz1 : w.heap.size < W1.heap.size := by rw [hW1]; simp
  have HV1 := Lib.hid (hva.below hb1 (Nat.le_refl _))
  have HG1 := Lib.hid (hg.below hb1)
  have HE := Lib.hid (show Cells3 W1 w.heap.size (.string e.ty) (.int .i64 e.time) (.slice va e.vals.length cap) by rw [hW1]; exact Cells3.made _ _ _ _ _)
  have HW1 := Lib.hid hW1
  have HTK := Lib.hid (wide_take hr hall)
  have HALL := Lib.hid hall
  have HR := Lib.hid hr
  have hgw := hg.lt
  obtain ⟨ty, tm, vals⟩ := e
  simp only [evV] at *
  have c2 := HE.out.c2
  obtain ⟨N, hN⟩ : ∃ N, N = vals.length + 34 := ⟨_, rfl⟩
  have hN1 : (vals.length : Int) + 34 = (N : Int) := by omega
  have e1 : IntKind.i64.wrap (N : Int) = (N : Int) := IntWalk.i64_in _ (by omega)
  have hN2 : N ≤ 3518437208814 := by omega
  have hN3 : vals.length ≤ N := by omega
  have l1 : (vals.length : Int) ≤ (N : Int) := by omega
  have l0 : (0 : Int) ≤ (vals.length : Int) := by omega
  have l2 : (vals.length : Int) ≤ 3518437208780 := by omega
  rw [← hN]
  have HN := Lib.hid hN
  have HVS := Lib.hid (fun (W : World) (hb : Below W1.heap.size W1 W) => vals_same W.heap.size W.heap.size vals (some ⟨g, 0, none⟩) va N cap W (by unfold maxLen; omega) (by have h := ((HG1.out.below hb).at').take vals.length; rw [HTK.out] at h; exact h) (((HV1.out.below hb (by omega)).mono (by have := hb.size; omega))))
  clear hva hb1 hW1 hg hr hall hN
  go_enter Tryd.func28, Tryd.ntmps28
  go_upto_region 1 with fail
  rw [← HW1.out]
  go_wp2_with fail
  go_region_held3 (fun w' => w'.cell? ⟨w.heap.size, 2, none⟩ = some (.slice va vals.length cap))
    (first
      | go_keep
      | exact c2')
    ((first
      | (go_at_call 50; (with_reducible refine (HVS.out _ (Below.refl W1.heap.size W1).drew).mono ?_); rintro en w4 ⟨rfl, hb4⟩; have hbD := (Below.refl W1.heap.size W1).drew.trans hb4; have c2' := (hbD.cell (p := ⟨w.heap.size, 2, none⟩) hz1).trans c2)))
  have HB4 := Lib.hid hbD
  have hz4 : W1.heap.size ≤ w4.heap.size := hbD.size
  clear hbD hb4 c2 c2' e1 HVS
  go_wp2_with fail
  go_loopw [6] (fun i wr => ∃ k : Nat, vals.length ≤ k ∧ k ≤ N ∧ i = .int .i64 k ∧ Below W1.heap.size W1 wr) (fun i _ => N - (intOf i).toNat)
  case atStart => exact ⟨vals.length, Nat.le_refl _, hN3, rfl, HB4.out⟩
  case round =>
    obtain ⟨k, hk0, hk, rfl, hbel⟩ := hrel
    have HBE := Lib.hid hbel
    have HGR := Lib.hid (HG1.out.below hbel)
    have zr := hbel.size
    have k0 : (0 : Int) ≤ (k : Int) := by omega
    clear hbel
    by_cases hlt : k < N
    · have k1 : (k : Int) < (N : Int) := by omega
      have hkr : k < r.length := by rw [HR.out, ← HN.out]; exact hlt
      obtain ⟨x0, x1, x2, x3⟩ := HGR.out.c k hkr
      rw [HALL.out k hkr, wideAt_out vals k (by omega)] at x0 x1 x2 x3
      unfold markV at x0 x1 x2 x3
      simp only at x0 x1 x2 x3
      have e1 : IntKind.i64.wrap ((k : Int) - (vals.length : Int)) = (k : Int) - (vals.length : Int) := IntWalk.i64_in _ (by omega)
      have HMK := Lib.hid (fun (W : World) => mark_any ((k : Int) - (vals.length : Int)) W (by omega) (by omega))
      have hgr : g < wr.heap.size := HGR.out.lt
      clear hkr
      go_wp2_with fail
      go_region_held3 (fun w' => w'.cell? ⟨g, k * 4, none⟩ = some (.int .i64 1) ∧ w'.cell? ⟨g, k * 4 + 1, none⟩ = some (.int .i64 (77 + ((k : Int) - (vals.length : Int)))) ∧ w'.cell? ⟨g, k * 4 + 2, none⟩ = some (.string ⟨#[]⟩) ∧ w'.cell? ⟨g, k * 4 + 3, none⟩ = some (.bool false))
        (first
          | go_keep
          | exact ⟨y0, y1, y2, y3⟩)
        ((first
          | (go_at_call 54; (with_reducible refine (HMK.out _).mono ?_); rintro en w5 ⟨rfl, hb5⟩; have hbD := (Below.refl wr.heap.size wr).drew.trans hb5; have y0 := (hbD.cell (p := ⟨g, k * 4, none⟩) hgr).trans x0; have y1 := (hbD.cell (p := ⟨g, k * 4 + 1, none⟩) hgr).trans x1; have y2 := (hbD.cell (p := ⟨g, k * 4 + 2, none⟩) hgr).trans x2; have y3 := (hbD.cell (p := ⟨g, k * 4 + 3, none⟩) hgr).trans x3)))
      all_goals
        have HB5 := Lib.hid (HBE.out.trans (hbD.mono zr))
        clear hb5 hbD y0 y1 y2 y3
        go_wp2_with fail
        go_roundw
        case rel => exact ⟨k + 1, by omega, by omega, by go_num, HB5.out⟩
        case measure => simp [intOf]; omega
    · have k1 : ¬ (k : Int) < (N : Int) := by omega
      go_wp2_with fail
      go_ret
      exact ⟨rfl, HB1.out.trans (HBE.out.mono (by omega))⟩
end Go.Proofs.YtmdhacboegmccaaDoor
