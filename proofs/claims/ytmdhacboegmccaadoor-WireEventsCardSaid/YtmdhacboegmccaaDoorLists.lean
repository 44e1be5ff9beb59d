/- The laws' lists, at what is the same. -/
import Derived.Test.YtmdhacboegmccaaDoorUnpack
namespace Go.Proofs.YtmdhacboegmccaaDoor
open Go Go.RowKit

theorem evs_of_row {w : World} {B g cap : Nat} {l : List EvX} (h : w.ownsRow B 24 3 (.slice (some ⟨g, 0, none⟩) l.length cap) l.length (evCells l)) (hv : ∀ x ∈ l, VOwn B g w x) : EvsIn w.heap.size w (some ⟨g, 0, none⟩) l := by
  rcases h.2 with ⟨e, h0⟩ | ⟨g', cap', cur, e, hb, hh, hn, hc, hs, ht⟩
  · cases e
  · cases e
    refine Or.inr ⟨g, 0, rfl, (Array.getElem?_eq_some_iff.1 hh).1, fun i hi => ⟨?_, ?_⟩⟩
    · have hg := evCells_get l i hi
      rw [← ht] at hg
      rw [List.getElem?_take, List.getElem?_take, List.getElem?_take, if_pos (by omega), if_pos (by omega), if_pos (by omega)] at hg
      rw [Nat.zero_add, cell_of_row w g _ _ _ (0, 0) hh, cell_of_row w g _ _ _ (0, 0) hh, cell_of_row w g _ _ _ (0, 0) hh]
      simpa using hg
    · have hx := hv l[i] (List.getElem_mem hi)
      obtain ⟨vg, e, _⟩ := hx.there
      have ho := hx.own
      rw [e] at ho ⊢
      exact owned_vals ho

set_option maxHeartbeats 8000000 in
set_option maxRecDepth 100000 in
theorem lists_any (C D : Nat) (la lb : List EvX) (ao bo : Option Addr) (ca cb : Nat) (w : World) (ha : EvsIn C w ao la) (hb : EvsIn D w bo lb) (hx : xs la = xs lb) (hC : C ≤ w.heap.size) (hD : D ≤ w.heap.size) (hm : la.length ≤ maxLen) (hv : ∀ x ∈ la, x.ev.vals.length ≤ maxLen) :
    Calls Tryd.prog 21 #[.slice ao la.length ca, .slice bo lb.length cb] w fun en w' => en = .returned (.bool true) ∧ Below w.heap.size w w' := by
  have HA := Lib.hid ha
  have HB := Lib.hid hb
  have HV := Lib.hid hv
  have HX := Lib.hid hx
  unfold maxLen at hm
  have hll : lb.length = la.length := by have := congrArg List.length hx; simpa [xs] using this.symm
  rw [hll]
  obtain ⟨L, hL⟩ : ∃ L, L = la.length := ⟨_, rfl⟩
  rw [← hL] at hm ⊢
  have q2 : ((L : Int) != (L : Int)) = false := by simp
  have HL := Lib.hid hL
  have HLL := Lib.hid hll
  clear ha hb hx hv hL hll
  go_enter Tryd.func21, Tryd.ntmps21
  go_wp2_with fail
  go_loopw [5] (fun i wr => ∃ k : Nat, k ≤ L ∧ i = .int .i64 k ∧ Below w.heap.size w wr) (fun i _ => L - (intOf i).toNat)
  case atStart => exact ⟨0, Nat.zero_le _, rfl, Below.refl _ _⟩
  case round =>
    obtain ⟨k, hk, rfl, hbel⟩ := hrel
    have HBE := Lib.hid hbel
    have hzw := hbel.size
    clear hbel
    by_cases hlt : k < L
    · have hka : k < la.length := by rw [← HL.out]; exact hlt
      have hkb : k < lb.length := by rw [HLL.out]; exact hka
      obtain ⟨b, o, rfl, hlb, hca⟩ : ∃ b o, ao = some ⟨b, o, none⟩ ∧ b < C ∧ ∀ i (h : i < la.length), (wr.cell? ⟨b, o + i * 3, none⟩ = some (.string la[i].ev.ty) ∧ wr.cell? ⟨b, o + i * 3 + 1, none⟩ = some (.int .i64 la[i].ev.time) ∧ wr.cell? ⟨b, o + i * 3 + 2, none⟩ = some (.slice la[i].va la[i].ev.vals.length la[i].cap)) ∧ ValsIn C wr la[i].va la[i].ev.vals := by
        rcases HA.out.below HBE.out hC with h | h
        · rw [h] at hka; simp at hka
        · exact h
      obtain ⟨b2, o2, rfl, hlb2, hcb⟩ : ∃ b o, bo = some ⟨b, o, none⟩ ∧ b < D ∧ ∀ i (h : i < lb.length), (wr.cell? ⟨b, o + i * 3, none⟩ = some (.string lb[i].ev.ty) ∧ wr.cell? ⟨b, o + i * 3 + 1, none⟩ = some (.int .i64 lb[i].ev.time) ∧ wr.cell? ⟨b, o + i * 3 + 2, none⟩ = some (.slice lb[i].va lb[i].ev.vals.length lb[i].cap)) ∧ ValsIn D wr lb[i].va lb[i].ev.vals := by
        rcases HB.out.below HBE.out hD with h | h
        · rw [h] at hkb; simp at hkb
        · exact h
      obtain ⟨⟨d0, d1, d2⟩, hva⟩ := hca k hka
      obtain ⟨⟨e0, e1, e2⟩, hvb⟩ := hcb k hkb
      have hxk : la[k].ev = lb[k].ev := by
        have h1 : (xs la)[k]? = some la[k].ev := by simp [xs, hka]
        have h2 : (xs lb)[k]? = some lb[k].ev := by simp [xs, hkb]
        rw [HX.out, h2] at h1
        exact (Option.some.inj h1).symm
      have hvl := HV.out la[k] (List.getElem_mem hka)
      obtain ⟨x, hx⟩ : ∃ x, x = la[k] := ⟨_, rfl⟩
      obtain ⟨y, hy⟩ : ∃ y, y = lb[k] := ⟨_, rfl⟩
      rw [← hx] at d0 d1 d2 hva hxk hvl
      rw [← hy] at e0 e1 e2 hvb hxk
      clear hx hy hca hcb hka hkb
      obtain ⟨ev, va, vc⟩ := x
      obtain ⟨ev2, vb, vd⟩ := y
      simp only at hxk
      subst hxk
      obtain ⟨ty, tm, vals⟩ := ev
      simp only at d0 d1 d2 e0 e1 e2 hva hvb hvl
      have HVA := Lib.hid hva
      have HVB := Lib.hid hvb
      have hbw : b < wr.heap.size := by omega
      have hbw2 : b2 < wr.heap.size := by omega
      have HES := Lib.hid (events_same C D ⟨ty, tm, vals⟩ va vb vc vd wr.drew hvl (by simp; omega) (by simp; omega) (hva.below (Below.refl _ wr).drew (by omega)) (hvb.below (Below.refl _ wr).drew (by omega)))
      simp only [evV] at HES
      clear hva hvb hvl
      have k0 : (0 : Int) ≤ (k : Int) := by omega
      have k1 : (k : Int) < (L : Int) := by omega
      go_upto_region 6 with fail
      go_cut [26] (fun s26 wx => s26 = .bool false ∧ Below w.heap.size w wx)
      case first =>
        go_region_held3 (fun w' => w'.cell? ⟨b, o + k * 3, none⟩ = some (.string ty) ∧ w'.cell? ⟨b, o + k * 3 + 1, none⟩ = some (.int .i64 tm) ∧ w'.cell? ⟨b, o + k * 3 + 2, none⟩ = some (.slice va vals.length vc) ∧ w'.cell? ⟨b2, o2 + k * 3, none⟩ = some (.string ty) ∧ w'.cell? ⟨b2, o2 + k * 3 + 1, none⟩ = some (.int .i64 tm) ∧ w'.cell? ⟨b2, o2 + k * 3 + 2, none⟩ = some (.slice vb vals.length vd))
          (first
            | go_keep
            | exact ⟨r0, r1, r2, r3, r4, r5⟩)
          ((first
            | (go_at_call 18; (with_reducible refine HES.out.mono ?_); rintro e w4 ⟨rfl, hb4⟩; have hbD := (Below.refl wr.heap.size wr).drew.trans hb4; have r0 := (hbD.cell (p := ⟨b, o + k * 3, none⟩) hbw).trans d0; have r1 := (hbD.cell (p := ⟨b, o + k * 3 + 1, none⟩) hbw).trans d1; have r2 := (hbD.cell (p := ⟨b, o + k * 3 + 2, none⟩) hbw).trans d2; have r3 := (hbD.cell (p := ⟨b2, o2 + k * 3, none⟩) hbw2).trans e0; have r4 := (hbD.cell (p := ⟨b2, o2 + k * 3 + 1, none⟩) hbw2).trans e1; have r5 := (hbD.cell (p := ⟨b2, o2 + k * 3 + 2, none⟩) hbw2).trans e2)))
        all_goals
          go_wp2_with fail
          go_meet
          exact ⟨rfl, HBE.out.trans (hbD.mono hzw)⟩
      case rest =>
        obtain ⟨rfl, hbc⟩ := hcut
        have HBC := Lib.hid hbc
        clear hbc d0 d1 d2 e0 e1 e2
        go_wp2_with fail
        go_roundw
        case rel => exact ⟨k + 1, by omega, by go_num, HBC.out⟩
        case measure => simp [intOf]; omega
    · go_wp2_with fail
      go_ret
      exact ⟨rfl, HBE.out⟩
end Go.Proofs.YtmdhacboegmccaaDoor
