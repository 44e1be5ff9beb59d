/- Package csv: why an event is no row of a type. -/
import Derived.Test.YtdkddnlolnbpgaaDoorCarry
import Derived.BigQuiet
namespace Go.Proofs.YtdkddnlolnbpgaaDoor
open Go Go.RowKit

theorem vals_cell {B : Nat} {w : World} {ao : Option Addr} {l : List Val} (h : ValsIn B w ao l) (i : Nat) (hi : i < l.length) : ∃ b o, ao = some ⟨b, o, none⟩ ∧ b < B ∧ w.cell? ⟨b, o + i * 4, none⟩ = some (.int .i64 l[i].kind) ∧ w.cell? ⟨b, o + i * 4 + 1, none⟩ = some (.int .i64 l[i].int) ∧ w.cell? ⟨b, o + i * 4 + 2, none⟩ = some (.string l[i].str) ∧ w.cell? ⟨b, o + i * 4 + 3, none⟩ = some (.bool l[i].bool) := by
  rcases h with h | ⟨b, o, e, hb, h⟩
  · rw [h] at hi; simp at hi
  · exact ⟨b, o, e, hb, h i hi⟩
theorem attrs_cell {B : Nat} {w : World} {ao : Option Addr} {l : List AttrX} (h : AttrsIn B w ao l) (i : Nat) (hi : i < l.length) : ∃ b o, ao = some ⟨b, o, none⟩ ∧ b < B ∧ w.cell? ⟨b, o + i * 2, none⟩ = some (.string l[i].name) ∧ w.cell? ⟨b, o + i * 2 + 1, none⟩ = some (.int .i64 l[i].kind) := by
  rcases h with h | ⟨b, o, e, hb, h⟩
  · rw [h] at hi; simp at hi
  · exact ⟨b, o, e, hb, h i hi⟩
/-- The box of a type, of an event. -/
def TyBox (w : World) (p : Nat) (nm : ByteArray) (s : Value) : Prop := w.heap[p]? = some (Obj.cells #[.string nm, s] 24 (0, 0))
def EvBox (w : World) (p : Nat) (ty : ByteArray) (tm : Int) (s : Value) : Prop := w.heap[p]? = some (Obj.cells #[.string ty, .int .i64 tm, s] 27 (0, 0))
theorem TyBox.c {w : World} {p : Nat} {nm : ByteArray} {s : Value} (h : TyBox w p nm s) : w.cell? ⟨p, 0, none⟩ = some (.string nm) ∧ w.cell? ⟨p, 1, none⟩ = some s :=
  ⟨by rw [cell_of_row _ _ _ _ _ _ h]; rfl, by rw [cell_of_row _ _ _ _ _ _ h]; rfl⟩
theorem EvBox.c {w : World} {p : Nat} {ty : ByteArray} {tm : Int} {s : Value} (h : EvBox w p ty tm s) : w.cell? ⟨p, 0, none⟩ = some (.string ty) ∧ w.cell? ⟨p, 1, none⟩ = some (.int .i64 tm) ∧ w.cell? ⟨p, 2, none⟩ = some s :=
  ⟨by rw [cell_of_row _ _ _ _ _ _ h]; rfl, by rw [cell_of_row _ _ _ _ _ _ h]; rfl, by rw [cell_of_row _ _ _ _ _ _ h]; rfl⟩
theorem below_drewN2 {B : Nat} {a w : World} (h : Below B a w) : ∀ n, Below B a (w.drewN n)
  | 0 => h
  | n + 1 => (below_drewN2 h n).drew
theorem vErr_drop {vs : List Val} {ats : List AttrX} (i : Nat) (hi : i < vs.length) (hi2 : i < ats.length) : vErr (vs.drop i) (ats.drop i) = if validB vs[i] = true then (if vs[i].kind = ats[i].kind then vErr (vs.drop (i + 1)) (ats.drop (i + 1)) else 10) else 12 := by
  rw [List.drop_eq_getElem_cons hi, List.drop_eq_getElem_cons hi2]
  rfl

set_option maxHeartbeats 8000000 in
set_option maxRecDepth 100000 in
theorem fault_any (nm ty : ByteArray) (tm : Int) (ats : List AttrX) (vs : List Val) (ta va : Option Addr) (tc vc : Nat) (w : World) (hA : AttrsIn w.heap.size w ta ats) (hV : ValsIn w.heap.size w va vs) (hn : ats.length ≤ 9223372036854775807) (hm : vs.length ≤ 9223372036854775807) (hs : ∀ v ∈ vs, v.str.size ≤ maxLen) :
    Calls Tryd.prog 12 #[.agg #[.string nm, .slice ta ats.length tc], .agg #[.string ty, .int .i64 tm, .slice va vs.length vc]] w fun en w' => en = .returned (.int .i64 (rowErr ⟨nm, ats⟩ ⟨ty, tm, vs⟩)) ∧ Below w.heap.size w w' := by
  obtain ⟨p, hp⟩ : ∃ p, p = w.heap.size := ⟨_, rfl⟩
  obtain ⟨W1, hW1⟩ : ∃ W, W = w.alloc (Obj.cells #[.string nm, .slice ta ats.length tc] 24) := ⟨_, rfl⟩
  obtain ⟨W2, hW2⟩ : ∃ W, W = W1.alloc (Obj.cells #[.string ty, .int .i64 tm, .slice va vs.length vc] 27) := ⟨_, rfl⟩
  have hz1 : W1.heap.size = p + 1 := by rw [hW1, World.size_alloc, hp]
  have hz2 : W2.heap.size = p + 2 := by rw [hW2, World.size_alloc, hz1]
  have HB2 := Lib.hid (show Below w.heap.size w W2 by rw [hW2, hW1]; exact ((Below.refl _ _).alloc (Nat.le_refl _) _).alloc (by rw [World.size_alloc]; omega) _)
  have hT2 : TyBox W2 p nm (.slice ta ats.length tc) := by unfold TyBox; rw [hW2, heap_alloc_old _ _ (by omega), hW1, hp]; exact heap_alloc_new _ _
  have hE2 : EvBox W2 (p + 1) ty tm (.slice va vs.length vc) := by unfold EvBox; rw [hW2, ← hz1]; exact heap_alloc_new _ _
  have HBX := Lib.hid (show ∀ W, Below W2.heap.size W2 W → TyBox W p nm (.slice ta ats.length tc) ∧ EvBox W (p + 1) ty tm (.slice va vs.length vc) ∧ AttrsIn w.heap.size W ta ats ∧ ValsIn w.heap.size W va vs ∧ Below w.heap.size w W from fun W hW => ⟨(hW.block p (by omega)).trans hT2, (hW.block (p + 1) (by omega)).trans hE2, (hA.below HB2.out (Nat.le_refl _)).below hW (by omega), (hV.below HB2.out (Nat.le_refl _)).below hW (by omega), HB2.out.trans (hW.mono (by omega))⟩)
  obtain ⟨c0, c1⟩ := hT2.c
  obtain ⟨d0, d1, d2⟩ := hE2.c
  have HTI := Lib.hid (fun W => timely_any tm W)
  have HSV := Lib.hid hs
  have HW1 := Lib.hid hW1
  have HW2 := Lib.hid hW2
  have HP := Lib.hid hp
  have HZ1 := Lib.hid hz1
  have HZ2 := Lib.hid hz2
  clear hW1 hW2 hp hz1 hz2 hT2 hE2 hA hV hs
  go_enter Tryd.func12, Tryd.ntmps12
  go_upto_region 1 with fail
  rw [← HW1.out, ← HW2.out]
  rw [← HP.out]
  cases h1 : (ty.toList == nm.toList)
  · have HR := Lib.hid (show rowErr ⟨nm, ats⟩ ⟨ty, tm, vs⟩ = 21 by
      unfold rowErr
      rw [if_pos]
      intro e
      simp only at e
      rw [e] at h1
      simp at h1)
    go_wp2_with fail
    go_ret
    exact ⟨by rw [HR.out]; rfl, HB2.out⟩
  have HTY := Lib.hid (show ty = nm from bytes_same (by simpa using h1))
  go_upto_region 3 with fail
  clear c0 d0 h1
  have HTI2 := Lib.hid (HTI.out W2)
  by_cases h2 : Timely tm
  rotate_left
  · have HR := Lib.hid (show rowErr ⟨nm, ats⟩ ⟨ty, tm, vs⟩ = 23 by
      unfold rowErr
      rw [if_neg (by simp only; intro h; exact h HTY.out), if_pos h2])
    have h3 : (decide (0 ≤ tm) && decide (tm ≤ 4611686018427387904)) = false := by
      unfold Timely at h2
      rw [← Bool.decide_and]
      exact decide_eq_false h2
    rw [h3] at HTI2
    go_wp2_with fail
    refine HTI2.out.mono ?_; rintro e w3 ⟨rfl, hw3⟩
    subst hw3
    go_wp2_with fail
    go_ret
    exact ⟨by rw [HR.out]; rfl, HB2.out⟩
  have h3 : (decide (0 ≤ tm) && decide (tm ≤ 4611686018427387904)) = true := by
    unfold Timely at h2
    rw [← Bool.decide_and]
    exact decide_eq_true h2
  rw [h3] at HTI2
  have H2 := Lib.hid h2
  clear h2 h3
  go_wp2_with fail
  refine HTI2.out.mono ?_; rintro e w3 ⟨rfl, hw3⟩
  subst hw3
  clear d1
  by_cases h4 : vs.length = ats.length
  rotate_left
  · have HR := Lib.hid (show rowErr ⟨nm, ats⟩ ⟨ty, tm, vs⟩ = 22 by
      unfold rowErr
      rw [if_neg (by simp only; intro h; exact h HTY.out), if_neg (by intro h; exact h H2.out), if_pos h4])
    have h5 : ((vs.length : Int) != (ats.length : Int)) = true := by
      rw [bne_iff_ne]
      omega
    clear h4
    go_wp2_with fail
    go_ret
    exact ⟨by rw [HR.out]; rfl, HB2.out⟩
  have h5 : ((vs.length : Int) != (ats.length : Int)) = false := by
    rw [h4]
    simp
  have HR := Lib.hid (show rowErr ⟨nm, ats⟩ ⟨ty, tm, vs⟩ = vErr vs ats by
    unfold rowErr
    rw [if_neg (by simp only; intro h; exact h HTY.out), if_neg (by intro h; exact h H2.out), if_neg (by simp only; intro h; exact h h4)])
  have HL := Lib.hid h4
  clear h4
  go_upto_region 7 with fail
  clear h5
  go_wp2_with fail
  clear c1 d2 HTI HTI2 HW1 HW2
  go_loopg [29] (vs.length + 1) (fun g v29 wr => ∃ i : Nat, i ≤ vs.length ∧ v29 = .int .i64 (i : Int) ∧ Below w3.heap.size w3 wr ∧ vErr vs ats = vErr (vs.drop i) (ats.drop i) ∧ vs.length - i < g)
  case atStart => exact ⟨0, Nat.zero_le _, rfl, Below.refl _ _, rfl, by omega⟩
  case round =>
    obtain ⟨i, hi, rfl, hbel, hve, hg⟩ := hrel
    obtain ⟨g, rfl⟩ : ∃ g, gk = g + 1 := ⟨gk - 1, by omega⟩
    obtain ⟨hT, hE, hA, hV, hB⟩ := HBX.out wr hbel
    have HVE := Lib.hid hve
    have HBE := Lib.hid hbel
    have HBW := Lib.hid hB
    have hzw := hbel.size
    have hz2 := HZ2.out
    have i0 : (0 : Int) ≤ (i : Int) := by omega
    by_cases hlt : i < vs.length
    · have i1 : (i : Int) < (vs.length : Int) := by omega
      have hlt2 : i < ats.length := by rw [← HL.out]; exact hlt
      obtain ⟨b, o, rfl, hbb, e0, e1, e2, e3⟩ := vals_cell hV i hlt
      obtain ⟨b2, o2, rfl, hbb2, a0, a1⟩ := attrs_cell hA i hlt2
      obtain ⟨c0, c1⟩ := hT.c
      obtain ⟨q0, q1, q2⟩ := hE.c
      have HD := Lib.hid (vErr_drop (vs := vs) (ats := ats) i hlt hlt2)
      have HSI := Lib.hid (HSV.out _ (List.getElem_mem hlt))
      obtain ⟨v, hv⟩ : ∃ v, v = vs[i] := ⟨_, rfl⟩
      obtain ⟨a, ha⟩ : ∃ a, a = ats[i] := ⟨_, rfl⟩
      rw [← hv, ← ha] at HD
      rw [← hv] at e0 e1 e2 e3 HSI
      rw [← ha] at a0 a1
      obtain ⟨vk, vn, vstr, vb⟩ := v
      obtain ⟨an, ak⟩ := a
      simp only at e0 e1 e2 e3 a0 a1
      have HVA := Lib.hid (fun W => valid_any ⟨vk, vn, vstr, vb⟩ W HSI.out)
      simp only [Val.v] at HVA
      obtain ⟨q, hq⟩ : ∃ q, q = wr.heap.size := ⟨_, rfl⟩
      obtain ⟨V, hVV⟩ : ∃ V, V = wr.alloc (Obj.cells #[.int .i64 vk, .int .i64 vn, .string vstr, .bool vb] 32) := ⟨_, rfl⟩
      have hbV : Below wr.heap.size wr V := by rw [hVV]; exact (Below.refl _ _).alloc (Nat.le_refl _) _
      have HQB := Lib.hid (show V.heap[q]? = some (Obj.cells #[.int .i64 vk, .int .i64 vn, .string vstr, .bool vb] 32 (0, 0)) by rw [hVV, hq]; exact heap_alloc_new _ _)
      have hqV : q < V.heap.size := by rw [hVV, World.size_alloc]; omega
      have HBV := Lib.hid hbV
      have HVV := Lib.hid hVV
      have HQ := Lib.hid hq
      have HT := Lib.hid hT
      have hpp := HP.out
      have hbz : b < wr.heap.size := by omega
      have hbz2 : b2 < wr.heap.size := by omega
      have hpz : p < wr.heap.size := by omega
      clear hv ha hVV hq hbV hT hE hA hV hB hve hbel hz2 hpp
      go_upto_region 10 with fail
      rw [← HVV.out, ← HQ.out]
      have x0 : V.cell? ⟨q, 0, none⟩ = some (.int .i64 vk) := by rw [cell_of_row _ _ _ _ _ _ HQB.out]; rfl
      have x1 : V.cell? ⟨q, 1, none⟩ = some (.int .i64 vn) := by rw [cell_of_row _ _ _ _ _ _ HQB.out]; rfl
      have x2 : V.cell? ⟨q, 2, none⟩ = some (.string vstr) := by rw [cell_of_row _ _ _ _ _ _ HQB.out]; rfl
      have x3 : V.cell? ⟨q, 3, none⟩ = some (.bool vb) := by rw [cell_of_row _ _ _ _ _ _ HQB.out]; rfl
      have HA1 := Lib.hid ((HBV.out.cell (p := ⟨b2, o2 + i * 2 + 1, none⟩) hbz2).trans a1)
      have HC1 := Lib.hid ((HBV.out.cell (p := ⟨p, 1, none⟩) hpz).trans c1)
      clear e0 e1 e2 e3 a0 a1 c0 c1 q0 q1 q2
      have HVAV := Lib.hid (HVA.out V)
      have HBEV := Lib.hid (HBE.out.trans (HBV.out.mono hzw))
      cases hvb : validB ⟨vk, vn, vstr, vb⟩
      · rw [hvb] at HVAV
        have HER := Lib.hid (show rowErr ⟨nm, ats⟩ ⟨ty, tm, vs⟩ = 12 by rw [HR.out, HVE.out, HD.out, if_neg (by rw [hvb]; simp)])
        go_wp2_with fail
        refine HVAV.out.mono ?_; rintro e w5 ⟨rfl, hb5⟩
        have HB5 := Lib.hid (HBEV.out.trans (hb5.mono (by have := HBEV.out.size; omega)))
        clear hb5
        go_wp2_with fail
        go_ret
        exact ⟨by rw [HER.out]; rfl, (HBX.out _ HB5.out).2.2.2.2⟩
      · rw [hvb] at HVAV
        go_wp2_with fail
        refine HVAV.out.mono ?_; rintro e w5 ⟨rfl, hb5⟩
        have y0 := (hb5.cell (p := ⟨q, 0, none⟩) hqV).trans x0
        have y1 := (hb5.cell (p := ⟨b2, o2 + i * 2 + 1, none⟩) (by show b2 < V.heap.size; have := HBV.out.size; omega)).trans HA1.out
        have y2 := (hb5.cell (p := ⟨p, 1, none⟩) (by show p < V.heap.size; have := HBV.out.size; omega)).trans HC1.out
        have HB5 := Lib.hid (HBEV.out.trans (hb5.mono (by have := HBEV.out.size; omega)))
        clear hb5 x0 x1 x2 x3
        by_cases hk : vk = ak
        · have hk2 : (vk != ak) = false := by rw [hk]; simp
          have HNX := Lib.hid (show vErr vs ats = vErr (vs.drop (i + 1)) (ats.drop (i + 1)) by rw [HVE.out, HD.out, if_pos hvb, if_pos hk])
          clear hk hvb
          go_upto_region 12 with fail
          go_quiet (fail)
          go_wp2_with fail
          go_roundg g
          case rel => exact ⟨i + 1, by omega, by go_num, below_drewN2 HB5.out _, HNX.out, by omega⟩
          case measure => omega
        · have hk2 : (vk != ak) = true := by simpa using hk
          have HER := Lib.hid (show rowErr ⟨nm, ats⟩ ⟨ty, tm, vs⟩ = 10 by rw [HR.out, HVE.out, HD.out, if_pos hvb, if_neg hk])
          clear hk hvb
          go_upto_region 12 with fail
          go_quiet (fail)
          go_wp2_with fail
          go_ret
          exact ⟨by rw [HER.out]; rfl, (HBX.out _ (below_drewN2 HB5.out _)).2.2.2.2⟩
    · have i1 : ¬ (i : Int) < (vs.length : Int) := by omega
      have HER := Lib.hid (show rowErr ⟨nm, ats⟩ ⟨ty, tm, vs⟩ = 0 by
        rw [HR.out, hve, List.drop_eq_nil_of_le (by omega), List.drop_eq_nil_of_le (by have := HL.out; omega)]
        rfl)
      clear hT hE hA hV hB hve hbel
      go_wp2_with fail
      go_ret
      exact ⟨by rw [HER.out]; rfl, HBW.out⟩
end Go.Proofs.YtdkddnlolnbpgaaDoor
