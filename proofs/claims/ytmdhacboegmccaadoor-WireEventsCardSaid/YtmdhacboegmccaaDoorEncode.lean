/- Package wire: fault, appendEvent, Encode, for every event. -/
import Derived.Test.YtmdhacboegmccaaDoorEvFault
import Derived.Outline
namespace Go.Proofs.YtmdhacboegmccaaDoor
open Go Go.RowKit

theorem all_take (l : List Val) (k : Nat) (hk : k < l.length) (h : (l.take k).all validB = true) (h2 : validB l[k] = true) : (l.take (k + 1)).all validB = true := by
  rw [List.take_succ_eq_append_getElem hk, List.all_append, h]
  simp [h2]
theorem ret_errno {a b : Int} (h : a = b) : Ending.returned (.int .i64 a) = .returned (.int .i64 b) := by rw [h]

set_option maxHeartbeats 8000000 in
set_option maxRecDepth 100000 in
theorem wfault_any (e : Ev) (va : Option Addr) (cap : Nat) (w : World) (hres : ResAt w) (hva : ValsIn w.heap.size w va e.vals) (hm : ∀ a ∈ e.vals, a.str.size ≤ maxLen) :
    Calls Tryd.prog 47 #[evV e va cap] w fun en w' => en = .returned (.int .i64 (evFault e)) ∧ Below w.heap.size w w' := by
  obtain ⟨ty, tm, vals⟩ := e
  simp only [evV] at hva hm ⊢
  obtain ⟨W1, hW1⟩ : ∃ W1, W1 = w.alloc (Obj.cells #[.string ty, .int .i64 tm, .slice va vals.length cap] 24) := ⟨_, rfl⟩
  have hb1 : Below w.heap.size w W1 := by rw [hW1]; exact (Below.refl _ _).alloc (Nat.le_refl _) _
  have HB1 := Lib.hid hb1
  have HR1 := Lib.hid (hres.below hb1)
  have HV1 := Lib.hid (hva.below hb1 (Nat.le_refl _))
  have HM := Lib.hid hm
  have hz1 : w.heap.size < W1.heap.size := by rw [hW1]; simp
  have c0 : W1.cell? ⟨w.heap.size, 0, none⟩ = some (.string ty) := by rw [hW1]; simp
  have c1 : W1.cell? ⟨w.heap.size, 1, none⟩ = some (.int .i64 tm) := by rw [hW1]; simp
  have c2 : W1.cell? ⟨w.heap.size, 2, none⟩ = some (.slice va vals.length cap) := by rw [hW1]; simp
  have HW1 := Lib.hid hW1
  clear hres hva hm hb1 hW1
  cases hn : nameB ty
  · have HE := Lib.hid (show evFault ⟨ty, tm, vals⟩ = 20 by unfold evFault; rw [if_neg (by simp [hn])])
    have HN := Lib.hid hn
    clear hn
    go_enter Tryd.func47, Tryd.ntmps47
    go_upto_region 1 with fail
    rw [← HW1.out]
    go_wp2_with fail
    refine (name_any ty _ HR1.out).mono ?_; rintro e w2 ⟨rfl, hb2⟩
    rw [HN.out]
    go_wp2_with fail
    go_ret
    exact ⟨ret_errno HE.out.symm, HB1.out.trans (hb2.mono (by omega))⟩
  have HN := Lib.hid hn
  clear hn
  go_enter Tryd.func47, Tryd.ntmps47
  go_upto_region 1 with fail
  rw [← HW1.out]
  go_wp2_with fail
  refine (name_any ty _ HR1.out).mono ?_; rintro e w2 ⟨rfl, hb2⟩
  rw [HN.out]
  have d1 := (hb2.cell (p := ⟨w.heap.size, 1, none⟩) hz1).trans c1
  have d2 := (hb2.cell (p := ⟨w.heap.size, 2, none⟩) hz1).trans c2
  have HB2 := Lib.hid (HB1.out.trans (hb2.mono (by omega)))
  have HV2 := Lib.hid (HV1.out.below hb2 (by omega))
  have hz2 := hb2.size
  clear hb2 c0 c1 c2
  by_cases h1 : tm < 0
  · have HE := Lib.hid (show evFault ⟨ty, tm, vals⟩ = 23 by unfold evFault; rw [if_pos HN.out, if_pos (Or.inl h1)])
    go_wp2_with fail
    go_ret
    exact ⟨ret_errno HE.out.symm, HB2.out⟩
  by_cases h2 : 4611686018427387904 < tm
  · have HE := Lib.hid (show evFault ⟨ty, tm, vals⟩ = 23 by unfold evFault; rw [if_pos HN.out, if_pos (Or.inr h2)])
    go_wp2_with fail
    go_ret
    exact ⟨ret_errno HE.out.symm, HB2.out⟩
  by_cases h3 : 16 < vals.length
  · have HE := Lib.hid (show evFault ⟨ty, tm, vals⟩ = 2 by unfold evFault; rw [if_pos HN.out, if_neg (by simp only; omega), if_pos h3])
    go_wp2_with fail
    go_ret
    exact ⟨ret_errno HE.out.symm, HB2.out⟩
  have HF := Lib.hid (show evFault ⟨ty, tm, vals⟩ = if vals.all validB = true then 0 else 12 by unfold evFault; rw [if_pos HN.out, if_neg (by simp only; omega), if_neg h3])
  go_wp2_with fail
  go_loopw [27] (fun i wr => ∃ k : Nat, k ≤ vals.length ∧ i = .int .i64 k ∧ Below w2.heap.size w2 wr ∧ (vals.take k).all validB = true) (fun i _ => vals.length - (intOf i).toNat)
  case atStart => exact ⟨0, Nat.zero_le _, rfl, Below.refl _ _, rfl⟩
  case round =>
    obtain ⟨k, hk, rfl, hbel, hall⟩ := hrel
    have HA := Lib.hid hall
    have HB := Lib.hid hbel
    have hzr := hbel.size
    clear hall
    by_cases hlt : k < vals.length
    · obtain ⟨b, o, rfl, hbB, hc4⟩ : ∃ b o, va = some ⟨b, o, none⟩ ∧ b < w.heap.size ∧ ∀ i (h : i < vals.length), w2.cell? ⟨b, o + i * 4, none⟩ = some (.int .i64 vals[i].kind) ∧ w2.cell? ⟨b, o + i * 4 + 1, none⟩ = some (.int .i64 vals[i].int) ∧ w2.cell? ⟨b, o + i * 4 + 2, none⟩ = some (.string vals[i].str) ∧ w2.cell? ⟨b, o + i * 4 + 3, none⟩ = some (.bool vals[i].bool) := by
        rcases HV2.out with h | h
        · rw [h] at hlt; simp at hlt
        · exact h
      obtain ⟨v0, v1, v2, v3⟩ := hc4 k hlt
      have v0 := (hbel.cell (p := ⟨b, o + k * 4, none⟩) (by simp; omega)).trans v0
      have v1 := (hbel.cell (p := ⟨b, o + k * 4 + 1, none⟩) (by simp; omega)).trans v1
      have v2 := (hbel.cell (p := ⟨b, o + k * 4 + 2, none⟩) (by simp; omega)).trans v2
      have v3 := (hbel.cell (p := ⟨b, o + k * 4 + 3, none⟩) (by simp; omega)).trans v3
      have hms := HM.out _ (List.getElem_mem hlt)
      have HT := Lib.hid (fun h => all_take vals k hlt HA.out h)
      have HMEM := Lib.hid (List.getElem_mem hlt)
      obtain ⟨⟨vk, vi, vs, vb⟩, hv⟩ : ∃ a, a = vals[k] := ⟨_, rfl⟩
      rw [← hv] at v0 v1 v2 v3 hms HT HMEM
      simp only at v0 v1 v2 v3 hms
      clear hc4 hv hbel
      cases hvl : validB ⟨vk, vi, vs, vb⟩
      · have HE := Lib.hid (show evFault ⟨ty, tm, vals⟩ = 12 by
          rw [HF.out, if_neg]
          intro h
          rw [List.all_eq_true] at h
          rw [h _ HMEM.out] at hvl
          cases hvl)
        have HVL := Lib.hid hvl
        clear hvl
        go_wp2_with fail
        refine (valid_any ⟨vk, vi, vs, vb⟩ _ hms).mono ?_; rintro e w5 ⟨rfl, hb5⟩
        rw [HVL.out]
        go_wp2_with fail
        go_ret
        exact ⟨ret_errno HE.out.symm, HB2.out.trans ((HB.out.mono (by omega)).trans ((((Below.refl _ wr).alloc (Nat.le_refl _) _).trans (hb5.mono (by simp))).mono (by omega)))⟩
      · have HT2 := Lib.hid (HT.out hvl)
        have HVL := Lib.hid hvl
        clear hvl
        go_wp2_with fail
        refine (valid_any ⟨vk, vi, vs, vb⟩ _ hms).mono ?_; rintro e w5 ⟨rfl, hb5⟩
        rw [HVL.out]
        go_wp2_with fail
        go_roundw
        case rel => exact ⟨k + 1, by omega, by go_num, HB.out.trans ((((Below.refl _ wr).alloc (Nat.le_refl _) _).trans (hb5.mono (by simp))).mono (by omega)), HT2.out⟩
        case measure => simp [intOf]; omega
    · have HE := Lib.hid (show evFault ⟨ty, tm, vals⟩ = 0 by rw [HF.out, if_pos]; have := HA.out; rwa [List.take_of_length_le (by omega)] at this)
      go_wp2_with fail
      go_ret
      exact ⟨ret_errno HE.out.symm, HB2.out.trans (HB.out.mono (by omega))⟩

theorem vals_take (l : List Val) (k : Nat) (hk : k < l.length) : (l.take (k + 1)).flatMap valE = (l.take k).flatMap valE ++ valE l[k] := by
  rw [List.take_succ_eq_append_getElem hk, List.flatMap_append]
  simp

set_option maxHeartbeats 8000000 in
set_option maxRecDepth 100000 in
theorem appendEvent_any (B : Nat) (v : Value) (l : List UInt8) (e : Ev) (va : Option Addr) (cap : Nat) (w : World) (he : evOk e) (hva : ValsIn B w va e.vals) (hown : w.ownsRow B 5 1 v l.length (bytesC l)) (hl : l.length ≤ 700000000) (hB : B ≤ w.heap.size) :
    Calls Tryd.prog 48 #[v, evV e va cap] w fun en w' => ∃ v', en = .returned v' ∧ Ext8 B w v w' v' (l ++ evE e) := by
  have HVO := Lib.hid he.2.2.2
  have hpre := evPre_le e (name_size he.1).2 he.2.1 he.2.2.1
  have hty := (name_size he.1).2
  have htm := he.2.1
  have hn16 := he.2.2.1
  have HEP := Lib.hid (evE_pre e)
  have hvl := fun k => vals_le (e.vals.take k) (fun a ha => he.2.2.2 a (List.mem_of_mem_take ha))
  have HVLE := Lib.hid hvl
  obtain ⟨ty, tm, vals⟩ := e
  simp only [evV] at *
  obtain ⟨W1, hW1⟩ : ∃ W1, W1 = w.alloc (Obj.cells #[.string ty, .int .i64 tm, .slice va vals.length cap] 24) := ⟨_, rfl⟩
  have hb1 : Below w.heap.size w W1 := by rw [hW1]; exact (Below.refl _ _).alloc (Nat.le_refl _) _
  have HB1 := Lib.hid hb1
  have HO1 := Lib.hid (owns_below hown hb1)
  have HV1 := Lib.hid (hva.below hb1 hB)
  have hlo := row_lo hown
  have HLO := Lib.hid hlo
  have hap := row_apart hown
  have hz1 : w.heap.size < W1.heap.size := by rw [hW1]; simp
  have c0 : W1.cell? ⟨w.heap.size, 0, none⟩ = some (.string ty) := by rw [hW1]; simp
  have c1 : W1.cell? ⟨w.heap.size, 1, none⟩ = some (.int .i64 tm) := by rw [hW1]; simp
  have c2 : W1.cell? ⟨w.heap.size, 2, none⟩ = some (.slice va vals.length cap) := by rw [hW1]; simp
  have HW1 := Lib.hid hW1
  clear he hva hown hb1 hW1 hvl hlo
  obtain ⟨pre, hpe⟩ : ∃ pre, pre = evPre ⟨ty, tm, vals⟩ := ⟨_, rfl⟩
  rw [← hpe] at hpre HEP
  have HPE := Lib.hid hpe
  clear hpe
  go_enter Tryd.func48, Tryd.ntmps48
  go_upto_region 1 with fail
  rw [← HW1.out]
  go_wp2_with fail
  refine (appendText_any B v l ty W1 HO1.out (by omega) (by omega) (by omega)).mono ?_; rintro e w2 ⟨v2, rfl, hx2⟩
  have d1 := hx2.grown.cell c1 hap
  have d2 := hx2.grown.cell c2 hap
  have HX2 := Lib.hid hx2
  have z2 := hx2.grown.size
  have hp2 : some w.heap.size ≠ v2.ownBlock := by
    rcases hx2.row with e | ⟨g, hg, e⟩
    · rw [e]; exact hap
    · rw [e]; intro e; injection e; omega
  have ht1 : (l ++ textE ty).length ≤ 700000042 := by
    have a1 := putB_le (ty.size : Int) (by omega) (by omega)
    have a4 : ty.data.toList.length = ty.size := rfl
    unfold textE
    simp only [List.length_append]
    omega
  clear c0 c1 c2 hx2
  go_wp2_with fail
  refine (appendInt_any B v2 (l ++ textE ty) tm w2 HX2.out.own (by omega) (by omega) (by omega) (by omega)).mono ?_; rintro e w3 ⟨v3, rfl, hx3⟩
  have e2 := hx3.grown.cell d2 hp2
  have HX3 := Lib.hid (HX2.out.trans hx3)
  have z3 := hx3.grown.size
  have hp3 : some w.heap.size ≠ v3.ownBlock := by
    rcases hx3.row with e | ⟨g, hg, e⟩
    · rw [e]; exact hp2
    · rw [e]; intro e; injection e; omega
  have ht2 : (l ++ textE ty ++ putB tm).length ≤ 700000052 := by
    have a2 := putB_le tm (by omega) (by omega)
    rw [List.length_append]
    omega
  clear d1 d2 hx3
  go_wp2_with fail
  refine (appendInt_any B v3 (l ++ textE ty ++ putB tm) vals.length w3 HX3.out.own (by omega) (by omega) (by omega) (by omega)).mono ?_; rintro e w4 ⟨v4, rfl, hx4⟩
  have f2 := hx4.grown.cell e2 hp3
  have HX4 := Lib.hid (show Ext8 B W1 v w4 v4 (l ++ pre) by
    have h := HX3.out.trans hx4
    rw [HPE.out]
    unfold evPre
    simp only [List.append_assoc] at h ⊢
    exact h)
  have z4 := hx4.grown.size
  clear e2 hx4 hp2 hp3
  go_wp2_with fail
  go_loopw [0, 23] (fun u i wr => ∃ (u' : Value) (k : Nat), u' = u ∧ k ≤ vals.length ∧ i = .int .i64 k ∧ Ext8 B W1 v wr u' (l ++ (pre ++ (vals.take k).flatMap valE))) (fun _ i _ => vals.length - (intOf i).toNat)
  case atStart => exact ⟨_, 0, rfl, Nat.zero_le _, rfl, by simpa using HX4.out⟩
  case round =>
    obtain ⟨u', k, rfl, hk, rfl, hx⟩ := hrel
    have HX := Lib.hid hx
    have hzr := hx.grown.size
    by_cases hlt : k < vals.length
    · have HVr := HV1.out.ext hx (by omega) HLO.out
      obtain ⟨b, o, rfl, hbB, hc4⟩ : ∃ b o, va = some ⟨b, o, none⟩ ∧ b < B ∧ ∀ i (h : i < vals.length), wr.cell? ⟨b, o + i * 4, none⟩ = some (.int .i64 vals[i].kind) ∧ wr.cell? ⟨b, o + i * 4 + 1, none⟩ = some (.int .i64 vals[i].int) ∧ wr.cell? ⟨b, o + i * 4 + 2, none⟩ = some (.string vals[i].str) ∧ wr.cell? ⟨b, o + i * 4 + 3, none⟩ = some (.bool vals[i].bool) := by
        rcases HVr with h | h
        · rw [h] at hlt; simp at hlt
        · exact h
      obtain ⟨x0, x1, x2, x3⟩ := hc4 k hlt
      have hle := HVLE.out k
      rw [List.length_take] at hle
      have hcl : (l ++ (pre ++ (vals.take k).flatMap valE)).length ≤ 700010000 := by
        simp only [List.length_append]
        omega
      have HT := Lib.hid (vals_take vals k hlt)
      have HOK := Lib.hid (HVO.out _ (List.getElem_mem hlt))
      obtain ⟨⟨vk, vi, vs, vb⟩, hv⟩ : ∃ a, a = vals[k] := ⟨_, rfl⟩
      rw [← hv] at x0 x1 x2 x3 HT HOK
      simp only at x0 x1 x2 x3
      clear hc4 hv hx HVr hle
      go_wp2_with fail
      refine (appendValue_any B u' (l ++ (pre ++ (vals.take k).flatMap valE)) ⟨vk, vi, vs, vb⟩ _ HOK.out (owns_below HX.out.own ((Below.refl _ wr).alloc (Nat.le_refl _) _)) (by omega) (by simp; omega)).mono ?_; rintro e w5 ⟨v5, rfl, hx5⟩
      have HX5 := Lib.hid (HX.out.trans (Ext8.pre ((Below.refl _ wr).alloc (Nat.le_refl _) _) hx5))
      clear hx5
      go_wp2_with fail
      go_roundw
      case rel => exact ⟨_, k + 1, rfl, by omega, by go_num, by have h := HX5.out; rw [HT.out]; simp only [List.append_assoc] at h ⊢; exact h⟩
      case measure => simp [intOf]; omega
    · have HE := Lib.hid (show l ++ (pre ++ (vals.take k).flatMap valE) = l ++ evE ⟨ty, tm, vals⟩ by rw [HEP.out, List.take_of_length_le (by omega)])
      clear hx
      go_wp2_with fail
      go_ret
      have h := Ext8.pre HB1.out HX.out
      rw [HE.out] at h
      exact ⟨_, rfl, h⟩

set_option maxHeartbeats 8000000 in
set_option maxRecDepth 100000 in
/-- Encode of what has a fault. -/
theorem encode_no (e : Ev) (va : Option Addr) (cap : Nat) (w : World) (hres : ResAt w) (hva : ValsIn w.heap.size w va e.vals) (hm : ∀ a ∈ e.vals, a.str.size ≤ maxLen) (hf : (evFault e == 0) = false) :
    Calls Tryd.prog 16 #[evV e va cap] w fun en w' => en = .returned (.tuple #[.slice none 0 0, .int .i64 (evFault e)]) ∧ Below w.heap.size w w' := by
  obtain ⟨W1, hW1⟩ : ∃ W1, W1 = w.alloc (Obj.cells #[.string e.ty, .int .i64 e.time, .slice va e.vals.length cap] 24) := ⟨_, rfl⟩
  have hb1 : Below w.heap.size w W1 := by rw [hW1]; exact (Below.refl _ _).alloc (Nat.le_refl _) _
  have HB1 := Lib.hid hb1
  have hz1 : w.heap.size < W1.heap.size := by rw [hW1]; simp
  have HF := Lib.hid (wfault_any e va cap W1 (hres.below hb1) ((hva.below hb1 (Nat.le_refl _)).mono (by omega)) hm)
  obtain ⟨f, hfe⟩ : ∃ f, f = evFault e := ⟨_, rfl⟩
  rw [← hfe] at hf HF ⊢
  have hf2 : (f != 0) = true := by simpa [bne] using hf
  have c0 : W1.cell? ⟨w.heap.size, 0, none⟩ = some (.string e.ty) := by rw [hW1]; simp
  have c1 : W1.cell? ⟨w.heap.size, 1, none⟩ = some (.int .i64 e.time) := by rw [hW1]; simp
  have c2 : W1.cell? ⟨w.heap.size, 2, none⟩ = some (.slice va e.vals.length cap) := by rw [hW1]; simp
  have HW1 := Lib.hid hW1
  simp only [evV] at HF ⊢
  clear hres hva hm hb1 hW1 hfe
  go_enter Tryd.func16, Tryd.ntmps16
  go_upto_region 1 with fail
  rw [← HW1.out]
  go_wp2_with fail
  refine HF.out.mono ?_; rintro e w2 ⟨rfl, hb2⟩
  go_wp2_with fail
  go_ret2
  exact ⟨rfl, HB1.out.trans (hb2.mono (by omega))⟩

set_option maxHeartbeats 8000000 in
set_option maxRecDepth 100000 in
/-- Encode of an event that may be. -/
theorem encode_ok (e : Ev) (va : Option Addr) (cap : Nat) (w : World) (hres : ResAt w) (hva : ValsIn w.heap.size w va e.vals) (hm : ∀ a ∈ e.vals, a.str.size ≤ maxLen) (he : evOk e) (hf : evFault e = 0) :
    Calls Tryd.prog 16 #[evV e va cap] w fun en w' => ∃ v', en = .returned (.tuple #[v', .int .i64 0]) ∧ w'.ownsRow w.heap.size 5 1 v' (evE e).length (bytesC (evE e)) ∧ Below w.heap.size w w' := by
  obtain ⟨W1, hW1⟩ : ∃ W1, W1 = w.alloc (Obj.cells #[.string e.ty, .int .i64 e.time, .slice va e.vals.length cap] 24) := ⟨_, rfl⟩
  have hb1 : Below w.heap.size w W1 := by rw [hW1]; exact (Below.refl _ _).alloc (Nat.le_refl _) _
  have HB1 := Lib.hid hb1
  have hz1 : w.heap.size < W1.heap.size := by rw [hW1]; simp
  have HF := Lib.hid (wfault_any e va cap W1 (hres.below hb1) ((hva.below hb1 (Nat.le_refl _)).mono (by omega)) hm)
  rw [hf] at HF
  have HV1 := Lib.hid (hva.below hb1 (Nat.le_refl _))
  have HOK := Lib.hid he
  have c0 : W1.cell? ⟨w.heap.size, 0, none⟩ = some (.string e.ty) := by rw [hW1]; simp
  have c1 : W1.cell? ⟨w.heap.size, 1, none⟩ = some (.int .i64 e.time) := by rw [hW1]; simp
  have c2 : W1.cell? ⟨w.heap.size, 2, none⟩ = some (.slice va e.vals.length cap) := by rw [hW1]; simp
  have HW1 := Lib.hid hW1
  clear hres hva hm hb1 hW1 he hf
  have HAP := Lib.hid (fun (W : World) (h1 : ValsIn w.heap.size W va e.vals) (h2 : w.heap.size ≤ W.heap.size) => appendEvent_any w.heap.size (.slice none 0 0) [] e va cap W HOK.out h1 (owns_nil _ _) (by simp) h2)
  simp only [evV] at HF HAP ⊢
  go_enter Tryd.func16, Tryd.ntmps16
  go_upto_region 1 with fail
  rw [← HW1.out]
  go_wp2_with fail
  refine HF.out.mono ?_; rintro en w2 ⟨rfl, hb2⟩
  have d0 := (hb2.cell (p := ⟨w.heap.size, 0, none⟩) hz1).trans c0
  have d1 := (hb2.cell (p := ⟨w.heap.size, 1, none⟩) hz1).trans c1
  have d2 := (hb2.cell (p := ⟨w.heap.size, 2, none⟩) hz1).trans c2
  have HB2 := Lib.hid (HB1.out.trans (hb2.mono (by omega)))
  have HV2 := Lib.hid (HV1.out.below hb2 (by omega))
  have z2 := hb2.size
  clear c0 c1 c2 hb2
  go_wp2_with fail
  refine (HAP.out w2 HV2.out (by omega)).mono ?_; rintro en w3 ⟨v3, rfl, hx3⟩
  go_wp2_with fail
  go_ret2
  exact ⟨_, rfl, hx3.own, HB2.out.trans (hx3.fresh.mono (by omega))⟩
end Go.Proofs.YtmdhacboegmccaaDoor
