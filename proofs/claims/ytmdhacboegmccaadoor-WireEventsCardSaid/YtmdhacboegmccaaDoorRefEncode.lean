/- The document's own answer: Encode, for every event. -/
import Derived.Test.YtmdhacboegmccaaDoorRefName
import Derived.Test.YtmdhacboegmccaaDoorRefInt
import Derived.Test.YtmdhacboegmccaaDoorOneForm
import Derived.Test.YtmdhacboegmccaaDoorIn
namespace Go.Proofs.YtmdhacboegmccaaDoor
open Go Go.RowKit

/-- 'append(b, x...)' of a row that is not empty and lies in memory. -/
theorem wpList_append_ext8 {w : World} {ops : Array Oper} {rest : List Oper} {o : Oper} {a : Act} {Q : Exit → Act → World → Prop} (hgd : o.guard = none) (s x : Operand)
    (ho : o.op = .call { callee := .builtin .append, args := #[s, x], argTypes := #[25, 25] }) (B : Nat) (v : Value) (p : List UInt8) (hs : a.eval s = v) (hown : w.ownsRow B 5 1 v p.length (bytesC p))
    (ad : Addr) (n cap : Nat) (l : List UInt8) (hn : l.length = n) (hx : a.eval x = .slice (some ad) n cap) (hc : ∀ j u, (bytesC l)[j]? = some u → w.cell? (ad.add j) = some u) (h0 : 0 < n) (hl : p.length + n ≤ 100000000) (hB : B ≤ w.heap.size)
    (h : ∀ v' w', Ext8 B w v w' v' (p ++ l) → wpList Tryd.prog ops Q rest (a.put o.dst v') w') :
    wpList Tryd.prog ops Q (o :: rest) a w := by
  obtain ⟨i0, hi0, hz0, hz1, hz2⟩ := info_parts Tryd.infoU8
  subst hn
  refine wpList_append_lies w hgd s x 25 ho B 5 i0 _ 1 1 Tryd.underlying25 hi0 hz0 hz1 hz2 rfl (by omega) v p.length (bytesC p) hs hown ad l.length cap (bytesC l) hx (by rw [bytesC_len]; omega) hc (bytesC_one _) h0 (by unfold maxLen; omega) (by omega) hB w.heap.size rfl ?_
  intro g c w' h1 h2 h3 h4
  refine h _ w' ⟨?_, h2, ?_⟩
  · rw [bytesC_append, List.length_append]; exact h1
  · rcases h3 with e | e
    · exact Or.inl (e.symm ▸ rfl)
    · exact Or.inr ⟨g, by omega, rfl⟩
/-- What PutInt made, as a row to append. -/
theorem put_arg {w w' : World} {B : Nat} {v v0 : Value} {l : List UInt8} (h : Ext8 B w v0 w' v l) (h0 : 0 < l.length) : ∃ g cap, v = .slice (some ⟨g, 0, none⟩) l.length cap ∧ ∀ j u, (bytesC l)[j]? = some u → w'.cell? ((⟨g, 0, none⟩ : Addr).add j) = some u := by
  rcases h.own.2 with ⟨e, e0⟩ | ⟨g, cap, cur, e, _⟩
  · exfalso; omega
  · obtain ⟨ao, cap', hv, ha, _⟩ := owned_arg h.own
    rw [e] at hv
    injection hv with e1 e2 e3
    rcases ha with ⟨_, _, e4⟩ | ⟨ad, e4, hc⟩
    · rw [e4] at h0; simp at h0
    · rw [e4] at e1
      cases e1
      exact ⟨g, cap, e, hc⟩

theorem evFault_name {e : Ev} (h : nameB e.ty = false) : evFault e = 20 := by unfold evFault; rw [h]; rfl
theorem evFault_time {e : Ev} (h : nameB e.ty = true) (h2 : e.time < 0 ∨ 4611686018427387904 < e.time) : evFault e = 23 := by unfold evFault; rw [if_pos h, if_pos h2]
theorem evFault_many {e : Ev} (h : nameB e.ty = true) (h2 : ¬ (e.time < 0 ∨ 4611686018427387904 < e.time)) (h3 : 16 < e.vals.length) : evFault e = 2 := by unfold evFault; rw [if_pos h, if_neg h2, if_pos h3]
theorem evFault_val {e : Ev} (h : nameB e.ty = true) (h2 : ¬ (e.time < 0 ∨ 4611686018427387904 < e.time)) (h3 : ¬ 16 < e.vals.length) {a : Val} (ha : a ∈ e.vals) (hv : validB a = false) : evFault e = 12 := by
  unfold evFault
  rw [if_pos h, if_neg h2, if_neg h3, if_neg]
  intro e
  rw [List.all_eq_true] at e
  rw [e a ha] at hv
  cases hv
theorem evFault_fine {e : Ev} (h : nameB e.ty = true) (h2 : ¬ (e.time < 0 ∨ 4611686018427387904 < e.time)) (h3 : ¬ 16 < e.vals.length) (h4 : e.vals.all validB = true) : evFault e = 0 := by
  unfold evFault
  rw [if_pos h, if_neg h2, if_neg h3, if_pos h4]

theorem row_still {v v' : Value} {b n : Nat} (h : v'.ownBlock = v.ownBlock ∨ ∃ g, n ≤ g ∧ v'.ownBlock = some g) (h1 : some b ≠ v.ownBlock) (h2 : b < n) : some b ≠ v'.ownBlock := by
  rcases h with e | ⟨g, hg, e⟩
  · rw [e]; exact h1
  · rw [e]; intro e2; cases e2; omega
/-- What Encode answers. -/
def EncTo (e : Ev) (w : World) (en : Ending) (w' : World) : Prop :=
  (evFault e = 0 ∧ ∃ v, en = .returned (.tuple #[v, .int .i64 0]) ∧ w'.ownsRow w.heap.size 5 1 v (evE e).length (bytesC (evE e))) ∨ (evFault e ≠ 0 ∧ en = .returned (.tuple #[.slice none 0 0, .int .i64 (evFault e)]))

set_option maxHeartbeats 8000000 in
set_option maxRecDepth 100000 in
theorem refEncode_any (e : Ev) (va : Option Addr) (cap : Nat) (w : World) (hva : ValsIn w.heap.size w va e.vals) (hm : ∀ a ∈ e.vals, valIn a) (hn : e.vals.length ≤ maxLen) :
    Calls Tryd.prog 27 #[evV e va cap] w fun en w' => EncTo e w en w' ∧ Below w.heap.size w w' := by
  obtain ⟨i0, hi0, hz0, hz1, hz2⟩ := info_parts Tryd.infoU8
  obtain ⟨W1, hW1⟩ : ∃ W1, W1 = w.alloc (Obj.cells #[.string e.ty, .int .i64 e.time, .slice va e.vals.length cap] 24) := ⟨_, rfl⟩
  have hb1 : Below w.heap.size w W1 := by rw [hW1]; exact (Below.refl _ _).alloc (Nat.le_refl _) _
  have HB1 := Lib.hid hb1
  have hz1' : w.heap.size + 1 = W1.heap.size := by rw [hW1]; simp
  have HV1 := Lib.hid ((hva.below hb1 (Nat.le_refl _)).mono (show w.heap.size ≤ W1.heap.size by omega))
  have HC := Lib.hid (show Cells3 W1 w.heap.size (.string e.ty) (.int .i64 e.time) (.slice va e.vals.length cap) by rw [hW1]; exact Cells3.made _ _ _ _ _)
  have HM := Lib.hid hm
  have HW1 := Lib.hid hW1
  have HEV := Lib.hid (evE_pre e)
  obtain ⟨ty, tm, vals⟩ := e
  simp only [evV] at *
  have c0 := HC.out.c0
  have c1 := HC.out.c1
  have c2 := HC.out.c2
  clear hva hm hb1 hW1
  unfold maxLen at hn
  cases hnm : nameB ty
  case false =>
    have HE := Lib.hid (evFault_name (e := ⟨ty, tm, vals⟩) hnm)
    have HN := Lib.hid hnm
    clear hnm
    go_enter Tryd.func27, Tryd.ntmps27
    go_upto_region 1 with fail
    rw [← HW1.out]
    go_wp2_with fail
    (with_reducible refine (refName_any ty _).mono ?_); rintro en w2 ⟨rfl, hb2⟩
    rw [HN.out]
    go_wp2_with fail
    go_ret2
    exact ⟨Or.inr ⟨by rw [HE.out]; decide, by rw [HE.out]; rfl⟩, HB1.out.trans (hb2.mono (by omega))⟩
  have HN := Lib.hid hnm
  clear hnm
  go_enter Tryd.func27, Tryd.ntmps27
  go_upto_region 1 with fail
  rw [← HW1.out]
  go_wp2_with fail
  (with_reducible refine (refName_any ty _).mono ?_); rintro en w2 ⟨rfl, hb2⟩
  rw [HN.out]
  have HC2 := Lib.hid (HC.out.below hb2)
  have HB2 := Lib.hid (HB1.out.trans (hb2.mono (by omega)))
  have HBB2 := Lib.hid hb2
  have HV2 := Lib.hid (HV1.out.below hb2 (Nat.le_refl _))
  have z2 := hb2.size
  clear hb2 c0 c1 c2
  have c0 := HC2.out.c0
  have c1 := HC2.out.c1
  have c2 := HC2.out.c2
  by_cases h1 : tm < 0
  · have HE := Lib.hid (evFault_time (e := ⟨ty, tm, vals⟩) HN.out (Or.inl h1))
    go_wp2_with fail
    go_ret2
    exact ⟨Or.inr ⟨by rw [HE.out]; decide, by rw [HE.out]; rfl⟩, HB2.out⟩
  by_cases h2 : 4611686018427387904 < tm
  · have HE := Lib.hid (evFault_time (e := ⟨ty, tm, vals⟩) HN.out (Or.inr h2))
    go_wp2_with fail
    go_ret2
    exact ⟨Or.inr ⟨by rw [HE.out]; decide, by rw [HE.out]; rfl⟩, HB2.out⟩
  have HT := Lib.hid (show ¬ (tm < 0 ∨ 4611686018427387904 < tm) by omega)
  by_cases h3 : 16 < vals.length
  · have HE := Lib.hid (evFault_many (e := ⟨ty, tm, vals⟩) HN.out HT.out h3)
    go_wp2_with fail
    go_ret2
    exact ⟨Or.inr ⟨by rw [HE.out]; decide, by rw [HE.out]; rfl⟩, HB2.out⟩
  have hty := (name_size HN.out).2
  have HPL := Lib.hid (evPre_le ⟨ty, tm, vals⟩ hty (by simp only; omega) (by simp only; omega))
  have HP := Lib.hid (show evPre ⟨ty, tm, vals⟩ = ((putB (ty.size : Int) ++ ty.data.toList) ++ putB tm) ++ putB vals.length by unfold evPre textE; simp only [List.append_assoc])
  go_wp2_with fail
  (with_reducible refine (refPut_any _ _ (by omega) (by omega)).mono ?_); rintro en w3 ⟨v3, rfl, hx3⟩
  have HX3 := Lib.hid hx3
  have c0 := HX3.out.grown.cell c0 (by simp [Value.ownBlock])
  have c1 := HX3.out.grown.cell c1 (by simp [Value.ownBlock])
  have c2 := HX3.out.grown.cell c2 (by simp [Value.ownBlock])
  have HL3 := Lib.hid (putB_le (ty.size : Int) (by omega) (by omega))
  have hl3 := HL3.out
  have z3 := hx3.grown.size
  have hap3 : some w.heap.size ≠ v3.ownBlock := fun e => by have := HX3.out.own.lt _ e.symm; omega
  clear hx3
  go_wp2_with (at_builtin; go_must (refine wpList_append_string_at _ (by rfl) _ _ _ _ (by rfl) w2.heap.size 5 i0 Tryd.underlying25 Tryd.underlying9 hi0 hz0 hz1 hz2 v3 (putB (ty.size : Int)).length (bytesC (putB (ty.size : Int))) (by rfl) HX3.out.own ty (by rfl) (by unfold maxLen; omega) (by omega) (by omega) ?_; intro v4 w4 hown4 hgrow4 hat4; have c1 := hgrow4.cell c1 hap3; have c2 := hgrow4.cell c2 hap3; have z4 := hgrow4.size; have HX4 := Lib.hid (HX3.out.trans (Ext8.appS rfl hown4 hgrow4 hat4)); clear hown4 hgrow4 hat4))
  have hl4 : (putB (ty.size : Int) ++ ty.data.toList).length ≤ 42 := by rw [List.length_append]; have : ty.data.toList.length = ty.size := rfl; omega
  (with_reducible refine (refPut_any _ _ (by omega) (by omega)).mono ?_); rintro en w5 ⟨v5, rfl, hx5⟩
  obtain ⟨g5, q5, rfl, hc5⟩ := put_arg hx5 (putB_pos _)
  have HX5 := Lib.hid (HX4.out.post hx5.fresh)
  have hl5 := putB_le tm (by omega) (by omega)
  have hp5 := putB_pos tm
  have c1 := hx5.grown.cell c1 (by simp [Value.ownBlock])
  have c2 := hx5.grown.cell c2 (by simp [Value.ownBlock])
  have z5 := hx5.grown.size
  have hap4 : some w.heap.size ≠ v4.ownBlock := fun e => by have := HX4.out.own.lt _ e.symm; omega
  have HC5 := Lib.hid hc5
  clear hx5 hc5
  go_wp2_with (at_builtin; go_must (refine wpList_append_ext8 (by rfl) _ _ (by rfl) w2.heap.size v4 (putB (ty.size : Int) ++ ty.data.toList) (by rfl) HX5.out.own ⟨g5, 0, none⟩ (putB tm).length q5 (putB tm) rfl (by rfl) HC5.out hp5 (by omega) (by omega) ?_; intro v6 w6 hx6; have c2 := hx6.grown.cell c2 hap4; have z6 := hx6.grown.size; have HX6 := Lib.hid (HX5.out.trans hx6); clear hx6))
  have hl6 : (putB (ty.size : Int) ++ ty.data.toList ++ putB tm).length ≤ 52 := by rw [List.length_append]; omega
  (with_reducible refine (refPut_any _ _ (by omega) (by omega)).mono ?_); rintro en w7 ⟨v7, rfl, hx7⟩
  obtain ⟨g7, q7, rfl, hc7⟩ := put_arg hx7 (putB_pos _)
  have HX7 := Lib.hid (HX6.out.post hx7.fresh)
  have hl7 := putB_le (vals.length : Int) (by omega) (by omega)
  have hp7 := putB_pos (vals.length : Int)
  have c2 := hx7.grown.cell c2 (by simp [Value.ownBlock])
  have z7 := hx7.grown.size
  have hap6 : some w.heap.size ≠ v6.ownBlock := fun e => by have := HX6.out.own.lt _ e.symm; omega
  have HC7 := Lib.hid hc7
  clear hx7 hc7
  go_wp2_with (at_builtin; go_must (refine wpList_append_ext8 (by rfl) _ _ (by rfl) w2.heap.size v6 (putB (ty.size : Int) ++ ty.data.toList ++ putB tm) (by rfl) HX7.out.own ⟨g7, 0, none⟩ (putB (vals.length : Int)).length q7 (putB (vals.length : Int)) rfl (by rfl) HC7.out hp7 (by omega) (by omega) ?_; intro v8 w8 hx8; have c2 := hx8.grown.cell c2 hap6; have z8 := hx8.grown.size; have HX8 := Lib.hid (HX7.out.trans hx8); clear hx8))
  obtain ⟨pre, hpre⟩ : ∃ pre, pre = evPre ⟨ty, tm, vals⟩ := ⟨_, rfl⟩
  rw [← HP.out, ← hpre] at HX8
  rw [← hpre] at HPL HEV
  have d2 := HC2.out.c2
  have hpl := HPL.out
  clear HP hpre HX3 HX4 HX5 HX6 HX7 c0 c1 c2 hl3 hl4 hl5 hl6 hl7 hp5 hp7 HC5 HC7 hap3 hap4 hap6
  go_loopw [4, 5] (fun v i wr => ∃ k : Nat, k ≤ vals.length ∧ i = .int .i64 k ∧ Ext8 w2.heap.size w2 (.slice none 0 0) wr v (pre ++ (vals.take k).flatMap valE) ∧ (vals.take k).all validB = true) (fun _ i _ => vals.length - (intOf i).toNat)
  case atStart => exact ⟨0, Nat.zero_le _, rfl, by simpa using HX8.out, rfl⟩
  case round =>
    obtain ⟨k, hk, rfl, hx, hall⟩ := hrel
    have HX := Lib.hid hx
    have HA := Lib.hid hall
    have zr := hx.grown.size
    have c2 := hx.grown.cell d2 (by simp [Value.ownBlock])
    have HVR := Lib.hid (HV2.out.below hx.fresh z2)
    have hcl : (pre ++ (vals.take k).flatMap valE).length ≤ 62 + 270 * 16 := by
      have h1 := vals_le (vals.take k) (fun a ha => ⟨List.all_eq_true.1 hall a ha, (HM.out a (List.mem_of_mem_take ha)).2⟩)
      rw [List.length_take] at h1
      rw [List.length_append]
      omega
    clear hx hall
    by_cases hlt : k < vals.length
    · obtain ⟨b, o, rfl, hbB, hc4⟩ : ∃ b o, va = some ⟨b, o, none⟩ ∧ b < W1.heap.size ∧ ∀ i (h : i < vals.length), wr.cell? ⟨b, o + i * 4, none⟩ = some (.int .i64 vals[i].kind) ∧ wr.cell? ⟨b, o + i * 4 + 1, none⟩ = some (.int .i64 vals[i].int) ∧ wr.cell? ⟨b, o + i * 4 + 2, none⟩ = some (.string vals[i].str) ∧ wr.cell? ⟨b, o + i * 4 + 3, none⟩ = some (.bool vals[i].bool) := by
        rcases HVR.out with h | h
        · rw [h] at hlt; simp at hlt
        · exact h
      obtain ⟨v0, v1, v2, v3⟩ := hc4 k hlt
      have hvi := HM.out _ (List.getElem_mem hlt)
      have HT2 := Lib.hid (fun h => all_take vals k hlt HA.out h)
      have HMEM := Lib.hid (List.getElem_mem hlt)
      have HVT := Lib.hid (vals_take vals k hlt)
      obtain ⟨⟨vk, vi, vs, vb⟩, hv⟩ : ∃ a, a = vals[k] := ⟨_, rfl⟩
      rw [← hv] at v0 v1 v2 v3 hvi HT2 HMEM HVT
      simp only at v0 v1 v2 v3
      obtain ⟨hm1, hm2, hm3⟩ := hvi
      simp only at hm1 hm2 hm3
      have k0 : (0 : Int) ≤ (k : Int) := by omega
      have k1 : (k : Int) < (vals.length : Int) := by omega
      clear hc4 hv
      obtain ⟨cur, hcur⟩ : ∃ cur, cur = pre ++ (vals.take k).flatMap valE := ⟨_, rfl⟩
      have HNX := Lib.hid (show pre ++ (vals.take (k + 1)).flatMap valE = cur ++ valE ⟨vk, vi, vs, vb⟩ by rw [HVT.out, hcur, List.append_assoc])
      rw [← hcur] at HX hcl
      have HCUR := Lib.hid hcur
      clear hcur
      go_upto_region 15 with fail
      obtain ⟨W2, hW2⟩ : ∃ W2, W2 = wr.alloc (Obj.cells #[.int .i64 vk, .int .i64 vi, .string vs, .bool vb] 95) := ⟨_, rfl⟩
      rw [← hW2]
      have hbW : Below wr.heap.size wr W2 := by rw [hW2]; exact (Below.refl _ _).alloc (Nat.le_refl _) _
      have zW : wr.heap.size + 1 = W2.heap.size := by rw [hW2]; simp
      have HBX := Lib.hid (show BoxV wr W2 ⟨vk, vi, vs, vb⟩ by rw [hW2]; exact BoxV.made wr ⟨vk, vi, vs, vb⟩)
      have HX2 := Lib.hid (HX.out.post hbW)
      have q0 := HBX.out.c0
      have q1 := HBX.out.c1
      have q2 := HBX.out.c2
      have q3 := HBX.out.c3
      simp only at q0 q1 q2 q3
      have hapr : some wr.heap.size ≠ u4.ownBlock := row_apart HX.out.own
      clear hW2 hbW
      have HVAL := Lib.hid (refValid_any ⟨vk, vi, vs, vb⟩ W2 hm1)
      simp only [Val.v] at HVAL
      go_wp2_with fail
      (with_reducible refine HVAL.out.mono ?_); rintro en w5 ⟨rfl, hb5⟩
      have HX5 := Lib.hid (HX2.out.post hb5)
      have HBX5 := Lib.hid (HBX.out.grown (grownBy_of_below hb5 none) (by simp))
      have z5 := hb5.size
      clear hb5 q0 q1 q2 q3
      cases hvl : validB ⟨vk, vi, vs, vb⟩
      case false =>
        have HE := Lib.hid (evFault_val (e := ⟨ty, tm, vals⟩) HN.out HT.out h3 HMEM.out hvl)
        clear hvl
        go_wp2_with fail
        go_ret2
        exact ⟨Or.inr ⟨by rw [HE.out]; decide, by rw [HE.out]; rfl⟩, HB2.out.trans (HX5.out.fresh.mono (by omega))⟩
      have HT3 := Lib.hid (HT2.out hvl)
      have q0 := HBX5.out.c0
      have q1 := HBX5.out.c1
      have q2 := HBX5.out.c2
      have q3 := HBX5.out.c3
      simp only at q0 q1 q2 q3
      have hk3 : vk = 1 ∨ vk = 2 ∨ vk = 3 := by
        unfold validB at hvl
        simp only at hvl
        split at hvl
        · exact Or.inl ‹_›
        · split at hvl
          · exact Or.inr (Or.inl ‹_›)
          · split at hvl
            · exact Or.inr (Or.inr ‹_›)
            · simp at hvl
      rcases hk3 with rfl | rfl | rfl
      · have HVE := Lib.hid (show valE ⟨1, vi, vs, vb⟩ = [1] ++ putB vi from rfl)
        have hlp := putB_le vi hm2 hm3
        have hpp := putB_pos vi
        clear hvl
        go_wp2_with (at_builtin; go_must (refine wpList_append_ext8 (by rfl) _ _ (by rfl) w2.heap.size u4 cur (by rfl) (HX5.out.own.alloc _) ⟨_, 0, none⟩ 1 1 [1] rfl (by rfl) (World.news_of_block (cs := #[.int .u8 1]) (t := 5) (fr := (0, 0)) (heap_alloc_new _ _)) (by omega) (by omega) (by simp; omega) ?_; intro v6 w6 hx6; have HX6 := Lib.hid (Ext8.trans (HX5.out.post ((Below.refl _ w5).alloc (Nat.le_refl _) _)) hx6); have hbx6 := (HBX5.out.grown (World.grownBy_alloc w5 (Obj.cells #[Value.int IntKind.u8 1] 5) none) (by simp)).grown hx6.grown hapr; have q0 := hbx6.c0; have q1 := hbx6.c1; simp only at q0 q1; have z6 := hx6.grown.size; rw [World.size_alloc] at z6; clear hx6 hbx6))
        (with_reducible refine (refPut_any _ _ hm2 hm3).mono ?_); rintro en w7 ⟨v7, rfl, hx7⟩
        obtain ⟨g7, q7, rfl, hc7⟩ := put_arg hx7 (putB_pos _)
        have HX7 := Lib.hid (HX6.out.post hx7.fresh)
        have z7 := hx7.grown.size
        have HC7 := Lib.hid hc7
        have hcl6 : (cur ++ [(1 : UInt8)]).length ≤ 5000 := by rw [List.length_append]; simp only [List.length_cons, List.length_nil]; omega
        clear hx7 hc7
        go_wp2_with (at_builtin; go_must (refine wpList_append_ext8 (by rfl) _ _ (by rfl) w2.heap.size v6 (cur ++ [1]) (by rfl) HX7.out.own ⟨g7, 0, none⟩ (putB vi).length q7 (putB vi) rfl (by rfl) HC7.out hpp (by omega) (by omega) ?_; intro v8 w8 hx8; have z8 := hx8.grown.size; have HX8 := Lib.hid (HX7.out.trans hx8); clear hx8))
        go_roundw
        case rel => exact ⟨k + 1, by omega, by go_num, by rw [HNX.out, HVE.out, ← List.append_assoc]; exact HX8.out, HT3.out⟩
        case measure => simp [intOf]; omega
      · have HVE := Lib.hid (show valE ⟨2, vi, vs, vb⟩ = [2] ++ (putB (vs.size : Int) ++ vs.data.toList) from rfl)
        have hs256 : vs.size ≤ 256 := by
          unfold validB at hvl
          rw [if_neg (by simp), if_pos rfl] at hvl
          simp only [Bool.and_eq_true, decide_eq_true_eq] at hvl
          exact hvl.2
        have hlp := putB_le (vs.size : Int) (by omega) (by omega)
        have hpp := putB_pos (vs.size : Int)
        clear hvl
        go_wp2_with (at_builtin; go_must (refine wpList_append_ext8 (by rfl) _ _ (by rfl) w2.heap.size u4 cur (by rfl) (HX5.out.own.alloc _) ⟨_, 0, none⟩ 1 1 [2] rfl (by rfl) (World.news_of_block (cs := #[.int .u8 2]) (t := 5) (fr := (0, 0)) (heap_alloc_new _ _)) (by omega) (by omega) (by simp; omega) ?_; intro v6 w6 hx6; have HX6 := Lib.hid (Ext8.trans (HX5.out.post ((Below.refl _ w5).alloc (Nat.le_refl _) _)) hx6); have hbx6 := (HBX5.out.grown (World.grownBy_alloc w5 (Obj.cells #[Value.int IntKind.u8 2] 5) none) (by simp)).grown hx6.grown hapr; have q0 := hbx6.c0; have q1 := hbx6.c1; have q2 := hbx6.c2; have q3 := hbx6.c3; simp only at q0 q1 q2 q3; have z6 := hx6.grown.size; rw [World.size_alloc] at z6; have hap6 := row_still hx6.row hapr (by simp; omega); clear hx6 hbx6))
        (with_reducible refine (refPut_any _ _ (by omega) (by omega)).mono ?_); rintro en w7 ⟨v7, rfl, hx7⟩
        obtain ⟨g7, q7, rfl, hc7⟩ := put_arg hx7 (putB_pos _)
        have HX7 := Lib.hid (HX6.out.post hx7.fresh)
        have q2 := hx7.grown.cell q2 (by simp [Value.ownBlock])
        have z7 := hx7.grown.size
        have HC7 := Lib.hid hc7
        have hcl6 : (cur ++ [(2 : UInt8)]).length ≤ 5000 := by rw [List.length_append]; simp only [List.length_cons, List.length_nil]; omega
        clear hx7 hc7
        go_upto_region 23 with (at_builtin; go_must (refine wpList_append_ext8 (by rfl) _ _ (by rfl) w2.heap.size v6 (cur ++ [2]) (by rfl) HX7.out.own ⟨g7, 0, none⟩ (putB (vs.size : Int)).length q7 (putB (vs.size : Int)) rfl (by rfl) HC7.out hpp (by omega) (by omega) ?_; intro v8 w8 hx8; have z8 := hx8.grown.size; have q2 := hx8.grown.cell q2 hap6; have HX8 := Lib.hid (HX7.out.trans hx8); clear hx8))
        have hcl8 : (cur ++ [(2 : UInt8)] ++ putB (vs.size : Int)).length ≤ 5010 := by rw [List.length_append]; omega
        go_wp2_with (at_builtin; go_must (refine wpList_append_string_at _ (by rfl) _ _ _ _ (by rfl) w2.heap.size 5 i0 Tryd.underlying25 Tryd.underlying9 hi0 hz0 hz1 hz2 v8 (cur ++ [2] ++ putB (vs.size : Int)).length (bytesC (cur ++ [2] ++ putB (vs.size : Int))) (by rfl) HX8.out.own vs (by rfl) (by unfold maxLen; omega) (by omega) (by omega) ?_; intro v9 w9 hown9 hgrow9 hat9; have z9 := hgrow9.size; have HX9 := Lib.hid (HX8.out.trans (Ext8.appS rfl hown9 hgrow9 hat9)); clear hown9 hgrow9 hat9))
        go_roundw
        case rel => exact ⟨k + 1, by omega, by go_num, by rw [HNX.out, HVE.out, ← List.append_assoc, ← List.append_assoc]; exact HX9.out, HT3.out⟩
        case measure => simp [intOf]; omega
      · clear hvl
        have hcl6 : (cur ++ [(3 : UInt8)]).length ≤ 5000 := by rw [List.length_append]; simp only [List.length_cons, List.length_nil]; omega
        cases vb
        · have HVE := Lib.hid (show valE ⟨3, vi, vs, false⟩ = [3] ++ [0] from rfl)
          go_upto_region 19 with ((at_builtin; go_must (refine wpList_append_ext8 (by rfl) _ _ (by rfl) w2.heap.size u4 cur (by rfl) (HX5.out.own.alloc _) ⟨_, 0, none⟩ 1 1 [3] rfl (by rfl) (World.news_of_block (cs := #[.int .u8 3]) (t := 5) (fr := (0, 0)) (heap_alloc_new _ _)) (by omega) (by omega) (by simp; omega) ?_; intro v6 w6 hx6; have HX6 := Lib.hid (Ext8.trans (HX5.out.post ((Below.refl _ w5).alloc (Nat.le_refl _) _)) hx6); have hbx6 := (HBX5.out.grown (World.grownBy_alloc w5 (Obj.cells #[Value.int IntKind.u8 3] 5) none) (by simp)).grown hx6.grown hapr; have q0 := hbx6.c0; have q1 := hbx6.c1; have q2 := hbx6.c2; have q3 := hbx6.c3; simp only at q0 q1 q2 q3; have z6 := hx6.grown.size; rw [World.size_alloc] at z6; have hap6 := row_still hx6.row hapr (by simp; omega); clear hx6 hbx6)))
          go_wp2_with (at_builtin; go_must (refine wpList_append_ext8 (by rfl) _ _ (by rfl) w2.heap.size v6 (cur ++ [3]) (by rfl) (HX6.out.own.alloc _) ⟨_, 0, none⟩ 1 1 [0] rfl (by rfl) (World.news_of_block (cs := #[.int .u8 0]) (t := 5) (fr := (0, 0)) (heap_alloc_new _ _)) (by omega) (by omega) (by simp; omega) ?_; intro v8 w8 hx8; have z8 := hx8.grown.size; rw [World.size_alloc] at z8; have HX8 := Lib.hid (Ext8.trans (HX6.out.post ((Below.refl _ w6).alloc (Nat.le_refl _) _)) hx8); clear hx8))
          go_roundw
          case rel => exact ⟨k + 1, by omega, by go_num, by rw [HNX.out, HVE.out, ← List.append_assoc]; exact HX8.out, HT3.out⟩
          case measure => simp [intOf]; omega
        · have HVE := Lib.hid (show valE ⟨3, vi, vs, true⟩ = [3] ++ [1] from rfl)
          go_upto_region 19 with ((at_builtin; go_must (refine wpList_append_ext8 (by rfl) _ _ (by rfl) w2.heap.size u4 cur (by rfl) (HX5.out.own.alloc _) ⟨_, 0, none⟩ 1 1 [3] rfl (by rfl) (World.news_of_block (cs := #[.int .u8 3]) (t := 5) (fr := (0, 0)) (heap_alloc_new _ _)) (by omega) (by omega) (by simp; omega) ?_; intro v6 w6 hx6; have HX6 := Lib.hid (Ext8.trans (HX5.out.post ((Below.refl _ w5).alloc (Nat.le_refl _) _)) hx6); have hbx6 := (HBX5.out.grown (World.grownBy_alloc w5 (Obj.cells #[Value.int IntKind.u8 3] 5) none) (by simp)).grown hx6.grown hapr; have q0 := hbx6.c0; have q1 := hbx6.c1; have q2 := hbx6.c2; have q3 := hbx6.c3; simp only at q0 q1 q2 q3; have z6 := hx6.grown.size; rw [World.size_alloc] at z6; have hap6 := row_still hx6.row hapr (by simp; omega); clear hx6 hbx6)))
          go_wp2_with (at_builtin; go_must (refine wpList_append_ext8 (by rfl) _ _ (by rfl) w2.heap.size v6 (cur ++ [3]) (by rfl) (HX6.out.own.alloc _) ⟨_, 0, none⟩ 1 1 [1] rfl (by rfl) (World.news_of_block (cs := #[.int .u8 1]) (t := 5) (fr := (0, 0)) (heap_alloc_new _ _)) (by omega) (by omega) (by simp; omega) ?_; intro v8 w8 hx8; have z8 := hx8.grown.size; rw [World.size_alloc] at z8; have HX8 := Lib.hid (Ext8.trans (HX6.out.post ((Below.refl _ w6).alloc (Nat.le_refl _) _)) hx8); clear hx8))
          go_roundw
          case rel => exact ⟨k + 1, by omega, by go_num, by rw [HNX.out, HVE.out, ← List.append_assoc]; exact HX8.out, HT3.out⟩
          case measure => simp [intOf]; omega
    · have HE := Lib.hid (show pre ++ (vals.take k).flatMap valE = evE ⟨ty, tm, vals⟩ by rw [HEV.out, List.take_of_length_le (by omega)])
      have HF := Lib.hid (show evFault ⟨ty, tm, vals⟩ = 0 from evFault_fine HN.out HT.out h3 (by have := HA.out; rwa [List.take_of_length_le (by omega)] at this))
      go_wp2_with fail
      go_ret2
      have h := HX.out
      rw [HE.out] at h
      exact ⟨Or.inl ⟨HF.out, _, rfl, own_base h.own (by omega)⟩, HB2.out.trans (h.fresh.mono (by omega))⟩
end Go.Proofs.YtmdhacboegmccaaDoor
