/- The document's own reader: value. -/
import Derived.Test.YtmdhacboegmccaaDoorRefText
namespace Go.Proofs.YtmdhacboegmccaaDoor
open Go Go.RowKit

theorem RfAt.keep {w w' : World} {rb B : Nat} {l : List UInt8} {r : Rd} (h : RfAt w rb B l r) (hh : w'.heap[rb]? = w.heap[rb]?) (hk : ∀ k, k < B → w'.heap[k]? = w.heap[k]?) : RfAt w' rb B l r := by
  obtain ⟨ao, cap, p, c0, c1, h1, h2, h3, h4, h5, h6⟩ := h.ex
  have e : ∀ j : Nat, w'.cell? ⟨rb, j, none⟩ = w.cell? ⟨rb, j, none⟩ := fun j => World.cell?_of_block (w := w) hh
  have ef : ∀ j : Nat, w'.frozen? ⟨rb, j, none⟩ = w.frozen? ⟨rb, j, none⟩ := fun j => World.frozen?_of_block (w := w) hh
  refine ⟨⟨ao, cap, p, (e 0).trans c0, (e 1).trans c1, h1, h2, h3, ?_, h5, h6⟩, (e 2).trans h.c2, (ef 1).trans h.f1, (ef 2).trans h.f2⟩
  rcases h4 with h | ⟨b, o, rfl, g1, g2, g3⟩
  · exact Or.inl h
  · exact Or.inr ⟨b, o, rfl, g1, g2, fun i hi => (World.cell?_of_block (w := w) (hk b g2)).trans (g3 i hi)⟩
theorem RfTo.set {rb B : Nat} {l : List UInt8} {w w' : World} {r : Rd} {a : Addr} (h : RfTo rb B l w w' r) (hB : B ≤ w.heap.size) (hrb : rb < w.heap.size) (ha : w.heap.size ≤ a.block) (x : Value) : RfTo rb B l w (w'.setCell a x) r := by
  have hk : ∀ k, k < w.heap.size → (w'.setCell a x).heap[k]? = w'.heap[k]? := fun k hk => Below.heap_setCell _ _ _ _ (by omega)
  refine ⟨⟨h.grown.os, h.grown.tape, h.grown.output, by simpa [World.setCell] using h.grown.size, fun k h1 h2 => (hk k h1).trans (h.grown.block k h1 h2)⟩, h.at'.keep (hk rb hrb) (fun k h1 => hk k (by omega))⟩
theorem Cells4.toF {rb B : Nat} {l : List UInt8} {w w' : World} {b : Nat} {v0 v1 v2 v3 : Value} {r : Rd} (h : Cells4 w b v0 v1 v2 v3) (ht : RfTo rb B l w w' r) (hne : b ≠ rb) : Cells4 w' b v0 v1 v2 v3 := h.keep (ht.grown.block b h.lt (fun e => hne (Option.some.inj e)))

theorem value_eq (r : Rd) : valueR r = tailR (singleR 1 3 r).1 (singleR 1 3 r).2 := rfl
theorem one_nil {r : Rd} (h : r.rest = []) : oneU r = (0, r.refuse 30) := by unfold oneU; rw [h]
theorem one_cons {r : Rd} {x : UInt8} {t : List UInt8} (h : r.rest = x :: t) : oneU r = (x.toNat, ⟨t, r.fault⟩) := by unfold oneU; rw [h]
theorem single_nil {lo hi : Nat} {r : Rd} (h : r.rest = []) : singleR lo hi r = (0, r.refuse 30) := by unfold singleR; rw [h]
theorem single_cons {lo hi : Nat} {r : Rd} {x : UInt8} {t : List UInt8} (h : r.rest = x :: t) : singleR lo hi r = if x.toNat < lo ∨ hi < x.toNat then (0, r.refuse 31) else (x.toNat, ⟨t, r.fault⟩) := by unfold singleR; rw [h]
theorem value_short {r : Rd} (h : r.fault ≠ 0 → r.rest = []) (h2 : (oneU r).2.fault ≠ 0) : (valueR r).2 = (oneU r).2 ∧ (valueR r).2.fault ≠ 0 := by
  have hr : r.rest = [] := by
    cases hl : r.rest with
    | nil => rfl
    | cons x t =>
      rw [one_cons hl] at h2
      rw [h h2] at hl
      cases hl
  have e : (valueR r).2 = (oneU r).2 := by rw [value_eq, single_nil hr, one_nil hr]; rfl
  exact ⟨e, by rw [e]; exact h2⟩
theorem refuse_zero (l : List UInt8) (f : Int) : (⟨l, 0⟩ : Rd).refuse f = ⟨[], f⟩ := refuse_ok l f
/-- A kind was read. -/
theorem one_kind {r : Rd} (h : (oneU r).2.fault = 0) : ∃ (x : UInt8) (t : List UInt8), r.rest = x :: t ∧ r.fault = 0 ∧ oneU r = (x.toNat, ⟨t, 0⟩) := by
  cases hl : r.rest with
  | nil =>
    rw [one_nil hl] at h
    unfold Rd.refuse at h
    split at h
    · cases h
    · contradiction
  | cons x t =>
    rw [one_cons hl] at h ⊢
    exact ⟨x, t, rfl, h, by rw [h]⟩
theorem value_of {r : Rd} {x : UInt8} {t : List UInt8} (h : r.rest = x :: t) (h0 : r.fault = 0) (h1 : 1 ≤ x.toNat ∧ x.toNat ≤ 3) : valueR r = tailR x.toNat ⟨t, 0⟩ := by
  rw [value_eq, single_cons h, if_neg (by omega), h0]
theorem value_other {r : Rd} {x : UInt8} {t : List UInt8} (h : r.rest = x :: t) (h0 : r.fault = 0) (h1 : ¬ (1 ≤ x.toNat ∧ x.toNat ≤ 3)) : (valueR r).2 = ⟨[], 31⟩ := by
  rw [value_eq, single_cons h, if_pos (by omega)]
  obtain ⟨l, f⟩ := r
  simp only at h0
  subst h0
  rfl
theorem single_le1 {t : List UInt8} (h : (oneU ⟨t, 0⟩).1 ≤ 1) : singleR 0 1 ⟨t, 0⟩ = oneU ⟨t, 0⟩ := by
  cases t with
  | nil => rfl
  | cons y t =>
    rw [one_cons (r := ⟨y :: t, 0⟩) rfl] at h ⊢
    rw [single_cons (r := ⟨y :: t, 0⟩) rfl, if_neg (by simp only at h; omega)]
theorem single_gt1 {t : List UInt8} (h : 1 < (oneU ⟨t, 0⟩).1) : singleR 0 1 ⟨t, 0⟩ = (0, (oneU ⟨t, 0⟩).2.refuse 31) := by
  cases t with
  | nil => exact absurd h (by decide)
  | cons y t =>
    rw [one_cons (r := ⟨y :: t, 0⟩) rfl] at h ⊢
    rw [single_cons (r := ⟨y :: t, 0⟩) rfl, if_pos (by simp only at h; omega), refuse_zero, refuse_zero]

/-- What value answers. -/
def ValTo (r : Rd) (en : Ending) : Prop := ∃ a : Val, en = .returned a.v ∧ ((valueR r).2.fault = 0 → a = (valueR r).1)

set_option maxHeartbeats 8000000 in
set_option maxRecDepth 100000 in
theorem refValue_any (rb B : Nat) (l : List UInt8) (r : Rd) (w : World) (hr : RfAt w rb B l r) (hB : B ≤ w.heap.size) :
    Calls Tryd.prog 60 #[.pointer (some ⟨rb, 0, none⟩)] w fun en w' => ValTo r en ∧ RfTo rb B l w w' (valueR r).2 := by
  have hrl := hr.lt
  have h6 : r.fault ≠ 0 → r.rest = [] := by obtain ⟨_, _, _, _, _, _, _, _, _, _, h⟩ := hr.ex; exact h
  obtain ⟨W0, hW0⟩ : ∃ W0, W0 = w.alloc (Obj.cells #[.int .i64 0, .int .i64 0, .string ⟨#[]⟩, .bool false] 95) := ⟨_, rfl⟩
  have hb0 : Below w.heap.size w W0 := by rw [hW0]; exact (Below.refl _ _).alloc (Nat.le_refl _) _
  have HB0 := Lib.hid hb0
  have HR0 := Lib.hid (hr.below hb0)
  have HA0 := Lib.hid (show Cells4 W0 w.heap.size (.int .i64 0) (.int .i64 0) (.string ⟨#[]⟩) (.bool false) by rw [hW0]; exact Cells4.made _ _ _ _ _ _)
  have hz0 : w.heap.size < W0.heap.size := by rw [hW0]; simp
  have HW0 := Lib.hid hW0
  have HS := Lib.hid (refOne_any rb B l r W0 HR0.out)
  have HSH := Lib.hid (value_short h6)
  have HOK := Lib.hid (one_kind (r := r))
  have hne : w.heap.size ≠ rb := by omega
  obtain ⟨⟨kn, r1⟩, hkr⟩ : ∃ x, x = oneU r := ⟨_, rfl⟩
  rw [← hkr] at HS HSH HOK
  simp only at HS HSH HOK
  obtain ⟨k, hk⟩ : ∃ k : Int, k = (kn : Int) := ⟨_, rfl⟩
  rw [← hk] at HS
  have hk0 : 0 ≤ k := by omega
  have hk255 : k ≤ 255 := by
    have : kn ≤ 255 := by
      have h := congrArg Prod.fst hkr
      simp only at h
      rw [h]
      unfold oneU
      split
      · simp
      · rename_i x t _
        have := x.toNat_lt
        simp only
        omega
    omega
  have HK := Lib.hid hk
  clear hr hb0 hW0 hkr hk h6
  go_enter Tryd.func60, Tryd.ntmps60
  go_upto_region 1 with fail
  rw [← HW0.out]
  go_wp2_with fail
  (with_reducible refine HS.out.mono ?_); rintro e w1 ⟨rfl, hto1⟩
  have HTO1 := Lib.hid hto1
  have HA1 := Lib.hid (HA0.out.toF hto1 hne)
  have hz1 : w.heap.size < w1.heap.size := Nat.lt_of_lt_of_le hz0 hto1.grown.size
  have c2 := hto1.at'.c2
  clear hto1
  cases h : (r1.fault == 0)
  · have h0 : r1.fault ≠ 0 := by simpa using h
    have HE := Lib.hid (HSH.out h0)
    have hn : (r1.fault != 0) = true := by simpa using h0
    have HTO := Lib.hid (RfTo.pre HB0.out HTO1.out)
    have a0 := HA1.out.c0
    have b0 := HA1.out.f0
    have a1 := HA1.out.c1
    have b1 := HA1.out.f1
    have a2 := HA1.out.c2
    have b2 := HA1.out.f2
    have a3 := HA1.out.c3
    have b3 := HA1.out.f3
    clear h0
    go_wp2_with fail
    refine bodyPost_ret (v := .agg #[.int .i64 0, .int .i64 0, .string ⟨#[]⟩, .bool false]) (by simp [results, Tryd.results60, go_sem, a0, a1, a2, a3]) rfl ⟨⟨⟨0, 0, ⟨#[]⟩, false⟩, rfl, fun e => absurd e HE.out.2⟩, ?_⟩
    rw [HE.out.1]
    exact (((HTO.out.set hB hrl (Nat.le_refl _) _).set hB hrl (Nat.le_refl _) _).set hB hrl (Nat.le_refl _) _).set hB hrl (Nat.le_refl _) _
  have h0 : r1.fault = 0 := by simpa using h
  have hn : (r1.fault != 0) = false := by simpa using h0
  have HKX := Lib.hid (HOK.out h0)
  clear h0 h HSH HOK
  obtain ⟨W2, hW2⟩ : ∃ W2, W2 = w1.alloc (Obj.cells #[.int .i64 k, .int .i64 0, .string ⟨#[]⟩, .bool false] 95) := ⟨_, rfl⟩
  have hb2 : Below w1.heap.size w1 W2 := by rw [hW2]; exact (Below.refl _ _).alloc (Nat.le_refl _) _
  have HTO2 := Lib.hid ((RfTo.pre HB0.out HTO1.out).below hb2)
  have HA2 := Lib.hid (show Cells4 W2 w.heap.size (.int .i64 0) (.int .i64 0) (.string ⟨#[]⟩) (.bool false) by rw [hW2]; exact HA1.out.alloc _)
  obtain ⟨V, hV⟩ : ∃ V, V = w1.heap.size := ⟨_, rfl⟩
  have HV2 := Lib.hid (show Cells4 W2 V (.int .i64 k) (.int .i64 0) (.string ⟨#[]⟩) (.bool false) by rw [hW2, hV]; exact Cells4.made _ _ _ _ _ _)
  have hVw : w.heap.size < V := by omega
  have HW2 := Lib.hid hW2
  have HVE := Lib.hid hV
  have hVr : V ≠ rb := by omega
  have hVA : V ≠ w.heap.size := by omega
  have hAV : w.heap.size ≠ V := by omega
  clear hb2 hW2 hV
  obtain ⟨x, t, hx, hf0, hox⟩ := HKX.out
  have hr1 : r1 = ⟨t, 0⟩ := congrArg Prod.snd hox
  have hk1 : kn = x.toNat := congrArg Prod.fst hox
  have hkx : k = (x.toNat : Int) := by rw [HK.out, hk1]
  have HR1 := Lib.hid hr1
  have HX := Lib.hid hx
  have HF0 := Lib.hid hf0
  have HKX2 := Lib.hid hkx
  clear hr1 hx hf0 hkx hox hk1
  have hkk : k = 1 ∨ k = 2 ∨ k = 3 ∨ ¬ (1 ≤ k ∧ k ≤ 3) := by omega
  rcases hkk with rfl | rfl | rfl | hko
  · have HE := Lib.hid (show valueR r = (⟨1, (numberR (-9223372036854775808) 9223372036854775807 r1).1, ⟨#[]⟩, false⟩, (numberR (-9223372036854775808) 9223372036854775807 r1).2) by rw [value_of HX.out HF0.out (by have := HKX2.out; omega), show x.toNat = 1 by have := HKX2.out; omega, ← HR1.out]; rfl)
    have HC := Lib.hid (refNumber_any rb B l r1 (-9223372036854775808) 9223372036854775807 W2 HTO2.out.at')
    go_upto_region 5 with fail
    rw [← HW2.out, ← HVE.out]
    go_wp2_with fail
    (with_reducible refine HC.out.mono ?_); rintro e w3 ⟨rfl, hto3⟩
    have HA3 := Lib.hid (HA2.out.toF hto3 hne)
    have HV3 := Lib.hid (HV2.out.toF hto3 hVr)
    have HTO3 := Lib.hid (HTO2.out.trans hto3)
    clear hto3
    have a0 := HA3.out.c0
    have b0 := HA3.out.f0
    have v0 := HV3.out.c0
    have a1 := HA3.out.c1
    have b1 := HA3.out.f1
    have v1 := HV3.out.c1
    have a2 := HA3.out.c2
    have b2 := HA3.out.f2
    have v2 := HV3.out.c2
    have a3 := HA3.out.c3
    have b3 := HA3.out.f3
    have v3 := HV3.out.c3
    have g1 := HV3.out.f1
    have g2 := HV3.out.f2
    have g3 := HV3.out.f3
    go_wp2_with fail
    refine bodyPost_ret (v := .agg #[.int .i64 1, .int .i64 (numberR (-9223372036854775808) 9223372036854775807 r1).1, .string ⟨#[]⟩, .bool false]) (by simp [results, Tryd.results60, go_sem, a0, a1, a2, a3]) rfl ⟨⟨⟨1, (numberR (-9223372036854775808) 9223372036854775807 r1).1, ⟨#[]⟩, false⟩, rfl, fun _ => by rw [HE.out]⟩, ?_⟩
    rw [HE.out]
    exact (((((HTO3.out.set hB hrl (Nat.le_of_lt hVw) _).set hB hrl (Nat.le_refl _) _).set hB hrl (Nat.le_refl _) _).set hB hrl (Nat.le_refl _) _).set hB hrl (Nat.le_refl _) _)
  · have HE := Lib.hid (show valueR r = (⟨2, 0, (textR 0 256 r1).1, false⟩, (textR 0 256 r1).2) by rw [value_of HX.out HF0.out (by have := HKX2.out; omega), show x.toNat = 2 by have := HKX2.out; omega, ← HR1.out]; rfl)
    have HC := Lib.hid (refText_any rb B l r1 0 256 W2 HTO2.out.at' (by omega) (by omega))
    go_upto_region 5 with fail
    rw [← HW2.out, ← HVE.out]
    go_wp2_with fail
    (with_reducible refine HC.out.mono ?_); rintro e w3 ⟨rfl, hto3⟩
    have HA3 := Lib.hid (HA2.out.toF hto3 hne)
    have HV3 := Lib.hid (HV2.out.toF hto3 hVr)
    have HTO3 := Lib.hid (HTO2.out.trans hto3)
    clear hto3
    have a0 := HA3.out.c0
    have b0 := HA3.out.f0
    have v0 := HV3.out.c0
    have a1 := HA3.out.c1
    have b1 := HA3.out.f1
    have v1 := HV3.out.c1
    have a2 := HA3.out.c2
    have b2 := HA3.out.f2
    have v2 := HV3.out.c2
    have a3 := HA3.out.c3
    have b3 := HA3.out.f3
    have v3 := HV3.out.c3
    have g1 := HV3.out.f1
    have g2 := HV3.out.f2
    have g3 := HV3.out.f3
    go_wp2_with fail
    refine bodyPost_ret (v := .agg #[.int .i64 2, .int .i64 0, .string (textR 0 256 r1).1, .bool false]) (by simp [results, Tryd.results60, go_sem, a0, a1, a2, a3]) rfl ⟨⟨⟨2, 0, (textR 0 256 r1).1, false⟩, rfl, fun _ => by rw [HE.out]⟩, ?_⟩
    rw [HE.out]
    exact (((((HTO3.out.set hB hrl (Nat.le_of_lt hVw) _).set hB hrl (Nat.le_refl _) _).set hB hrl (Nat.le_refl _) _).set hB hrl (Nat.le_refl _) _).set hB hrl (Nat.le_refl _) _)
  · have HC := Lib.hid (refOne_any rb B l r1 W2 HTO2.out.at')
    have HVO := Lib.hid (show valueR r = (⟨3, 0, ⟨#[]⟩, (singleR 0 1 r1).1 == 1⟩, (singleR 0 1 r1).2) by rw [value_of HX.out HF0.out (by have := HKX2.out; omega), show x.toNat = 3 by have := HKX2.out; omega, ← HR1.out]; rfl)
    have HL1 := Lib.hid (show (oneU r1).1 ≤ 1 → singleR 0 1 r1 = oneU r1 by rw [HR1.out]; exact single_le1)
    have HG1 := Lib.hid (show 1 < (oneU r1).1 → singleR 0 1 r1 = (0, (oneU r1).2.refuse 31) by rw [HR1.out]; exact single_gt1)
    obtain ⟨⟨y, r2⟩, hy⟩ : ∃ q, q = oneU r1 := ⟨_, rfl⟩
    rw [← hy] at HC HL1 HG1
    simp only at HC HL1 HG1
    clear hy
    go_upto_region 5 with fail
    rw [← HW2.out, ← HVE.out]
    go_wp2_with fail
    (with_reducible refine HC.out.mono ?_); rintro e w3 ⟨rfl, hto3⟩
    have HA3 := Lib.hid (HA2.out.toF hto3 hne)
    have HV3 := Lib.hid (HV2.out.toF hto3 hVr)
    have HTO3 := Lib.hid (HTO2.out.trans hto3)
    have hz3 := hto3.grown.size
    clear hto3
    by_cases hy1 : 1 < y
    · have HE := Lib.hid (show valueR r = (⟨3, 0, ⟨#[]⟩, false⟩, r2.refuse 31) by rw [HVO.out, HG1.out hy1]; rfl)
      have hy2 : (1 : Int) < (y : Int) := by omega
      have hy3 : ((y : Int) == 1) = false := by rw [beq_eq_false_iff_ne]; omega
      go_wp2_with fail
      (with_reducible refine (refFault_any rb B l r2 31 (by decide) w3 HTO3.out.at').mono ?_); rintro e w4 ⟨rfl, hto4⟩
      have HA4 := Lib.hid (HA3.out.toF hto4 hne)
      have HV4 := Lib.hid (HV3.out.toF hto4 hVr)
      have HTO4 := Lib.hid (HTO3.out.trans hto4)
      clear hto4
      have a0 := HA4.out.c0
      have b0 := HA4.out.f0
      have v0 := HV4.out.c0
      have a1 := HA4.out.c1
      have b1 := HA4.out.f1
      have v1 := HV4.out.c1
      have a2 := HA4.out.c2
      have b2 := HA4.out.f2
      have v2 := HV4.out.c2
      have a3 := HA4.out.c3
      have b3 := HA4.out.f3
      have v3 := HV4.out.c3
      have g1 := HV4.out.f1
      have g2 := HV4.out.f2
      have g3 := HV4.out.f3
      go_wp2_with fail
      refine bodyPost_ret (v := .agg #[.int .i64 3, .int .i64 0, .string ⟨#[]⟩, .bool false]) (by simp [results, Tryd.results60, go_sem, a0, a1, a2, a3]) rfl ⟨⟨⟨3, 0, ⟨#[]⟩, false⟩, rfl, fun _ => by rw [HE.out]⟩, ?_⟩
      rw [HE.out]
      exact (((((HTO4.out.set hB hrl (Nat.le_of_lt hVw) _).set hB hrl (Nat.le_refl _) _).set hB hrl (Nat.le_refl _) _).set hB hrl (Nat.le_refl _) _).set hB hrl (Nat.le_refl _) _)
    · have hyy : y = 0 ∨ y = 1 := by omega
      rcases hyy with rfl | rfl
      · have HE := Lib.hid (show valueR r = (⟨3, 0, ⟨#[]⟩, false⟩, r2) by rw [HVO.out, HL1.out (by omega)]; rfl)
        have a0 := HA3.out.c0
        have b0 := HA3.out.f0
        have v0 := HV3.out.c0
        have a1 := HA3.out.c1
        have b1 := HA3.out.f1
        have v1 := HV3.out.c1
        have a2 := HA3.out.c2
        have b2 := HA3.out.f2
        have v2 := HV3.out.c2
        have a3 := HA3.out.c3
        have b3 := HA3.out.f3
        have v3 := HV3.out.c3
        have g1 := HV3.out.f1
        have g2 := HV3.out.f2
        have g3 := HV3.out.f3
        go_wp2_with fail
        refine bodyPost_ret (v := .agg #[.int .i64 3, .int .i64 0, .string ⟨#[]⟩, .bool false]) (by simp [results, Tryd.results60, go_sem, a0, a1, a2, a3]) rfl ⟨⟨⟨3, 0, ⟨#[]⟩, false⟩, rfl, fun _ => by rw [HE.out]⟩, ?_⟩
        rw [HE.out]
        exact (((((HTO3.out.set hB hrl (Nat.le_of_lt hVw) _).set hB hrl (Nat.le_refl _) _).set hB hrl (Nat.le_refl _) _).set hB hrl (Nat.le_refl _) _).set hB hrl (Nat.le_refl _) _)
      · have HE := Lib.hid (show valueR r = (⟨3, 0, ⟨#[]⟩, true⟩, r2) by rw [HVO.out, HL1.out (by omega)]; rfl)
        have a0 := HA3.out.c0
        have b0 := HA3.out.f0
        have v0 := HV3.out.c0
        have a1 := HA3.out.c1
        have b1 := HA3.out.f1
        have v1 := HV3.out.c1
        have a2 := HA3.out.c2
        have b2 := HA3.out.f2
        have v2 := HV3.out.c2
        have a3 := HA3.out.c3
        have b3 := HA3.out.f3
        have v3 := HV3.out.c3
        have g1 := HV3.out.f1
        have g2 := HV3.out.f2
        have g3 := HV3.out.f3
        go_wp2_with fail
        refine bodyPost_ret (v := .agg #[.int .i64 3, .int .i64 0, .string ⟨#[]⟩, .bool true]) (by simp [results, Tryd.results60, go_sem, a0, a1, a2, a3]) rfl ⟨⟨⟨3, 0, ⟨#[]⟩, true⟩, rfl, fun _ => by rw [HE.out]⟩, ?_⟩
        rw [HE.out]
        exact (((((HTO3.out.set hB hrl (Nat.le_of_lt hVw) _).set hB hrl (Nat.le_refl _) _).set hB hrl (Nat.le_refl _) _).set hB hrl (Nat.le_refl _) _).set hB hrl (Nat.le_refl _) _)
  · have HE := Lib.hid (show (valueR r).2 = ⟨[], 31⟩ from value_other HX.out HF0.out (by have := HKX2.out; omega))
    have HRR := Lib.hid (show r1.refuse 31 = ⟨[], 31⟩ by rw [HR1.out]; exact refuse_zero t 31)
    have q1 : (k == 1) = false := by rw [beq_eq_false_iff_ne]; omega
    have q2 : (k == 2) = false := by rw [beq_eq_false_iff_ne]; omega
    have q3 : (k == 3) = false := by rw [beq_eq_false_iff_ne]; omega
    have HC := Lib.hid (refFault_any rb B l r1 31 (by decide) W2 HTO2.out.at')
    clear hko
    go_upto_region 5 with fail
    rw [← HW2.out, ← HVE.out]
    go_wp2_with fail
    (with_reducible refine HC.out.mono ?_); rintro e w3 ⟨rfl, hto3⟩
    have HA3 := Lib.hid (HA2.out.toF hto3 hne)
    have HV3 := Lib.hid (HV2.out.toF hto3 hVr)
    have HTO3 := Lib.hid (HTO2.out.trans hto3)
    clear hto3
    have a0 := HA3.out.c0
    have b0 := HA3.out.f0
    have v0 := HV3.out.c0
    have a1 := HA3.out.c1
    have b1 := HA3.out.f1
    have v1 := HV3.out.c1
    have a2 := HA3.out.c2
    have b2 := HA3.out.f2
    have v2 := HV3.out.c2
    have a3 := HA3.out.c3
    have b3 := HA3.out.f3
    have v3 := HV3.out.c3
    have g1 := HV3.out.f1
    have g2 := HV3.out.f2
    have g3 := HV3.out.f3
    go_wp2_with fail
    refine bodyPost_ret (v := .agg #[.int .i64 k, .int .i64 0, .string ⟨#[]⟩, .bool false]) (by simp [results, Tryd.results60, go_sem, a0, a1, a2, a3]) rfl ⟨⟨⟨k, 0, ⟨#[]⟩, false⟩, rfl, fun e => by rw [HE.out] at e; cases e⟩, ?_⟩
    rw [HE.out, ← HRR.out]
    exact ((((HTO3.out.set hB hrl (Nat.le_refl _) _).set hB hrl (Nat.le_refl _) _).set hB hrl (Nat.le_refl _) _).set hB hrl (Nat.le_refl _) _)
end Go.Proofs.YtmdhacboegmccaaDoor
