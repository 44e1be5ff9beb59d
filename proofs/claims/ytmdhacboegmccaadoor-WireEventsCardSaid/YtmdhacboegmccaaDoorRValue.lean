/- Package wire, the reader: value. -/
import Derived.Test.YtmdhacboegmccaaDoorRText
import Derived.Outline
namespace Go.Proofs.YtmdhacboegmccaaDoor
open Go Go.RowKit

theorem RdTo.pre {rb B : Nat} {w w1 w' : World} {r : Rd} (hb : Below w.heap.size w w1) (h : RdTo rb B w1 w' r) : RdTo rb B w w' r := ⟨grownBy_trans (grownBy_of_below hb (some rb)) h.grown (Or.inl rfl), h.at'⟩
/-- The reader beside memory that is written: from a block on, the reader's own one left out. -/
theorem RdAt.keep {w w' : World} {rb B : Nat} {r : Rd} (h : RdAt w rb B r) (hh : w'.heap[rb]? = w.heap[rb]?) (hk : ∀ k, k < B → w'.heap[k]? = w.heap[k]?) : RdAt w' rb B r := by
  obtain ⟨ao, cap, c0, h1, h2, h3⟩ := h.ex
  refine ⟨⟨ao, cap, (World.cell?_of_block (a := ⟨rb, 0, none⟩) hh).trans c0, h1, h2, ?_⟩, (World.cell?_of_block (a := ⟨rb, 1, none⟩) hh).trans h.c1, (World.frozen?_of_block (a := ⟨rb, 0, none⟩) hh).trans h.f0, (World.frozen?_of_block (a := ⟨rb, 1, none⟩) hh).trans h.f1⟩
  rcases h3 with h3 | ⟨b, o, e, g1, g2, g3⟩
  · exact Or.inl h3
  · exact Or.inr ⟨b, o, e, g1, g2, fun i hi => (World.cell?_of_block (a := ⟨b, o + i, none⟩) (hk b g2)).trans (g3 i hi)⟩
theorem RdTo.keep {rb B : Nat} {w w' w'' : World} {r : Rd} {row : Option Nat} (h : RdTo rb B w w' r) (hg : w'.grownBy w'' row) (hB : B ≤ w.heap.size) (hrb : rb < w.heap.size) (hr : ∀ k, row = some k → w.heap.size ≤ k) : RdTo rb B w w'' r := by
  have hz := h.grown.size
  refine ⟨grownBy_trans h.grown hg (Or.inr (fun g e => hr g e)), h.at'.keep (hg.block rb (by omega) (fun e => by have := hr rb e.symm; omega)) (fun k hk => hg.block k (by omega) (fun e => by have := hr k e.symm; omega))⟩
theorem RdTo.set {rb B : Nat} {w w' : World} {r : Rd} {a : Addr} (h : RdTo rb B w w' r) (hB : B ≤ w.heap.size) (hrb : rb < w.heap.size) (ha : w.heap.size ≤ a.block) (x : Value) : RdTo rb B w (w'.setCell a x) r :=
  h.keep (row := some a.block) ⟨rfl, rfl, rfl, by simp [World.setCell], fun k _ hne => Below.heap_setCell _ _ _ _ (fun e => hne (by rw [e]))⟩ hB hrb (fun k e => by cases e; exact ha)
/-- A block of four cells of the call's own. -/
structure Cells4 (w : World) (b : Nat) (v0 v1 v2 v3 : Value) : Prop where
  c0 : w.cell? ⟨b, 0, none⟩ = some v0
  c1 : w.cell? ⟨b, 1, none⟩ = some v1
  c2 : w.cell? ⟨b, 2, none⟩ = some v2
  c3 : w.cell? ⟨b, 3, none⟩ = some v3
  f0 : w.frozen? ⟨b, 0, none⟩ = false
  f1 : w.frozen? ⟨b, 1, none⟩ = false
  f2 : w.frozen? ⟨b, 2, none⟩ = false
  f3 : w.frozen? ⟨b, 3, none⟩ = false
theorem Cells4.of {w : World} {b : Nat} {v0 v1 v2 v3 : Value} {t : TypeId} (h : w.heap[b]? = some (Obj.cells #[v0, v1, v2, v3] t (0, 0))) : Cells4 w b v0 v1 v2 v3 :=
  ⟨by simp [World.cell?, h], by simp [World.cell?, h], by simp [World.cell?, h], by simp [World.cell?, h], by simp [World.frozen?, h], by simp [World.frozen?, h], by simp [World.frozen?, h], by simp [World.frozen?, h]⟩
theorem Cells4.made (w : World) (v0 v1 v2 v3 : Value) (t : TypeId) : Cells4 (w.alloc (Obj.cells #[v0, v1, v2, v3] t)) w.heap.size v0 v1 v2 v3 := Cells4.of (heap_alloc_new _ _)
theorem Cells4.keep {w w' : World} {b : Nat} {v0 v1 v2 v3 : Value} (h : Cells4 w b v0 v1 v2 v3) (hh : w'.heap[b]? = w.heap[b]?) : Cells4 w' b v0 v1 v2 v3 :=
  ⟨(World.cell?_of_block (a := ⟨b, 0, none⟩) hh).trans h.c0, (World.cell?_of_block (a := ⟨b, 1, none⟩) hh).trans h.c1, (World.cell?_of_block (a := ⟨b, 2, none⟩) hh).trans h.c2, (World.cell?_of_block (a := ⟨b, 3, none⟩) hh).trans h.c3,
   (World.frozen?_of_block (a := ⟨b, 0, none⟩) hh).trans h.f0, (World.frozen?_of_block (a := ⟨b, 1, none⟩) hh).trans h.f1, (World.frozen?_of_block (a := ⟨b, 2, none⟩) hh).trans h.f2, (World.frozen?_of_block (a := ⟨b, 3, none⟩) hh).trans h.f3⟩
theorem Cells4.lt {w : World} {b : Nat} {v0 v1 v2 v3 : Value} (h : Cells4 w b v0 v1 v2 v3) : b < w.heap.size := World.block_lt_of_cell? w _ h.c0
theorem Cells4.to {rb B : Nat} {w w' : World} {b : Nat} {v0 v1 v2 v3 : Value} {r : Rd} (h : Cells4 w b v0 v1 v2 v3) (ht : RdTo rb B w w' r) (hne : b ≠ rb) : Cells4 w' b v0 v1 v2 v3 := h.keep (ht.grown.block b h.lt (fun e => hne (Option.some.inj e)))
theorem Cells4.alloc {w : World} {b : Nat} {v0 v1 v2 v3 : Value} (h : Cells4 w b v0 v1 v2 v3) (o : Obj) : Cells4 (w.alloc o) b v0 v1 v2 v3 := h.keep (Below.heap_alloc _ _ _ h.lt)
theorem singleR_le (lo hi : Nat) (r : Rd) : (singleR lo hi r).1 ≤ hi := by
  unfold singleR
  split
  · exact Nat.zero_le _
  · split
    · exact Nat.zero_le _
    · simp only; omega

theorem bool_nat (n : Nat) : (n == 1) = ((n : Int) == 1) := by
  rw [Bool.eq_iff_iff, beq_iff_eq, beq_iff_eq]
  omega
set_option maxHeartbeats 8000000 in
set_option maxRecDepth 100000 in
theorem value_any (rb B : Nat) (r : Rd) (w : World) (hr : RdAt w rb B r) (hB : B ≤ w.heap.size) :
    Calls Tryd.prog 80 #[.pointer (some ⟨rb, 0, none⟩)] w fun en w' => en = .returned (valueR r).1.v ∧ RdTo rb B w w' (valueR r).2 := by
  have hrl := hr.lt
  obtain ⟨W0, hW0⟩ : ∃ W0, W0 = w.alloc (Obj.cells #[.int .i64 0, .int .i64 0, .string ⟨#[]⟩, .bool false] 95) := ⟨_, rfl⟩
  have hb0 : Below w.heap.size w W0 := by rw [hW0]; exact (Below.refl _ _).alloc (Nat.le_refl _) _
  have HB0 := Lib.hid hb0
  have HR0 := Lib.hid (hr.below hb0)
  have HA0 := Lib.hid (show Cells4 W0 w.heap.size (.int .i64 0) (.int .i64 0) (.string ⟨#[]⟩) (.bool false) by rw [hW0]; exact Cells4.made _ _ _ _ _ _)
  have hz0 : w.heap.size < W0.heap.size := by rw [hW0]; simp
  have HW0 := Lib.hid hW0
  have HV := Lib.hid (show valueR r = ((tailR (singleR 1 3 r).1 (singleR 1 3 r).2).1, (tailR (singleR 1 3 r).1 (singleR 1 3 r).2).2) from rfl)
  have hk3 := singleR_le 1 3 r
  have HS := Lib.hid (single_any rb B r 1 3 W0 HR0.out)
  obtain ⟨⟨k, r1⟩, hkr⟩ : ∃ x, x = singleR 1 3 r := ⟨_, rfl⟩
  rw [← hkr] at HV HS hk3
  simp only at HV HS hk3
  clear hr hb0 hW0 hkr
  have hne : w.heap.size ≠ rb := by omega
  have hk : k = 0 ∨ k = 1 ∨ k = 2 ∨ k = 3 := by omega
  clear hk3
  go_enter Tryd.func80, Tryd.ntmps80
  go_upto_region 1 with fail
  rw [← HW0.out]
  go_wp2_with fail
  (refine HS.out.mono ?_); rintro e w1 ⟨rfl, hto1⟩
  have HTO1 := Lib.hid hto1
  have HA1 := Lib.hid (HA0.out.to hto1 hne)
  have hz1 : w.heap.size < w1.heap.size := Nat.lt_of_lt_of_le hz0 hto1.grown.size
  clear hto1
  rcases hk with rfl | rfl | rfl | rfl
  · obtain ⟨W2, hW2⟩ : ∃ W2, W2 = w1.alloc (Obj.cells #[.int .i64 0, .int .i64 0, .string ⟨#[]⟩, .bool false] 95) := ⟨_, rfl⟩
    have hb2 : Below w1.heap.size w1 W2 := by rw [hW2]; exact (Below.refl _ _).alloc (Nat.le_refl _) _
    have HTO2 := Lib.hid ((RdTo.pre HB0.out HTO1.out).below hb2)
    have HA2 := Lib.hid (show Cells4 W2 w.heap.size (.int .i64 0) (.int .i64 0) (.string ⟨#[]⟩) (.bool false) by rw [hW2]; exact HA1.out.alloc _)
    obtain ⟨V, hV⟩ : ∃ V, V = w1.heap.size := ⟨_, rfl⟩
    have HV2 := Lib.hid (show Cells4 W2 V (.int .i64 0) (.int .i64 0) (.string ⟨#[]⟩) (.bool false) by rw [hW2, hV]; exact Cells4.made _ _ _ _ _ _)
    have hVw : w.heap.size < V := by omega
    have HW2 := Lib.hid hW2
    have HVE := Lib.hid hV
    have hVr : V ≠ rb := by omega
    have hVA : V ≠ w.heap.size := by omega
    have hAV : w.heap.size ≠ V := by omega
    clear hb2 hW2 hV
    have v0 := HV2.out.c0
    have HE := Lib.hid (show valueR r = (⟨0, 0, ⟨#[]⟩, false⟩, r1) by rw [HV.out]; rfl)
    clear v0
    have a0 := HA2.out.c0
    have b0 := HA2.out.f0
    have v0 := HV2.out.c0
    have a1 := HA2.out.c1
    have b1 := HA2.out.f1
    have v1 := HV2.out.c1
    have a2 := HA2.out.c2
    have b2 := HA2.out.f2
    have v2 := HV2.out.c2
    have a3 := HA2.out.c3
    have b3 := HA2.out.f3
    have v3 := HV2.out.c3
    go_upto_region 2 with fail
    rw [← HW2.out, ← HVE.out]
    go_wp2_with fail
    refine bodyPost_ret (v := .agg #[.int .i64 0, .int .i64 0, .string ⟨#[]⟩, .bool false]) (by simp [results, Tryd.results80, go_sem, a0, a1, a2, a3]) rfl ⟨by rw [HE.out]; rfl, ?_⟩
    rw [HE.out]
    exact (((HTO2.out.set hB hrl (Nat.le_refl _) _).set hB hrl (Nat.le_refl _) _).set hB hrl (Nat.le_refl _) _).set hB hrl (Nat.le_refl _) _
  · obtain ⟨W2, hW2⟩ : ∃ W2, W2 = w1.alloc (Obj.cells #[.int .i64 1, .int .i64 0, .string ⟨#[]⟩, .bool false] 95) := ⟨_, rfl⟩
    have hb2 : Below w1.heap.size w1 W2 := by rw [hW2]; exact (Below.refl _ _).alloc (Nat.le_refl _) _
    have HTO2 := Lib.hid ((RdTo.pre HB0.out HTO1.out).below hb2)
    have HA2 := Lib.hid (show Cells4 W2 w.heap.size (.int .i64 0) (.int .i64 0) (.string ⟨#[]⟩) (.bool false) by rw [hW2]; exact HA1.out.alloc _)
    obtain ⟨V, hV⟩ : ∃ V, V = w1.heap.size := ⟨_, rfl⟩
    have HV2 := Lib.hid (show Cells4 W2 V (.int .i64 1) (.int .i64 0) (.string ⟨#[]⟩) (.bool false) by rw [hW2, hV]; exact Cells4.made _ _ _ _ _ _)
    have hVw : w.heap.size < V := by omega
    have HW2 := Lib.hid hW2
    have HVE := Lib.hid hV
    have hVr : V ≠ rb := by omega
    have hVA : V ≠ w.heap.size := by omega
    have hAV : w.heap.size ≠ V := by omega
    clear hb2 hW2 hV
    have v0 := HV2.out.c0
    go_upto_region 2 with fail
    rw [← HW2.out, ← HVE.out]
    go_wp2_with fail
    clear v0
    (refine (number_any rb B r1 (-9223372036854775808) 9223372036854775807 W2 HTO2.out.at').mono ?_); rintro e w3 ⟨rfl, hto3⟩
    have HA3 := Lib.hid (HA2.out.to hto3 hne)
    have HV3 := Lib.hid (HV2.out.to hto3 hVr)
    have HTO3 := Lib.hid (HTO2.out.trans hto3)
    clear hto3
    have a0 := HA3.out.c0
    have b0 := HA3.out.f0
    have v0 := HV3.out.c0
    have a1 := HA3.out.c1
    have b1 := HA3.out.f1
    have v1 := HV3.out.c1
    have a2 := HA3.out.c2
    have b2 := HA3.out.f2
    have v2 := HV3.out.c2
    have a3 := HA3.out.c3
    have b3 := HA3.out.f3
    have v3 := HV3.out.c3
    have g1 := HV3.out.f1
    have HE := Lib.hid (show valueR r = (⟨1, (numberR (-9223372036854775808) 9223372036854775807 r1).1, ⟨#[]⟩, false⟩, (numberR (-9223372036854775808) 9223372036854775807 r1).2) by rw [HV.out]; rfl)
    go_wp2_with fail
    refine bodyPost_ret (v := .agg #[.int .i64 1, .int .i64 (numberR (-9223372036854775808) 9223372036854775807 r1).1, .string ⟨#[]⟩, .bool false]) (by simp [results, Tryd.results80, go_sem, a0, a1, a2, a3]) rfl ⟨by rw [HE.out]; rfl, ?_⟩
    rw [HE.out]
    exact ((((HTO3.out.set hB hrl (Nat.le_of_lt hVw) _).set hB hrl (Nat.le_refl _) _).set hB hrl (Nat.le_refl _) _).set hB hrl (Nat.le_refl _) _).set hB hrl (Nat.le_refl _) _
  · obtain ⟨W2, hW2⟩ : ∃ W2, W2 = w1.alloc (Obj.cells #[.int .i64 2, .int .i64 0, .string ⟨#[]⟩, .bool false] 95) := ⟨_, rfl⟩
    have hb2 : Below w1.heap.size w1 W2 := by rw [hW2]; exact (Below.refl _ _).alloc (Nat.le_refl _) _
    have HTO2 := Lib.hid ((RdTo.pre HB0.out HTO1.out).below hb2)
    have HA2 := Lib.hid (show Cells4 W2 w.heap.size (.int .i64 0) (.int .i64 0) (.string ⟨#[]⟩) (.bool false) by rw [hW2]; exact HA1.out.alloc _)
    obtain ⟨V, hV⟩ : ∃ V, V = w1.heap.size := ⟨_, rfl⟩
    have HV2 := Lib.hid (show Cells4 W2 V (.int .i64 2) (.int .i64 0) (.string ⟨#[]⟩) (.bool false) by rw [hW2, hV]; exact Cells4.made _ _ _ _ _ _)
    have hVw : w.heap.size < V := by omega
    have HW2 := Lib.hid hW2
    have HVE := Lib.hid hV
    have hVr : V ≠ rb := by omega
    have hVA : V ≠ w.heap.size := by omega
    have hAV : w.heap.size ≠ V := by omega
    clear hb2 hW2 hV
    have v0 := HV2.out.c0
    go_upto_region 2 with fail
    rw [← HW2.out, ← HVE.out]
    go_wp2_with fail
    clear v0
    (refine (text_any rb B r1 0 256 W2 HTO2.out.at' (by omega) (by omega)).mono ?_); rintro e w3 ⟨rfl, hto3⟩
    have HA3 := Lib.hid (HA2.out.to hto3 hne)
    have HV3 := Lib.hid (HV2.out.to hto3 hVr)
    have HTO3 := Lib.hid (HTO2.out.trans hto3)
    clear hto3
    have a0 := HA3.out.c0
    have b0 := HA3.out.f0
    have v0 := HV3.out.c0
    have a1 := HA3.out.c1
    have b1 := HA3.out.f1
    have v1 := HV3.out.c1
    have a2 := HA3.out.c2
    have b2 := HA3.out.f2
    have v2 := HV3.out.c2
    have a3 := HA3.out.c3
    have b3 := HA3.out.f3
    have v3 := HV3.out.c3
    have g2 := HV3.out.f2
    have HE := Lib.hid (show valueR r = (⟨2, 0, (textR 0 256 r1).1, false⟩, (textR 0 256 r1).2) by rw [HV.out]; rfl)
    go_wp2_with fail
    refine bodyPost_ret (v := .agg #[.int .i64 2, .int .i64 0, .string (textR 0 256 r1).1, .bool false]) (by simp [results, Tryd.results80, go_sem, a0, a1, a2, a3]) rfl ⟨by rw [HE.out]; rfl, ?_⟩
    rw [HE.out]
    exact ((((HTO3.out.set hB hrl (Nat.le_of_lt hVw) _).set hB hrl (Nat.le_refl _) _).set hB hrl (Nat.le_refl _) _).set hB hrl (Nat.le_refl _) _).set hB hrl (Nat.le_refl _) _
  · obtain ⟨W2, hW2⟩ : ∃ W2, W2 = w1.alloc (Obj.cells #[.int .i64 3, .int .i64 0, .string ⟨#[]⟩, .bool false] 95) := ⟨_, rfl⟩
    have hb2 : Below w1.heap.size w1 W2 := by rw [hW2]; exact (Below.refl _ _).alloc (Nat.le_refl _) _
    have HTO2 := Lib.hid ((RdTo.pre HB0.out HTO1.out).below hb2)
    have HA2 := Lib.hid (show Cells4 W2 w.heap.size (.int .i64 0) (.int .i64 0) (.string ⟨#[]⟩) (.bool false) by rw [hW2]; exact HA1.out.alloc _)
    obtain ⟨V, hV⟩ : ∃ V, V = w1.heap.size := ⟨_, rfl⟩
    have HV2 := Lib.hid (show Cells4 W2 V (.int .i64 3) (.int .i64 0) (.string ⟨#[]⟩) (.bool false) by rw [hW2, hV]; exact Cells4.made _ _ _ _ _ _)
    have hVw : w.heap.size < V := by omega
    have HW2 := Lib.hid hW2
    have HVE := Lib.hid hV
    have hVr : V ≠ rb := by omega
    have hVA : V ≠ w.heap.size := by omega
    have hAV : w.heap.size ≠ V := by omega
    clear hb2 hW2 hV
    have v0 := HV2.out.c0
    go_upto_region 2 with fail
    rw [← HW2.out, ← HVE.out]
    go_wp2_with fail
    clear v0
    (refine (single_any rb B r1 0 1 W2 HTO2.out.at').mono ?_); rintro e w3 ⟨rfl, hto3⟩
    have HA3 := Lib.hid (HA2.out.to hto3 hne)
    have HV3 := Lib.hid (HV2.out.to hto3 hVr)
    have HTO3 := Lib.hid (HTO2.out.trans hto3)
    clear hto3
    have a0 := HA3.out.c0
    have b0 := HA3.out.f0
    have v0 := HV3.out.c0
    have a1 := HA3.out.c1
    have b1 := HA3.out.f1
    have v1 := HV3.out.c1
    have a2 := HA3.out.c2
    have b2 := HA3.out.f2
    have v2 := HV3.out.c2
    have a3 := HA3.out.c3
    have b3 := HA3.out.f3
    have v3 := HV3.out.c3
    have g3 := HV3.out.f3
    have HE := Lib.hid (show valueR r = (⟨3, 0, ⟨#[]⟩, ((singleR 0 1 r1).1 : Int) == 1⟩, (singleR 0 1 r1).2) by rw [HV.out]; exact Prod.ext (congrArg (fun b => (⟨3, 0, ⟨#[]⟩, b⟩ : Val)) (bool_nat _)) rfl)
    go_wp2_with fail
    refine bodyPost_ret (v := .agg #[.int .i64 3, .int .i64 0, .string ⟨#[]⟩, .bool (((singleR 0 1 r1).1 : Int) == 1)]) (by simp [results, Tryd.results80, go_sem, a0, a1, a2, a3]) rfl ⟨by rw [HE.out]; rfl, ?_⟩
    rw [HE.out]
    exact ((((HTO3.out.set hB hrl (Nat.le_of_lt hVw) _).set hB hrl (Nat.le_refl _) _).set hB hrl (Nat.le_refl _) _).set hB hrl (Nat.le_refl _) _).set hB hrl (Nat.le_refl _) _
end Go.Proofs.YtmdhacboegmccaaDoor
