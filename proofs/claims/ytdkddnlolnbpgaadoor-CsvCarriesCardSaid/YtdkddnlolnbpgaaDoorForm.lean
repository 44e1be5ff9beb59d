/- Package csv: how a value stands in a cell; may a number be a time. -/
import Derived.Test.YtdkddnlolnbpgaaDoorReadAll
namespace Go.Proofs.YtdkddnlolnbpgaaDoor
open Go Go.RowKit

theorem csvShow_int (n : Int) (w : World) (ht : Tabs w) (h0 : -9223372036854775808 ≤ n) (h1 : n ≤ 9223372036854775807) :
    Calls Tryd.prog 13 #[(numV n).v] w fun e w' => e = .returned (.string (numS n)) ∧ Below w.heap.size w w' := by
  have HS := Lib.hid (fun W hT => show_int n W h0 h1 hT)
  have HT := Lib.hid ht
  clear ht
  simp only [Val.v, numV] at HS ⊢
  go_enter Tryd.func13, Tryd.ntmps13
  go_wp2_with fail
  refine (HS.out _ (HT.out.below ((Below.refl w.heap.size w).alloc (Nat.le_refl _) _))).mono ?_; rintro e w1 ⟨rfl, hb1⟩
  go_wp2_with fail
  go_ret
  exact ⟨rfl, below_new hb1⟩
theorem csvShow_bool (b : Bool) (w : World) :
    Calls Tryd.prog 13 #[(boolV b).v] w fun e w' => e = .returned (.string (boolS b)) ∧ Below w.heap.size w w' := by
  have HS := Lib.hid (fun W => show_bool b W)
  simp only [Val.v, boolV] at HS ⊢
  go_enter Tryd.func13, Tryd.ntmps13
  go_wp2_with fail
  refine (HS.out _).mono ?_; rintro e w1 ⟨rfl, hb1⟩
  go_wp2_with fail
  go_ret
  exact ⟨rfl, below_new hb1⟩
theorem bytesOf_any (s : ByteArray) (w : World) (hs : s.size ≤ 281474976710656) :
    Calls Tryd.prog 23 #[(strV s).v] w fun e w' => e = .returned (.string s) ∧ Below w.heap.size w w' := by
  simp only [Val.v, strV]
  go_enter Tryd.func23, Tryd.ntmps23
  go_wp2_with fail
  refine (clone_any s _ hs).mono ?_; rintro e w1 ⟨rfl, hb1⟩
  go_wp2_with fail
  go_ret
  exact ⟨rfl, (by first | exact hb1 | exact below_new hb1)⟩
theorem timely_any (n : Int) (w : World) : Calls Tryd.prog 18 #[.int .i64 n] w fun e w' => e = .returned (.bool (decide (0 ≤ n) && decide (n ≤ 4611686018427387904))) ∧ w' = w := by
  by_cases h0 : 0 ≤ n
  · by_cases h1 : n ≤ 4611686018427387904
    all_goals
      go_enter Tryd.func18, Tryd.ntmps18
      go_wp2_with fail
      go_ret
      exact ⟨by simp [h0, h1], rfl⟩
  · go_enter Tryd.func18, Tryd.ntmps18
    go_wp2_with fail
    go_ret
    exact ⟨by rw [show decide (0 ≤ n) = false from decide_eq_false (by omega)]; rfl, rfl⟩
set_option maxHeartbeats 8000000 in
set_option maxRecDepth 100000 in
theorem readShown_gen (P : Val → Int → Prop) (s : ByteArray) (w : World) (ht : Tabs w) (hr : ∀ W, Tabs W → Calls Tryd.prog 33 #[.string s] W fun e w' => (∃ (R : Val) (eR : Int), e = .returned (.tuple #[R.v, .int .i64 eR]) ∧ P R eR) ∧ Below W.heap.size W w') :
    Calls Tryd.prog 21 #[.string s] w fun e w' => (∃ (R : Val) (eR : Int), e = .returned R.v ∧ P R eR) ∧ Below w.heap.size w w' := by
  have HR := Lib.hid hr
  have HT := Lib.hid ht
  have HA := Lib.hid (Cells4.made w (.int .i64 0) (.int .i64 0) (.string ⟨#[]⟩) (.bool false) 32)
  have HB0 := Lib.hid ((Below.refl w.heap.size w).alloc (Nat.le_refl _) (Obj.cells #[.int .i64 0, .int .i64 0, .string ⟨#[]⟩, .bool false] 32))
  have HZ0 : w.heap.size < (w.alloc (Obj.cells #[.int .i64 0, .int .i64 0, .string ⟨#[]⟩, .bool false] 32)).heap.size := by rw [World.size_alloc]; omega
  clear ht hr
  go_enter Tryd.func21, Tryd.ntmps21
  go_wp2_with fail
  refine (HR.out _ (HT.out.below HB0.out)).mono ?_; rintro e w1 ⟨⟨a, eR, rfl, hra⟩, hb1⟩
  have HRA := Lib.hid hra
  have HA1 := Lib.hid (HA.out.keep (hb1.block w.heap.size HZ0))
  have HB1 := Lib.hid (HB0.out.trans (hb1.mono (Nat.le_of_lt HZ0)))
  have HZ1 := Nat.lt_of_lt_of_le HZ0 hb1.size
  clear hb1 hra
  obtain ⟨ak, an, ax, ab⟩ := a
  simp only [Val.v]
  obtain ⟨W2, hW2⟩ : ∃ W2, W2 = w1.alloc (Obj.cells #[.int .i64 ak, .int .i64 an, .string ax, .bool ab] 32) := ⟨_, rfl⟩
  obtain ⟨V, hV⟩ : ∃ V, V = w1.heap.size := ⟨_, rfl⟩
  have HBA := Lib.hid (show Below w.heap.size w W2 by rw [hW2]; exact HB1.out.alloc (Nat.le_of_lt HZ1) _)
  have HAA := Lib.hid (show Cells4 W2 w.heap.size (.int .i64 0) (.int .i64 0) (.string ⟨#[]⟩) (.bool false) by rw [hW2]; exact HA1.out.keep (Below.heap_alloc w1 _ _ HZ1))
  have HVA := Lib.hid (show Cells4 W2 V (.int .i64 ak) (.int .i64 an) (.string ax) (.bool ab) by rw [hW2, hV]; exact Cells4.made w1 _ _ _ _ _)
  have hVA : V ≠ w.heap.size := by omega
  have hAV : w.heap.size ≠ V := by omega
  have HW2 := Lib.hid hW2
  have HVE := Lib.hid hV
  clear hW2 hV
  go_upto_region 2 with fail
  rw [← HW2.out, ← HVE.out]
  have a0 := HAA.out.c0
  have af0 := HAA.out.f0
  have a1 := HAA.out.c1
  have af1 := HAA.out.f1
  have a2 := HAA.out.c2
  have af2 := HAA.out.f2
  have a3 := HAA.out.c3
  have af3 := HAA.out.f3
  have v0 := HVA.out.c0
  have vf0 := HVA.out.f0
  have v1 := HVA.out.c1
  have vf1 := HVA.out.f1
  have v2 := HVA.out.c2
  have vf2 := HVA.out.f2
  have v3 := HVA.out.c3
  have vf3 := HVA.out.f3
  go_wp2_with fail
  refine bodyPost_ret (v := .agg #[.int .i64 ak, .int .i64 an, .string ax, .bool ab]) (by simp [results, Tryd.results21, go_sem, a0, a1, a2, a3]) rfl ⟨⟨⟨ak, an, ax, ab⟩, eR, rfl, HRA.out⟩, ?_⟩
  exact below_own (below_own (below_own (below_own HBA.out (Nat.le_refl _) 0 _) (Nat.le_refl _) 1 _) (Nat.le_refl _) 2 _) (Nat.le_refl _) 3 _
theorem readShown_any (s : ByteArray) (w : World) (ht : Tabs w) (hm : s.size ≤ 140737488355328) :
    Calls Tryd.prog 21 #[.string s] w fun e w' => (∃ (R : Val) (eR : Int), e = .returned R.v ∧ ReadAs s R eR) ∧ Below w.heap.size w w' :=
  readShown_gen (ReadAs s) s w ht (fun W hW => read_any s W hW hm)
theorem readShown_num (n : Int) (w : World) (ht : Tabs w) (h0 : -9223372036854775808 ≤ n) (h1 : n ≤ 9223372036854775807) :
    Calls Tryd.prog 21 #[.string (numS n)] w fun e w' => e = .returned (numV n).v ∧ Below w.heap.size w w' :=
  (readShown_gen (fun R _ => R = numV n) _ w ht (fun W hW => (read_num n W hW h0 h1).mono fun e w' ⟨k1, k2⟩ => ⟨⟨_, _, k1, rfl⟩, k2⟩)).mono fun e w' ⟨⟨R, eR, k1, k2⟩, k3⟩ => ⟨by rw [k1, k2], k3⟩
theorem readShown_bool (b : Bool) (w : World) (ht : Tabs w) :
    Calls Tryd.prog 21 #[.string (boolS b)] w fun e w' => e = .returned (boolV b).v ∧ Below w.heap.size w w' :=
  (readShown_gen (fun R _ => R = boolV b) _ w ht (fun W hW => (read_bool b W hW).mono fun e w' ⟨k1, k2⟩ => ⟨⟨_, _, k1, rfl⟩, k2⟩)).mono fun e w' ⟨⟨R, eR, k1, k2⟩, k3⟩ => ⟨by rw [k1, k2], k3⟩
theorem readBytes_yes (s : ByteArray) (w : World) (hs : s.size ≤ 256) :
    Calls Tryd.prog 22 #[.string s] w fun e w' => e = .returned (strV s).v ∧ Below w.heap.size w w' := by
  have k1 : ¬ (256 : Int) < (s.size : Int) := by omega
  have HC := Lib.hid (fun W => clone_any s W (by omega))
  have HA := Lib.hid (Cells4.made w (.int .i64 0) (.int .i64 0) (.string ⟨#[]⟩) (.bool false) 32)
  have HB0 := Lib.hid ((Below.refl w.heap.size w).alloc (Nat.le_refl _) (Obj.cells #[.int .i64 0, .int .i64 0, .string ⟨#[]⟩, .bool false] 32))
  have HZ0 : w.heap.size < (w.alloc (Obj.cells #[.int .i64 0, .int .i64 0, .string ⟨#[]⟩, .bool false] 32)).heap.size := by rw [World.size_alloc]; omega
  simp only [Val.v, strV]
  go_enter Tryd.func22, Tryd.ntmps22
  go_wp2_with fail
  refine (HC.out _).mono ?_; rintro e w1 ⟨rfl, hb1⟩
  have HA1 := Lib.hid (HA.out.keep (hb1.block w.heap.size HZ0))
  have HB1 := Lib.hid (HB0.out.trans (hb1.mono (Nat.le_of_lt HZ0)))
  clear hb1
  have a0 := HA1.out.c0
  have b0 := HA1.out.f0
  have a1 := HA1.out.c1
  have b1 := HA1.out.f1
  have a2 := HA1.out.c2
  have b2 := HA1.out.f2
  have a3 := HA1.out.c3
  have b3 := HA1.out.f3
  go_wp2_with fail
  refine bodyPost_ret (v := .agg #[.int .i64 2, .int .i64 0, .string s, .bool false]) (by simp [results, Tryd.results22, go_sem, a0, a1, a2, a3]) rfl ⟨rfl, ?_⟩
  exact below_own (below_own (below_own (below_own HB1.out (Nat.le_refl _) 0 _) (Nat.le_refl _) 1 _) (Nat.le_refl _) 2 _) (Nat.le_refl _) 3 _
theorem readBytes_no (s : ByteArray) (w : World) (hs : 256 < s.size) (hm : s.size ≤ 9223372036854775807) :
    Calls Tryd.prog 22 #[.string s] w fun e w' => e = .returned zeroV.v ∧ Below w.heap.size w w' := by
  have k1 : (256 : Int) < (s.size : Int) := by omega
  simp only [Val.v, zeroV]
  go_enter Tryd.func22, Tryd.ntmps22
  go_wp2_with fail
  exact bodyPost_ret (v := .agg #[.int .i64 0, .int .i64 0, .string ⟨#[]⟩, .bool false]) (by simp [results, Tryd.results22, go_sem]) rfl ⟨rfl, (Below.refl _ _).alloc (Nat.le_refl _) _⟩
end Go.Proofs.YtdkddnlolnbpgaaDoor
