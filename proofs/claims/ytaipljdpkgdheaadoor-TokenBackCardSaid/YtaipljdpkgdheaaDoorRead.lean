/- Package value: Read. -/
import Derived.Test.YtaipljdpkgdheaaDoorUnderstand
namespace Go.Proofs.YtaipljdpkgdheaaDoor
open Go Go.RowKit

theorem bytes_of {s : ByteArray} {l : List UInt8} (h : s.data.toList = l) : s = ⟨l.toArray⟩ := by rw [← h]

def zeroV : Val := ⟨0, 0, ⟨#[]⟩, false⟩
set_option maxHeartbeats 8000000 in
set_option maxRecDepth 100000 in
theorem read_no (s : ByteArray) (w : World) (hu : ∀ W, Below w.heap.size w W → Calls Tryd.prog 72 #[.string s] W fun e w' => (∃ a : Val, e = .returned (.tuple #[a.v, .bool false])) ∧ Below W.heap.size W w') :
    Calls Tryd.prog 56 #[.string s] w fun e w' => e = .returned (.tuple #[zeroV.v, .int .i64 12]) ∧ Below w.heap.size w w' := by
  have HU := Lib.hid hu
  have HA := Lib.hid (Cells4.made w (.int .i64 0) (.int .i64 0) (.string ⟨#[]⟩) (.bool false) 80)
  have hb0 := (Below.refl w.heap.size w).alloc (Nat.le_refl _) (Obj.cells #[.int .i64 0, .int .i64 0, .string ⟨#[]⟩, .bool false] 80)
  have HB0 := Lib.hid hb0
  have HZ0 : w.heap.size < (w.alloc (Obj.cells #[.int .i64 0, .int .i64 0, .string ⟨#[]⟩, .bool false] 80)).heap.size := by rw [World.size_alloc]; omega
  clear hb0 hu
  simp only [Val.v, zeroV]
  go_enter Tryd.func56, Tryd.ntmps56
  go_wp2_with fail
  refine (HU.out _ HB0.out).mono ?_; rintro e w1 ⟨⟨a, rfl⟩, hb1⟩
  have HA1 := Lib.hid (HA.out.keep (hb1.block w.heap.size HZ0))
  have HB1 := Lib.hid (HB0.out.trans (hb1.mono (Nat.le_of_lt HZ0)))
  have HZ1 := Nat.lt_of_lt_of_le HZ0 hb1.size
  clear hb1
  obtain ⟨ak, an, ax, ab⟩ := a
  simp only [Val.v]
  obtain ⟨W2, hW2⟩ : ∃ W2, W2 = w1.alloc (Obj.cells #[.int .i64 ak, .int .i64 an, .string ax, .bool ab] 80) := ⟨_, rfl⟩
  obtain ⟨V, hV⟩ : ∃ V, V = w1.heap.size := ⟨_, rfl⟩
  have HBA := Lib.hid (show Below w.heap.size w W2 by rw [hW2]; exact HB1.out.alloc (Nat.le_of_lt HZ1) _)
  have HAA := Lib.hid (show Cells4 W2 w.heap.size (.int .i64 0) (.int .i64 0) (.string ⟨#[]⟩) (.bool false) by rw [hW2]; exact HA1.out.keep (Below.heap_alloc w1 _ _ HZ1))
  have HVA := Lib.hid (show Cells4 W2 V (.int .i64 ak) (.int .i64 an) (.string ax) (.bool ab) by rw [hW2, hV]; exact Cells4.made w1 _ _ _ _ _)
  have HZ2 : w.heap.size < W2.heap.size := by rw [hW2, World.size_alloc]; omega
  have HVZ : V < W2.heap.size := by rw [hW2, hV, World.size_alloc]; omega
  have hVA : V ≠ w.heap.size := by omega
  have hAV : w.heap.size ≠ V := by omega
  have HW2 := Lib.hid hW2
  have HVE := Lib.hid hV
  clear hW2 hV
  go_upto_region 2 with fail
  rw [← HW2.out, ← HVE.out]
  have a0 := HAA.out.c0
  have af0 := HAA.out.f0
  have a1 := HAA.out.c1
  have af1 := HAA.out.f1
  have a2 := HAA.out.c2
  have af2 := HAA.out.f2
  have a3 := HAA.out.c3
  have af3 := HAA.out.f3
  go_wp2_with fail
  refine bodyPost_ret (v := .tuple #[.agg #[.int .i64 0, .int .i64 0, .string ⟨#[]⟩, .bool false], .int .i64 12]) (by simp [results, Tryd.results56, go_sem, a0, a1, a2, a3]) rfl ⟨rfl, ?_⟩
  exact below_own (below_own (below_own (below_own HBA.out (Nat.le_refl _) 0 _) (Nat.le_refl _) 1 _) (Nat.le_refl _) 2 _) (Nat.le_refl _) 3 _
set_option maxHeartbeats 8000000 in
set_option maxRecDepth 100000 in
theorem read_go (s t : ByteArray) (a : Val) (err : Int) (w : World) (_ht : Tabs w) (hu : ∀ W, Below w.heap.size w W → Calls Tryd.prog 72 #[.string s] W fun e w' => e = .returned (.tuple #[a.v, .bool true]) ∧ Below W.heap.size W w')
    (hs : ∀ W, Below w.heap.size w W → Calls Tryd.prog 43 #[a.v] W fun e w' => e = .returned (.tuple #[.string t, .int .i64 err]) ∧ Below W.heap.size W w')
    (R : Val) (eR : Int) (hR : (err = 12 ∧ R = zeroV ∧ eR = 12) ∨ (err = 0 ∧ (t.toList == s.toList) = false ∧ R = zeroV ∧ eR = 12) ∨ (err = 0 ∧ t = s ∧ R = a ∧ eR = 0)) :
    Calls Tryd.prog 56 #[.string s] w fun e w' => e = .returned (.tuple #[R.v, .int .i64 eR]) ∧ Below w.heap.size w w' := by
  have HU := Lib.hid hu
  have HS := Lib.hid hs
  have HA := Lib.hid (Cells4.made w (.int .i64 0) (.int .i64 0) (.string ⟨#[]⟩) (.bool false) 80)
  have hb0 := (Below.refl w.heap.size w).alloc (Nat.le_refl _) (Obj.cells #[.int .i64 0, .int .i64 0, .string ⟨#[]⟩, .bool false] 80)
  have HB0 := Lib.hid hb0
  have HZ0 : w.heap.size < (w.alloc (Obj.cells #[.int .i64 0, .int .i64 0, .string ⟨#[]⟩, .bool false] 80)).heap.size := by rw [World.size_alloc]; omega
  clear hb0 hu hs _ht
  obtain ⟨ak, an, ax, ab⟩ := a
  simp only [Val.v] at HU HS
  rcases hR with ⟨rfl, rfl, rfl⟩ | ⟨rfl, hts, rfl, rfl⟩ | ⟨rfl, rfl, rfl, rfl⟩
  all_goals
    simp only [Val.v, zeroV]
    go_enter Tryd.func56, Tryd.ntmps56
    go_wp2_with fail
    refine (HU.out _ HB0.out).mono ?_; rintro e w1 ⟨rfl, hb1⟩
    have HA1 := Lib.hid (HA.out.keep (hb1.block w.heap.size HZ0))
    have HB1 := Lib.hid (HB0.out.trans (hb1.mono (Nat.le_of_lt HZ0)))
    have HZ1 := Nat.lt_of_lt_of_le HZ0 hb1.size
    clear hb1
    obtain ⟨W2, hW2⟩ : ∃ W2, W2 = w1.alloc (Obj.cells #[.int .i64 ak, .int .i64 an, .string ax, .bool ab] 80) := ⟨_, rfl⟩
    obtain ⟨V, hV⟩ : ∃ V, V = w1.heap.size := ⟨_, rfl⟩
    have HBA := Lib.hid (show Below w.heap.size w W2 by rw [hW2]; exact HB1.out.alloc (Nat.le_of_lt HZ1) _)
    have HAA := Lib.hid (show Cells4 W2 w.heap.size (.int .i64 0) (.int .i64 0) (.string ⟨#[]⟩) (.bool false) by rw [hW2]; exact HA1.out.keep (Below.heap_alloc w1 _ _ HZ1))
    have HVA := Lib.hid (show Cells4 W2 V (.int .i64 ak) (.int .i64 an) (.string ax) (.bool ab) by rw [hW2, hV]; exact Cells4.made w1 _ _ _ _ _)
    have HZ2 : w.heap.size < W2.heap.size := by rw [hW2, World.size_alloc]; omega
    have HVZ : V < W2.heap.size := by rw [hW2, hV, World.size_alloc]; omega
    have hVA : V ≠ w.heap.size := by omega
    have hAV : w.heap.size ≠ V := by omega
    have HW2 := Lib.hid hW2
    have HVE := Lib.hid hV
    clear hW2 hV
    go_upto_region 2 with fail
    rw [← HW2.out, ← HVE.out]
    have u0 := HVA.out.c0
    have u1 := HVA.out.c1
    have u2 := HVA.out.c2
    have u3 := HVA.out.c3
    go_wp2_with fail
    refine (HS.out _ HBA.out).mono ?_; rintro e w3 ⟨rfl, hb3⟩
    have HA3 := Lib.hid (HAA.out.keep (hb3.block w.heap.size HZ2))
    have HV3 := Lib.hid (HVA.out.keep (hb3.block V HVZ))
    have HB3 := Lib.hid (HBA.out.trans (hb3.mono (Nat.le_of_lt HZ2)))
    clear hb3 u0 u1 u2 u3
    have a0 := HA3.out.c0
    have af0 := HA3.out.f0
    have a1 := HA3.out.c1
    have af1 := HA3.out.f1
    have a2 := HA3.out.c2
    have af2 := HA3.out.f2
    have a3 := HA3.out.c3
    have af3 := HA3.out.f3
    have v0 := HV3.out.c0
    have vf0 := HV3.out.f0
    have v1 := HV3.out.c1
    have vf1 := HV3.out.f1
    have v2 := HV3.out.c2
    have vf2 := HV3.out.f2
    have v3 := HV3.out.c3
    have vf3 := HV3.out.f3
    go_wp2_with fail
    first
      | (refine bodyPost_ret (v := .tuple #[.agg #[.int .i64 0, .int .i64 0, .string ⟨#[]⟩, .bool false], .int .i64 12]) (by simp [results, Tryd.results56, go_sem, a0, a1, a2, a3]) rfl ⟨rfl, ?_⟩)
      | (refine bodyPost_ret (v := .tuple #[.agg #[.int .i64 ak, .int .i64 an, .string ax, .bool ab], .int .i64 0]) (by simp [results, Tryd.results56, go_sem, a0, a1, a2, a3]) rfl ⟨rfl, ?_⟩)
    exact below_own (below_own (below_own (below_own HB3.out (Nat.le_refl _) 0 _) (Nat.le_refl _) 1 _) (Nat.le_refl _) 2 _) (Nat.le_refl _) 3 _
theorem bytes_same {t s : ByteArray} (h : (t.toList == s.toList) = true) : t = s := by
  have h1 := beq_iff_eq.1 h
  rw [ByteArray.toList_eq, ByteArray.toList_eq] at h1
  exact bytes_of h1 |>.trans (bytes_of rfl).symm
set_option maxHeartbeats 8000000 in
set_option maxRecDepth 100000 in
theorem read_gen (P : Val → Prop) (Q : Val → ByteArray → Prop) (s : ByteArray) (w : World) (hu : ∀ W, Below w.heap.size w W → Calls Tryd.prog 72 #[.string s] W fun e w' => (∃ (a : Val) (ok : Bool), e = .returned (.tuple #[a.v, .bool ok]) ∧ (ok = true → P a)) ∧ Below W.heap.size W w')
    (hs : ∀ a, P a → ∀ W, Below w.heap.size w W → Calls Tryd.prog 43 #[a.v] W fun e w' => (∃ (t : ByteArray) (err : Int), e = .returned (.tuple #[.string t, .int .i64 err]) ∧ (err = 12 ∨ err = 0 ∧ Q a t)) ∧ Below W.heap.size W w') :
    Calls Tryd.prog 56 #[.string s] w fun e w' => (∃ (R : Val) (eR : Int), e = .returned (.tuple #[R.v, .int .i64 eR]) ∧ (eR = 12 ∧ R = zeroV ∨ eR = 0 ∧ P R ∧ Q R s)) ∧ Below w.heap.size w w' := by
  have HU := Lib.hid hu
  have HS := Lib.hid hs
  have HA := Lib.hid (Cells4.made w (.int .i64 0) (.int .i64 0) (.string ⟨#[]⟩) (.bool false) 80)
  have hb0 := (Below.refl w.heap.size w).alloc (Nat.le_refl _) (Obj.cells #[.int .i64 0, .int .i64 0, .string ⟨#[]⟩, .bool false] 80)
  have HB0 := Lib.hid hb0
  have HZ0 : w.heap.size < (w.alloc (Obj.cells #[.int .i64 0, .int .i64 0, .string ⟨#[]⟩, .bool false] 80)).heap.size := by rw [World.size_alloc]; omega
  clear hb0 hu hs
  go_enter Tryd.func56, Tryd.ntmps56
  go_wp2_with fail
  refine (HU.out _ HB0.out).mono ?_; rintro e w1 ⟨⟨a, ok, rfl, hP⟩, hb1⟩
  have HP := Lib.hid hP
  have HSS := Lib.hid (fun h => HS.out a (HP.out h))
  clear hP
  obtain ⟨ak, an, ax, ab⟩ := a
  simp only [Val.v] at HSS ⊢
  have HA1 := Lib.hid (HA.out.keep (hb1.block w.heap.size HZ0))
  have HB1 := Lib.hid (HB0.out.trans (hb1.mono (Nat.le_of_lt HZ0)))
  have HZ1 := Nat.lt_of_lt_of_le HZ0 hb1.size
  clear hb1
  obtain ⟨W2, hW2⟩ : ∃ W2, W2 = w1.alloc (Obj.cells #[.int .i64 ak, .int .i64 an, .string ax, .bool ab] 80) := ⟨_, rfl⟩
  obtain ⟨V, hV⟩ : ∃ V, V = w1.heap.size := ⟨_, rfl⟩
  have HBA := Lib.hid (show Below w.heap.size w W2 by rw [hW2]; exact HB1.out.alloc (Nat.le_of_lt HZ1) _)
  have HAA := Lib.hid (show Cells4 W2 w.heap.size (.int .i64 0) (.int .i64 0) (.string ⟨#[]⟩) (.bool false) by rw [hW2]; exact HA1.out.keep (Below.heap_alloc w1 _ _ HZ1))
  have HVA := Lib.hid (show Cells4 W2 V (.int .i64 ak) (.int .i64 an) (.string ax) (.bool ab) by rw [hW2, hV]; exact Cells4.made w1 _ _ _ _ _)
  have HZ2 : w.heap.size < W2.heap.size := by rw [hW2, World.size_alloc]; omega
  have HVZ : V < W2.heap.size := by rw [hW2, hV, World.size_alloc]; omega
  have hVA : V ≠ w.heap.size := by omega
  have hAV : w.heap.size ≠ V := by omega
  have HW2 := Lib.hid hW2
  have HVE := Lib.hid hV
  clear hW2 hV
  go_upto_region 2 with fail
  rw [← HW2.out, ← HVE.out]
  cases ok
  · have a0 := HAA.out.c0
    have af0 := HAA.out.f0
    have a1 := HAA.out.c1
    have af1 := HAA.out.f1
    have a2 := HAA.out.c2
    have af2 := HAA.out.f2
    have a3 := HAA.out.c3
    have af3 := HAA.out.f3
    go_wp2_with fail
    refine bodyPost_ret (v := .tuple #[.agg #[.int .i64 0, .int .i64 0, .string ⟨#[]⟩, .bool false], .int .i64 12]) (by simp [results, Tryd.results56, go_sem, a0, a1, a2, a3]) rfl ⟨⟨zeroV, 12, rfl, Or.inl ⟨rfl, rfl⟩⟩, ?_⟩
    exact below_own (below_own (below_own (below_own HBA.out (Nat.le_refl _) 0 _) (Nat.le_refl _) 1 _) (Nat.le_refl _) 2 _) (Nat.le_refl _) 3 _
  · have HSX := Lib.hid (HSS.out rfl)
    have u0 := HVA.out.c0
    have u1 := HVA.out.c1
    have u2 := HVA.out.c2
    have u3 := HVA.out.c3
    go_wp2_with fail
    refine (HSX.out _ HBA.out).mono ?_; rintro e w3 ⟨⟨t, err, rfl, hQ⟩, hb3⟩
    have HQ := Lib.hid hQ
    have herr : err = 12 ∨ err = 0 := by rcases hQ with h | h; exact Or.inl h; exact Or.inr h.1
    clear hQ
    have HA3 := Lib.hid (HAA.out.keep (hb3.block w.heap.size HZ2))
    have HV3 := Lib.hid (HVA.out.keep (hb3.block V HVZ))
    have HB3 := Lib.hid (HBA.out.trans (hb3.mono (Nat.le_of_lt HZ2)))
    clear hb3 u0 u1 u2 u3
    have a0 := HA3.out.c0
    have af0 := HA3.out.f0
    have a1 := HA3.out.c1
    have af1 := HA3.out.f1
    have a2 := HA3.out.c2
    have af2 := HA3.out.f2
    have a3 := HA3.out.c3
    have af3 := HA3.out.f3
    have v0 := HV3.out.c0
    have vf0 := HV3.out.f0
    have v1 := HV3.out.c1
    have vf1 := HV3.out.f1
    have v2 := HV3.out.c2
    have vf2 := HV3.out.f2
    have v3 := HV3.out.c3
    have vf3 := HV3.out.f3
    rcases herr with rfl | rfl
    · go_wp2_with fail
      refine bodyPost_ret (v := .tuple #[.agg #[.int .i64 0, .int .i64 0, .string ⟨#[]⟩, .bool false], .int .i64 12]) (by simp [results, Tryd.results56, go_sem, a0, a1, a2, a3]) rfl ⟨⟨zeroV, 12, rfl, Or.inl ⟨rfl, rfl⟩⟩, ?_⟩
      exact below_own (below_own (below_own (below_own HB3.out (Nat.le_refl _) 0 _) (Nat.le_refl _) 1 _) (Nat.le_refl _) 2 _) (Nat.le_refl _) 3 _
    · cases hts : (t.toList == s.toList)
      · go_wp2_with fail
        refine bodyPost_ret (v := .tuple #[.agg #[.int .i64 0, .int .i64 0, .string ⟨#[]⟩, .bool false], .int .i64 12]) (by simp [results, Tryd.results56, go_sem, a0, a1, a2, a3]) rfl ⟨⟨zeroV, 12, rfl, Or.inl ⟨rfl, rfl⟩⟩, ?_⟩
        exact below_own (below_own (below_own (below_own HB3.out (Nat.le_refl _) 0 _) (Nat.le_refl _) 1 _) (Nat.le_refl _) 2 _) (Nat.le_refl _) 3 _
      · have hQQ : Q ⟨ak, an, ax, ab⟩ t := by
          rcases HQ.out with h | h
          · exact absurd h (by decide)
          · exact h.2
        have hPP := HP.out (by first | exact rfl | trivial)
        have hE := Lib.hid (bytes_same hts)
        have HF := Lib.hid (And.intro hPP (show Q ⟨ak, an, ax, ab⟩ s by rw [← hE.out]; exact hQQ))
        clear hQQ hPP
        go_wp2_with fail
        refine bodyPost_ret (v := .tuple #[.agg #[.int .i64 ak, .int .i64 an, .string ax, .bool ab], .int .i64 0]) (by simp [results, Tryd.results56, go_sem, a0, a1, a2, a3]) rfl ⟨⟨⟨ak, an, ax, ab⟩, 0, rfl, Or.inr ⟨rfl, HF.out⟩⟩, ?_⟩
        exact below_own (below_own (below_own (below_own HB3.out (Nat.le_refl _) 0 _) (Nat.le_refl _) 1 _) (Nat.le_refl _) 2 _) (Nat.le_refl _) 3 _
end Go.Proofs.YtaipljdpkgdheaaDoor
