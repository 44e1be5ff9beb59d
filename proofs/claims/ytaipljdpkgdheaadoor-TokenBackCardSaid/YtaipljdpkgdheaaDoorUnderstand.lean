/- Package value: what a text may mean. -/
import Derived.Test.YtaipljdpkgdheaaDoorUnquote
namespace Go.Proofs.YtaipljdpkgdheaaDoor
open Go Go.RowKit

/-- A block of four cells of the call's own. -/
structure Cells4 (w : World) (b : Nat) (v0 v1 v2 v3 : Value) : Prop where
  c0 : w.cell? ⟨b, 0, none⟩ = some v0
  c1 : w.cell? ⟨b, 1, none⟩ = some v1
  c2 : w.cell? ⟨b, 2, none⟩ = some v2
  c3 : w.cell? ⟨b, 3, none⟩ = some v3
  f0 : w.frozen? ⟨b, 0, none⟩ = false
  f1 : w.frozen? ⟨b, 1, none⟩ = false
  f2 : w.frozen? ⟨b, 2, none⟩ = false
  f3 : w.frozen? ⟨b, 3, none⟩ = false
theorem Cells4.of {w : World} {b : Nat} {v0 v1 v2 v3 : Value} {t : TypeId} (h : w.heap[b]? = some (Obj.cells #[v0, v1, v2, v3] t (0, 0))) : Cells4 w b v0 v1 v2 v3 :=
  ⟨by simp [World.cell?, h], by simp [World.cell?, h], by simp [World.cell?, h], by simp [World.cell?, h], by simp [World.frozen?, h], by simp [World.frozen?, h], by simp [World.frozen?, h], by simp [World.frozen?, h]⟩
theorem Cells4.made (w : World) (v0 v1 v2 v3 : Value) (t : TypeId) : Cells4 (w.alloc (Obj.cells #[v0, v1, v2, v3] t)) w.heap.size v0 v1 v2 v3 := Cells4.of (heap_alloc_new _ _)
theorem Cells4.keep {w w' : World} {b : Nat} {v0 v1 v2 v3 : Value} (h : Cells4 w b v0 v1 v2 v3) (hh : w'.heap[b]? = w.heap[b]?) : Cells4 w' b v0 v1 v2 v3 :=
  ⟨(World.cell?_of_block (a := ⟨b, 0, none⟩) hh).trans h.c0, (World.cell?_of_block (a := ⟨b, 1, none⟩) hh).trans h.c1, (World.cell?_of_block (a := ⟨b, 2, none⟩) hh).trans h.c2, (World.cell?_of_block (a := ⟨b, 3, none⟩) hh).trans h.c3,
   (World.frozen?_of_block (a := ⟨b, 0, none⟩) hh).trans h.f0, (World.frozen?_of_block (a := ⟨b, 1, none⟩) hh).trans h.f1, (World.frozen?_of_block (a := ⟨b, 2, none⟩) hh).trans h.f2, (World.frozen?_of_block (a := ⟨b, 3, none⟩) hh).trans h.f3⟩
theorem truth_any (b : Bool) (w : World) : Calls Tryd.prog 78 #[.bool b] w fun e w' => e = .returned (boolV b).v ∧ Below w.heap.size w w' := by
  go_enter Tryd.func78, Tryd.ntmps78
  go_wp2_with fail
  exact bodyPost_ret (v := .agg #[.int .i64 3, .int .i64 0, .string ⟨#[]⟩, .bool b]) (by simp [results, Tryd.results78, go_sem]) rfl ⟨rfl, (Below.refl _ _).alloc (Nat.le_refl _) _⟩
theorem text_any (s : ByteArray) (w : World) : Calls Tryd.prog 80 #[.string s] w fun e w' => e = .returned (strV s).v ∧ Below w.heap.size w w' := by
  go_enter Tryd.func80, Tryd.ntmps80
  go_wp2_with fail
  exact bodyPost_ret (v := .agg #[.int .i64 2, .int .i64 0, .string s, .bool false]) (by simp [results, Tryd.results80, go_sem]) rfl ⟨rfl, (Below.refl _ _).alloc (Nat.le_refl _) _⟩
theorem number_any (n : Int) (w : World) : Calls Tryd.prog 82 #[.int .i64 n] w fun e w' => e = .returned (numV n).v ∧ Below w.heap.size w w' := by
  go_enter Tryd.func82, Tryd.ntmps82
  go_wp2_with fail
  exact bodyPost_ret (v := .agg #[.int .i64 1, .int .i64 n, .string ⟨#[]⟩, .bool false]) (by simp [results, Tryd.results82, go_sem]) rfl ⟨rfl, (Below.refl _ _).alloc (Nat.le_refl _) _⟩
set_option maxHeartbeats 8000000 in
set_option maxRecDepth 100000 in
theorem understand_true (s : ByteArray) (w : World) (h1 : (s.toList == [84, 82, 85, 69]) = true) : Calls Tryd.prog 72 #[.string s] w fun e w' => e = .returned (.tuple #[(boolV true).v, .bool true]) ∧ Below w.heap.size w w' := by
  have HT := Lib.hid (fun W => truth_any true W)
  simp only [Val.v, boolV] at HT ⊢
  have HA := Lib.hid (Cells4.made w (.int .i64 0) (.int .i64 0) (.string ⟨#[]⟩) (.bool false) 80)
  have hb0 := (Below.refl w.heap.size w).alloc (Nat.le_refl _) (Obj.cells #[.int .i64 0, .int .i64 0, .string ⟨#[]⟩, .bool false] 80)
  have HB0 := Lib.hid hb0
  have HZ0 : w.heap.size < (w.alloc (Obj.cells #[.int .i64 0, .int .i64 0, .string ⟨#[]⟩, .bool false] 80)).heap.size := by rw [World.size_alloc]; omega
  clear hb0
  go_enter Tryd.func72, Tryd.ntmps72
  go_wp2_with fail
  refine (HT.out _).mono ?_; rintro e w1 ⟨rfl, hb1⟩
  have HA1 := Lib.hid (HA.out.keep (hb1.block w.heap.size HZ0))
  have HB1 := Lib.hid (HB0.out.trans (hb1.mono (Nat.le_of_lt HZ0)))
  have a0 := HA1.out.c0
  have b0 := HA1.out.f0
  have a1 := HA1.out.c1
  have b1 := HA1.out.f1
  have a2 := HA1.out.c2
  have b2 := HA1.out.f2
  have a3 := HA1.out.c3
  have b3 := HA1.out.f3
  clear hb1
  go_wp2_with fail
  refine bodyPost_ret (v := .tuple #[.agg #[.int .i64 3, .int .i64 0, .string ⟨#[]⟩, .bool true], .bool true]) (by simp [results, Tryd.results72, go_sem, a0, a1, a2, a3]) rfl ⟨rfl, ?_⟩
  exact below_own (below_own (below_own (below_own HB1.out (Nat.le_refl _) 0 _) (Nat.le_refl _) 1 _) (Nat.le_refl _) 2 _) (Nat.le_refl _) 3 _
set_option maxHeartbeats 8000000 in
set_option maxRecDepth 100000 in
theorem understand_false (s : ByteArray) (w : World) (h1 : (s.toList == [84, 82, 85, 69]) = false) (h2 : (s.toList == [70, 65, 76, 83, 69]) = true) : Calls Tryd.prog 72 #[.string s] w fun e w' => e = .returned (.tuple #[(boolV false).v, .bool true]) ∧ Below w.heap.size w w' := by
  have HT := Lib.hid (fun W => truth_any false W)
  simp only [Val.v, boolV] at HT ⊢
  have HA := Lib.hid (Cells4.made w (.int .i64 0) (.int .i64 0) (.string ⟨#[]⟩) (.bool false) 80)
  have hb0 := (Below.refl w.heap.size w).alloc (Nat.le_refl _) (Obj.cells #[.int .i64 0, .int .i64 0, .string ⟨#[]⟩, .bool false] 80)
  have HB0 := Lib.hid hb0
  have HZ0 : w.heap.size < (w.alloc (Obj.cells #[.int .i64 0, .int .i64 0, .string ⟨#[]⟩, .bool false] 80)).heap.size := by rw [World.size_alloc]; omega
  clear hb0
  go_enter Tryd.func72, Tryd.ntmps72
  go_wp2_with fail
  refine (HT.out _).mono ?_; rintro e w1 ⟨rfl, hb1⟩
  have HA1 := Lib.hid (HA.out.keep (hb1.block w.heap.size HZ0))
  have HB1 := Lib.hid (HB0.out.trans (hb1.mono (Nat.le_of_lt HZ0)))
  have a0 := HA1.out.c0
  have b0 := HA1.out.f0
  have a1 := HA1.out.c1
  have b1 := HA1.out.f1
  have a2 := HA1.out.c2
  have b2 := HA1.out.f2
  have a3 := HA1.out.c3
  have b3 := HA1.out.f3
  clear hb1
  go_wp2_with fail
  refine bodyPost_ret (v := .tuple #[.agg #[.int .i64 3, .int .i64 0, .string ⟨#[]⟩, .bool false], .bool true]) (by simp [results, Tryd.results72, go_sem, a0, a1, a2, a3]) rfl ⟨rfl, ?_⟩
  exact below_own (below_own (below_own (below_own HB1.out (Nat.le_refl _) 0 _) (Nat.le_refl _) 1 _) (Nat.le_refl _) 2 _) (Nat.le_refl _) 3 _
theorem prefix_any (s : ByteArray) (w : World) : Calls Tryd.prog 51 #[.string s, .string ⟨#[34]⟩] w fun e w' => e = .returned (.bool (Lib.hasPrefix s.data.toList [34])) ∧ w' = w := Tryd.strings_HasPrefix s ⟨#[34]⟩ w
theorem head_quote {s : ByteArray} (h : Lib.hasPrefix s.data.toList [34] = true) : ∃ h0 : 0 < s.size, s[0]'h0 = 34 := by
  cases hs : s.data.toList with
  | nil => rw [hs] at h; simp [Lib.hasPrefix, List.isPrefixOf] at h
  | cons c r =>
    rw [hs] at h
    have h0 : 0 < s.size := by show 0 < s.data.toList.length; rw [hs]; simp
    refine ⟨h0, ?_⟩
    have e : s[0]'h0 = s.data.toList[0]'(by rw [hs]; simp) := by simp [ByteArray.getElem_eq_getElem_data]
    rw [e]
    simp only [hs, List.getElem_cons_zero]
    have : (34 == c) = true := by simpa [Lib.hasPrefix, List.isPrefixOf] using h
    exact (beq_iff_eq.1 this).symm
theorem unquote_any (s : ByteArray) (w : World) (hm : s.size ≤ 140737488355328) (h : Lib.hasPrefix s.data.toList [34] = true) :
    Calls Tryd.prog 79 #[.string s] w fun e w' => (∃ q b, e = .returned (.tuple #[.string q, .bool b]) ∧ q.size ≤ s.size) ∧ Below w.heap.size w w' := by
  obtain ⟨h0, hh⟩ := head_quote h
  by_cases hn : s.size < 2 ∨ s[s.size - 1]'(by omega) ≠ 34
  · exact (unquote_no s w hm h0 hh hn).mono fun e w' ⟨h1, h2⟩ => ⟨⟨_, _, h1, Nat.zero_le _⟩, h2⟩
  · have h2 : 2 ≤ s.size := by
      rcases Nat.lt_or_ge s.size 2 with h | h
      · exact absurd (Or.inl h) hn
      · exact h
    have hl : s[s.size - 1]'(by omega) = 34 := Classical.byContradiction fun h => hn (Or.inr h)
    exact unquote_yes s w hm h0 hh h2 hl
set_option maxHeartbeats 8000000 in
set_option maxRecDepth 100000 in
theorem understand_str (s : ByteArray) (w : World) (hm : s.size ≤ 140737488355328) (h1 : (s.toList == [84, 82, 85, 69]) = false) (h2 : (s.toList == [70, 65, 76, 83, 69]) = false) (hp : Lib.hasPrefix s.data.toList [34] = true) : Calls Tryd.prog 72 #[.string s] w fun e w' => (∃ q b, e = .returned (.tuple #[(strV q).v, .bool b]) ∧ q.size ≤ s.size) ∧ Below w.heap.size w w' := by
  have HP := Lib.hid (fun W => prefix_any s W)
  rw [hp] at HP
  have HU := Lib.hid (fun W => unquote_any s W hm hp)
  have HX := Lib.hid (fun q W => text_any q W)
  simp only [Val.v, strV] at HX ⊢
  have HA := Lib.hid (Cells4.made w (.int .i64 0) (.int .i64 0) (.string ⟨#[]⟩) (.bool false) 80)
  have hb0 := (Below.refl w.heap.size w).alloc (Nat.le_refl _) (Obj.cells #[.int .i64 0, .int .i64 0, .string ⟨#[]⟩, .bool false] 80)
  have HB0 := Lib.hid hb0
  have HZ0 : w.heap.size < (w.alloc (Obj.cells #[.int .i64 0, .int .i64 0, .string ⟨#[]⟩, .bool false] 80)).heap.size := by rw [World.size_alloc]; omega
  clear hb0
  go_enter Tryd.func72, Tryd.ntmps72
  go_wp2_with fail
  refine (HP.out _).mono ?_; rintro e w1 ⟨rfl, hw1⟩
  subst hw1
  go_wp2_with fail
  refine (HU.out _).mono ?_; rintro e w1 ⟨⟨q, b, rfl, hq⟩, hb1⟩
  have HA1 := Lib.hid (HA.out.keep (hb1.block w.heap.size HZ0))
  have HB1 := Lib.hid (HB0.out.trans (hb1.mono (Nat.le_of_lt HZ0)))
  have HZ1 := Nat.lt_of_lt_of_le HZ0 hb1.size
  clear hb1
  go_wp2_with fail
  refine (HX.out q _).mono ?_; rintro e w3 ⟨rfl, hb3⟩
  have HA3 := Lib.hid (HA1.out.keep (hb3.block w.heap.size HZ1))
  have HB3 := Lib.hid (HB1.out.trans (hb3.mono (Nat.le_of_lt HZ1)))
  have HZ3 := Nat.lt_of_lt_of_le HZ1 hb3.size
  clear hb3
  have a0 := HA3.out.c0
  have b0 := HA3.out.f0
  have a1 := HA3.out.c1
  have b1 := HA3.out.f1
  have a2 := HA3.out.c2
  have b2 := HA3.out.f2
  have a3 := HA3.out.c3
  have b3 := HA3.out.f3
  go_wp2_with fail
  refine bodyPost_ret (v := .tuple #[.agg #[.int .i64 2, .int .i64 0, .string q, .bool false], .bool b]) (by simp [results, Tryd.results72, go_sem, a0, a1, a2, a3]) rfl ⟨⟨q, b, rfl, hq⟩, ?_⟩
  exact below_own (below_own (below_own (below_own HB3.out (Nat.le_refl _) 0 _) (Nat.le_refl _) 1 _) (Nat.le_refl _) 2 _) (Nat.le_refl _) 3 _
set_option maxHeartbeats 8000000 in
set_option maxRecDepth 100000 in
theorem understand_num (s : ByteArray) (n : Int) (w : World) (hm : s.size ≤ 140737488355328) (h1 : (s.toList == [84, 82, 85, 69]) = false) (h2 : (s.toList == [70, 65, 76, 83, 69]) = false) (hp : Lib.hasPrefix s.data.toList [34] = false) (hn : Lib.atoiAll s.data.toList = .ok n) : Calls Tryd.prog 72 #[.string s] w fun e w' => e = .returned (.tuple #[(numV n).v, .bool true]) ∧ Below w.heap.size w w' := by
  have HP := Lib.hid (fun W => prefix_any s W)
  rw [hp] at HP
  have HU := Lib.hid (fun W => parse_ok s n W (by omega) hn)
  have HX := Lib.hid (fun W => number_any n W)
  simp only [Val.v, numV] at HX ⊢
  have HA := Lib.hid (Cells4.made w (.int .i64 0) (.int .i64 0) (.string ⟨#[]⟩) (.bool false) 80)
  have hb0 := (Below.refl w.heap.size w).alloc (Nat.le_refl _) (Obj.cells #[.int .i64 0, .int .i64 0, .string ⟨#[]⟩, .bool false] 80)
  have HB0 := Lib.hid hb0
  have HZ0 : w.heap.size < (w.alloc (Obj.cells #[.int .i64 0, .int .i64 0, .string ⟨#[]⟩, .bool false] 80)).heap.size := by rw [World.size_alloc]; omega
  clear hb0
  go_enter Tryd.func72, Tryd.ntmps72
  go_wp2_with fail
  refine (HP.out _).mono ?_; rintro e w1 ⟨rfl, hw1⟩
  subst hw1
  go_wp2_with fail
  refine (HU.out _).mono ?_; rintro e w1 ⟨rfl, hb1⟩
  have HA1 := Lib.hid (HA.out.keep (hb1.block w.heap.size HZ0))
  have HB1 := Lib.hid (HB0.out.trans (hb1.mono (Nat.le_of_lt HZ0)))
  have HZ1 := Nat.lt_of_lt_of_le HZ0 hb1.size
  clear hb1
  go_wp2_with fail
  go_region_with (go_at_call 82; refine (HX.out _).mono ?_; rintro e w3 ⟨rfl, hb3⟩; have hbD := (Below.refl w1.heap.size w1).drew.trans hb3; have HA3 := Lib.hid (HA1.out.keep (hbD.block w.heap.size HZ1)); have a0 := HA3.out.c0; have b0 := HA3.out.f0; have a1 := HA3.out.c1; have b1 := HA3.out.f1; have a2 := HA3.out.c2; have b2 := HA3.out.f2; have a3 := HA3.out.c3; have b3 := HA3.out.f3)
  all_goals
    have HB3 := Lib.hid (HB1.out.trans (hbD.mono (Nat.le_of_lt HZ1)))
    go_wp2_with fail
    refine bodyPost_ret (v := .tuple #[.agg #[.int .i64 1, .int .i64 n, .string ⟨#[]⟩, .bool false], .bool true]) (by simp [results, Tryd.results72, go_sem, a0, a1, a2, a3]) rfl ⟨rfl, ?_⟩
    exact below_own (below_own (below_own (below_own HB3.out (Nat.le_refl _) 0 _) (Nat.le_refl _) 1 _) (Nat.le_refl _) 2 _) (Nat.le_refl _) 3 _
set_option maxHeartbeats 8000000 in
set_option maxRecDepth 100000 in
theorem understand_none (s : ByteArray) (w : World) (ht : Tabs w) (hm : s.size ≤ 140737488355328) (h1 : (s.toList == [84, 82, 85, 69]) = false) (h2 : (s.toList == [70, 65, 76, 83, 69]) = false) (hp : Lib.hasPrefix s.data.toList [34] = false) (hn : ∀ n, Lib.atoiAll s.data.toList ≠ .ok n) : Calls Tryd.prog 72 #[.string s] w fun e w' => (∃ n, e = .returned (.tuple #[(numV n).v, .bool false])) ∧ Below w.heap.size w w' := by
  have HP := Lib.hid (fun W => prefix_any s W)
  rw [hp] at HP
  have HU := Lib.hid (fun W hT => parse_no s W (by omega) hn hT)
  have HX := Lib.hid (fun n W => number_any n W)
  have HTB := Lib.hid ht
  clear ht
  simp only [Val.v, numV] at HX ⊢
  have HA := Lib.hid (Cells4.made w (.int .i64 0) (.int .i64 0) (.string ⟨#[]⟩) (.bool false) 80)
  have hb0 := (Below.refl w.heap.size w).alloc (Nat.le_refl _) (Obj.cells #[.int .i64 0, .int .i64 0, .string ⟨#[]⟩, .bool false] 80)
  have HB0 := Lib.hid hb0
  have HZ0 : w.heap.size < (w.alloc (Obj.cells #[.int .i64 0, .int .i64 0, .string ⟨#[]⟩, .bool false] 80)).heap.size := by rw [World.size_alloc]; omega
  clear hb0
  go_enter Tryd.func72, Tryd.ntmps72
  go_wp2_with fail
  refine (HP.out _).mono ?_; rintro e w1 ⟨rfl, hw1⟩
  subst hw1
  go_wp2_with fail
  refine (HU.out _ (HTB.out.below HB0.out)).mono ?_; rintro e w1 ⟨n, N, rfl, hb1⟩
  have HA1 := Lib.hid (HA.out.keep (hb1.block w.heap.size HZ0))
  have HB1 := Lib.hid (HB0.out.trans (hb1.mono (Nat.le_of_lt HZ0)))
  have HZ1 := Nat.lt_of_lt_of_le HZ0 hb1.size
  clear hb1
  go_wp2_with fail
  go_region_with (go_at_call 82; refine (HX.out n _).mono ?_; rintro e w3 ⟨rfl, hb3⟩; have hbD := (Below.refl w1.heap.size w1).drew.trans hb3; have HA3 := Lib.hid (HA1.out.keep (hbD.block w.heap.size HZ1)); have a0 := HA3.out.c0; have b0 := HA3.out.f0; have a1 := HA3.out.c1; have b1 := HA3.out.f1; have a2 := HA3.out.c2; have b2 := HA3.out.f2; have a3 := HA3.out.c3; have b3 := HA3.out.f3)
  all_goals
    have HB3 := Lib.hid (HB1.out.trans (hbD.mono (Nat.le_of_lt HZ1)))
    go_wp2_with fail
    refine bodyPost_ret (v := .tuple #[.agg #[.int .i64 1, .int .i64 n, .string ⟨#[]⟩, .bool false], .bool false]) (by simp [results, Tryd.results72, go_sem, a0, a1, a2, a3]) rfl ⟨⟨n, rfl⟩, ?_⟩
    exact below_own (below_own (below_own (below_own HB3.out (Nat.le_refl _) 0 _) (Nat.le_refl _) 1 _) (Nat.le_refl _) 2 _) (Nat.le_refl _) 3 _
end Go.Proofs.YtaipljdpkgdheaaDoor
