/- The law's own helpers: a number in digits, one of n by any number, a value of a kind. -/
import Derived.Test.YtpcmhbafcgineaaDoorFault
import Derived.Test.YtpcmhbafcgineaaDoorTypedSpec
namespace Go.Proofs.YtpcmhbafcgineaaDoor
open Go Go.RowKit

theorem dg_nat (n : Nat) (h : n < 10) : (dgS n).toNat = 48 + n := by simp [dgS]; omega
theorem decS_size (n : Nat) : (decS n).size ≤ 2 := by
  unfold decS
  split <;> simp [ByteArray.size]

theorem conv_byte (w : World) (n : Nat) (h : n < 10) : (convert 43 9 (.slice (some ⟨w.heap.size, 0, none⟩) 1 1)).run Tryd.prog (w.alloc (Obj.cells #[Value.int IntKind.u8 (48 + (n : Int))] 5)) = .ok (.string ⟨#[dgS n]⟩) (w.alloc (Obj.cells #[Value.int IntKind.u8 (48 + (n : Int))] 5)) := by
  have h := run_convert_bytes_back (P := Tryd.prog) (w.alloc (Obj.cells #[Value.int IntKind.u8 (48 + (n : Int))] 5)) 43 9 5 ⟨w.heap.size, 0, none⟩ 1 [dgS n] Tryd.underlying43 Tryd.underlying5 Tryd.underlying9
    (fun j hj => by
      obtain rfl : j = 0 := by simp at hj; exact hj
      have e : (⟨w.heap.size, 0, none⟩ : Addr).add 0 = ⟨w.heap.size, 0, none⟩ := rfl
      rw [e]
      simp [dg_nat n h])
  exact h

set_option maxRecDepth 100000 in
theorem decimal_one (n : Nat) (w : World) (h : n < 10) : Calls Tryd.prog 18 #[.int .i64 n] w fun e w' => e = .returned (.string (decS n)) ∧ Below w.heap.size w w' := by
  have hd := Lib.hid (show decS n = ⟨#[dgS n]⟩ by rw [decS, if_pos h])
  have hm : (n : Int) % 10 = n := by omega
  have hcv := conv_byte w n h
  go_enter Tryd.func18, Tryd.ntmps18
  go_wp2_with fail
  go_ret
  exact ⟨by rw [hd.out]; rfl, (Below.refl _ _).alloc (Nat.le_refl _) _⟩

set_option maxRecDepth 100000 in
theorem decimal_two (n : Nat) (w : World) (h : 10 ≤ n) (h2 : n < 100) : Calls Tryd.prog 18 #[.int .i64 n] w fun e w' => e = .returned (.string (decS n)) ∧ Below w.heap.size w w' := by
  obtain ⟨m, hm⟩ : ∃ m : Nat, m = n % 10 := ⟨_, rfl⟩
  obtain ⟨q, hq⟩ : ∃ q : Nat, q = n / 10 := ⟨_, rfl⟩
  have hd := Lib.hid (show decS n = decS q ++ ⟨#[dgS m]⟩ by
    rw [decS, if_neg (by omega), hq, hm, decS, if_pos (by omega)]
    rfl)
  have hm0 : (n : Int) % 10 = m := by omega
  have hcv := conv_byte w m (by omega)
  have hq0 : (n : Int) / 10 = q := by omega
  have hqs := decS_size q
  have hq2 : q < 10 := by omega
  clear hq hm
  go_enter Tryd.func18, Tryd.ntmps18
  go_wp2_with (go_at_call 18; refine (decimal_one q _ hq2).mono ?_; rintro e w' ⟨rfl, hb⟩)
  go_ret
  exact ⟨by rw [hd.out]; rfl, below_new hb⟩

theorem decimal_any (n : Nat) (w : World) (h : n < 100) : Calls Tryd.prog 18 #[.int .i64 n] w fun e w' => e = .returned (.string (decS n)) ∧ Below w.heap.size w w' := by
  by_cases h1 : n < 10
  · exact decimal_one n w h1
  · exact decimal_two n w (by omega) h

theorem emod_of_tmod (k n : Int) (h1 : 1 ≤ n) : (k.tmod n < 0 → k.tmod n + n = k % n ∧ 0 ≤ k % n ∧ k % n < n) ∧ (0 ≤ k.tmod n → k.tmod n = k % n ∧ 0 ≤ k % n ∧ k % n < n) := by
  have e1 := Int.emod_nonneg k (show n ≠ 0 by omega)
  have e2 := Int.emod_lt_of_pos k (show 0 < n by omega)
  have e3 := Int.tmod_eq_emod (a := k) (b := n)
  constructor
  · intro h
    refine ⟨?_, e1, e2⟩
    rw [e3] at h ⊢
    split at h <;> rename_i hc
    · omega
    · rw [if_neg hc]
      omega
  · intro h
    refine ⟨?_, e1, e2⟩
    rw [e3] at h ⊢
    split at h <;> rename_i hc
    · rw [if_pos hc]; omega
    · omega

theorem part_any (k n : Int) (w : World) (h1 : 1 ≤ n) (h2 : n ≤ 1000000) : Calls Tryd.prog 11 #[.int .i64 k, .int .i64 n] w fun e w' => e = .returned (.int .i64 (k % n)) ∧ w = w' := by
  obtain ⟨ha, hb⟩ := emod_of_tmod k n h1
  have HA := Lib.hid ha
  have HB := Lib.hid hb
  clear ha hb
  by_cases h : k.tmod n < 0
  · have HW := Lib.hid (show wrap64 (k.tmod n + n) = k % n by
      obtain ⟨e, e1, e2⟩ := HA.out h
      rw [e]
      exact IntWalk.wrap64_in _ ⟨by omega, by omega⟩)
    go_enter Tryd.func11, Tryd.ntmps11
    go_wp2_with fail
    go_ret
    exact ⟨ret_err HW.out, rfl⟩
  · have HW := Lib.hid (HB.out (by omega)).1
    go_enter Tryd.func11, Tryd.ntmps11
    go_wp2_with fail
    go_ret
    exact ⟨ret_err HW.out, rfl⟩

/-- A value of a kind, out of any numbers. -/
structure Val where
  kind : Int
  int : Int
  str : ByteArray
  bool : Bool
def Val.v (a : Val) : Value := .agg #[.int .i64 a.kind, .int .i64 a.int, .string a.str, .bool a.bool]
def cut256 (s : ByteArray) : ByteArray := if s.size ≤ 256 then s else s.extract 0 256
def valueB (k n : Int) (s : ByteArray) : Val :=
  if k = 1 then ⟨1, n, ⟨#[]⟩, false⟩ else if k = 2 then ⟨2, 0, cut256 s, false⟩ else ⟨3, 0, ⟨#[]⟩, n.tmod 2 != 0⟩

theorem value_any (k n : Int) (s : ByteArray) (w : World) (hm : s.size ≤ maxLen) : Calls Tryd.prog 9 #[.int .i64 k, .int .i64 n, .string s] w fun e w' => e = .returned (valueB k n s).v ∧ Below w.heap.size w w' := by
  unfold maxLen at hm
  have hk : k = 1 ∨ k = 2 ∨ (k ≠ 1 ∧ k ≠ 2) := by omega
  by_cases hs : s.size ≤ 256
  all_goals
    rcases hk with rfl | rfl | ⟨h1, h2⟩
    · go_enter Tryd.func9, Tryd.ntmps9
      go_wp2_with fail
      exact bodyPost_ret (v := (valueB 1 n s).v) (by simp [results, Tryd.results9, go_sem, valueB, Val.v]) rfl ⟨rfl, (Below.refl _ _).alloc (Nat.le_refl _) _⟩
    · go_enter Tryd.func9, Tryd.ntmps9
      go_wp2_with fail
      exact bodyPost_ret (v := (valueB 2 n s).v) (by simp [results, Tryd.results9, go_sem, valueB, Val.v, cut256, hs]) rfl ⟨rfl, (Below.refl _ _).alloc (Nat.le_refl _) _⟩
    · have b1 : (k == 1) = false := by simpa using h1
      have b2 : (k == 2) = false := by simpa using h2
      go_enter Tryd.func9, Tryd.ntmps9
      go_wp2_with fail
      exact bodyPost_ret (v := (valueB k n s).v) (by simp [results, Tryd.results9, go_sem, valueB, Val.v, h1, h2]) rfl ⟨rfl, (Below.refl _ _).alloc (Nat.le_refl _) _⟩
end Go.Proofs.YtpcmhbafcgineaaDoor
