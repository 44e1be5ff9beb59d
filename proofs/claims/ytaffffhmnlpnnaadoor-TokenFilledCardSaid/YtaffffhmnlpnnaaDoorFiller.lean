/- The laws' filler: blanks and comments. -/
import Derived.Test.YtaffffhmnlpnnaaDoorFillSpec
import Derived.Test.YtaffffhmnlpnnaaDoorLimWalk
import Derived.Deep.CutRange
namespace Go.Proofs.YtaffffhmnlpnnaaDoor
open Go Go.RowKit

set_option maxHeartbeats 8000000 in
set_option maxRecDepth 100000 in
theorem filler_any (kb : Nat) (s : ByteArray) (w : World) (hk : kb < 256) :
    Calls Tryd.prog 13 #[.int .u8 (kb : Int), .string s] w fun e w' => (∃ f : ByteArray, e = .returned (.string f) ∧ Fill f.data.toList) ∧ Below w.heap.size w w' := by
  obtain ⟨i0, hi0, iz0, iz1, iz2⟩ := info_parts Tryd.infoU8
  go_enter Tryd.func13, Tryd.ntmps13
  go_wp2_with fail
  go_loopw [5, 6] (fun v5 v6 wr => ∃ (i : Nat) (m : List UInt8) (va : Option Addr) (cp : Nat), i ≤ s.size ∧ i ≤ 20 ∧ v6 = .int .i64 (i : Int) ∧ v5 = .slice va m.length cp ∧ wr.ownsRow w.heap.size 5 1 (.slice va m.length cp) m.length (bytesC m) ∧ (∀ c ∈ m, c ≠ 10) ∧ m.length ≤ i ∧ Below w.heap.size w wr) (fun _ v6 _ => 20 - (intOf v6).toNat)
  case atStart => exact ⟨0, [], none, 0, Nat.zero_le _, by omega, rfl, rfl, World.ownsRow_nil _ _ _ _, by simp, Nat.zero_le _, Below.refl _ _⟩
  case round =>
    obtain ⟨i, m, va, cp, hi, hi20, rfl, rfl, hown, hno, hml, hbel⟩ := hrel
    obtain ⟨n, hn⟩ : ∃ n, n = m.length := ⟨_, rfl⟩
    rw [← hn] at hown hml ⊢
    have HN := Lib.hid hn
    have HO := Lib.hid hown
    have HNO := Lib.hid hno
    have HBE := Lib.hid hbel
    have hzw := hbel.size
    have i0' : (0 : Int) ≤ (i : Int) := by omega
    clear hn hown hno hbel
    by_cases hgo : i < s.size ∧ i < 20
    · obtain ⟨hlt, hlt2⟩ := hgo
      have j1 : (i : Int) < (s.size : Int) := by omega
      have j2 : (i : Int) < 20 := by omega
      obtain ⟨c, hc⟩ : ∃ c, c = (s[i]'hlt).toNat := ⟨_, rfl⟩
      have hcr : (s[i]'hlt).toNat = c := hc.symm
      have hc256 : c < 256 := by rw [hc]; exact (s[i]'hlt).toNat_lt
      have HCC := Lib.hid hcr
      clear hc
      by_cases h10 : c = 10
      · have b10 : ((c : Int) != 10) = false := by rw [h10]; rfl
        clear h10
        go_wp2_with fail
        go_roundw
        case rel => exact ⟨i + 1, m, va, cp, by omega, by omega, by go_num, by rw [HN.out], by rw [← HN.out]; exact HO.out, HNO.out, by have := HN.out; omega, HBE.out⟩
        case measure => simp [intOf]; omega
      · have b10 : ((c : Int) != 10) = true := by simp only [bne_iff_ne, ne_eq]; omega
        have HCN := Lib.hid (show (s[i]'hlt) ≠ 10 by intro e; apply h10; rw [← HCC.out, e]; rfl)
        clear h10
        go_wp2_with (at_builtin; go_must (refine wpList_append_lies _ (by rfl) _ _ _ (by rfl) w.heap.size 5 i0 _ 1 1 Tryd.underlying22 hi0 iz0 iz1 iz2 rfl (by omega) (.slice va n cp) n (bytesC m) (by rfl) (HO.out.alloc _) ⟨_, 0, none⟩ 1 1 [.int .u8 (c : Int)] (by rfl) (by rfl) (World.news_of_block (cs := #[.int .u8 (c : Int)]) (t := 5) (fr := (0, 0)) (heap_alloc_new _ _)) (by simp [Value.oneCell']) (by omega) (by unfold maxLen; omega) (by omega) (by first | (simp; done) | (simp; omega)) _ rfl ?_; intro g3 cap3 w8 hown8 hgrow8 hat8 hlt8))
        have HL8 := Lib.hid (show (m ++ [s[i]'hlt]).length = n + 1 by rw [HN.out, List.length_append]; rfl)
        have HO8 := Lib.hid (show w8.ownsRow w.heap.size 5 1 (.slice (some ⟨g3, 0, none⟩) (n + 1) cap3) (n + 1) (bytesC (m ++ [s[i]'hlt])) by
          rw [bytesC_append]
          have e : bytesC [s[i]'hlt] = [.int .u8 (c : Int)] := by rw [← HCC.out]; rfl
          rw [e]
          exact hown8)
        have HB8 := Lib.hid (Below.grown (B := w.heap.size) (HBE.out.alloc hzw _) hgrow8 (by simp; omega) (ownBlock_lo HO.out))
        clear hown8 hgrow8 hat8 hlt8
        go_roundw
        case rel => exact ⟨i + 1, m ++ [s[i]'hlt], some ⟨g3, 0, none⟩, cap3, by omega, by omega, by go_num, by rw [HL8.out], by rw [HL8.out]; exact HO8.out, fun x hx => by
          rcases List.mem_append.1 hx with hx | hx
          · exact HNO.out x hx
          · rw [List.mem_singleton.1 hx]; exact HCN.out, by have := HL8.out; omega, HB8.out⟩
        case measure => simp [intOf]; omega
    · have hj : (¬ (i : Int) < (s.size : Int)) ∨ ((i : Int) < (s.size : Int) ∧ ¬ (i : Int) < 20) := by omega
      have hn20 : m.length ≤ 20 := by have := HN.out; omega
      obtain ⟨t, ht⟩ : ∃ t, t = (⟨m.toArray⟩ : ByteArray) := ⟨_, rfl⟩
      have HTT := Lib.hid (show t.data.toList = m by rw [ht])
      have htz : t.size = n := by rw [ht, HN.out]; rfl
      have hcv : (convert 22 9 (.slice va n cp)).run Tryd.prog wr = .ok (.string t) wr := by
        have h := HO.out
        rw [ht]
        rw [HN.out] at h ⊢
        exact conv_owned h
      obtain ⟨A1, hA1⟩ : ∃ A, A = (⟨#[32, 45, 45]⟩ : ByteArray) ++ t := ⟨_, rfl⟩
      obtain ⟨A2, hA2⟩ : ∃ A, A = A1 ++ (⟨#[10]⟩ : ByteArray) := ⟨_, rfl⟩
      obtain ⟨A3, hA3⟩ : ∃ A, A = (⟨#[32, 45, 45, 32, 120, 10, 45, 45]⟩ : ByteArray) ++ t := ⟨_, rfl⟩
      obtain ⟨A4, hA4⟩ : ∃ A, A = A3 ++ (⟨#[10, 32]⟩ : ByteArray) := ⟨_, rfl⟩
      have z3 : (⟨#[32, 45, 45]⟩ : ByteArray).size = 3 := rfl
      have z8 : (⟨#[32, 45, 45, 32, 120, 10, 45, 45]⟩ : ByteArray).size = 8 := rfl
      have z1 : (⟨#[10]⟩ : ByteArray).size = 1 := rfl
      have z2 : (⟨#[10, 32]⟩ : ByteArray).size = 2 := rfl
      have s1 : A1.size = 3 + n := by rw [hA1, ByteArray.size_append, htz, z3]
      have s3 : A3.size = 8 + n := by rw [hA3, ByteArray.size_append, htz, z8]
      have a1 : ∀ w : World, (Op.stringOp .add (⟨#[32, 45, 45]⟩ : ByteArray) t).run Tryd.prog w = .ok (.string A1) w := fun w => by rw [hA1]; exact run_string_add_sum w _ _ (by omega)
      have a2 : ∀ w : World, (Op.stringOp .add A1 (⟨#[10]⟩ : ByteArray)).run Tryd.prog w = .ok (.string A2) w := fun w => by rw [hA2]; exact run_string_add_sum w _ _ (by omega)
      have a3 : ∀ w : World, (Op.stringOp .add (⟨#[32, 45, 45, 32, 120, 10, 45, 45]⟩ : ByteArray) t).run Tryd.prog w = .ok (.string A3) w := fun w => by rw [hA3]; exact run_string_add_sum w _ _ (by omega)
      have a4 : ∀ w : World, (Op.stringOp .add A3 (⟨#[10, 32]⟩ : ByteArray)).run Tryd.prog w = .ok (.string A4) w := fun w => by rw [hA4]; exact run_string_add_sum w _ _ (by omega)
      have HF2 := Lib.hid (show Fill A2.data.toList by rw [hA2, hA1, bytes_append, bytes_append, HTT.out]; exact fill2 HNO.out hn20)
      have HF4 := Lib.hid (show Fill A4.data.toList by rw [hA4, hA3, bytes_append, bytes_append, HTT.out]; exact fill3 HNO.out hn20)
      obtain ⟨j, hjd⟩ : ∃ j, j = kb % 5 := ⟨_, rfl⟩
      have e5 : (kb : Int).tmod 5 = (j : Int) := by rw [Int.tmod_eq_emod_of_nonneg (by omega)]; omega
      have hj5 : j < 5 := by omega
      clear hgo ht htz hA1 hA2 hA3 hA4 z1 z2 z3 z8 s1 s3 hn20 hjd
      rcases (show j = 0 ∨ j = 1 ∨ j = 2 ∨ j = 3 ∨ j = 4 by omega) with rfl | rfl | rfl | rfl | rfl
      all_goals
        rcases hj with hj | ⟨hj, hj2⟩
        all_goals
          go_wp2_with fail
          go_ret
          exact ⟨⟨_, rfl, by first | exact fill0 | exact fill1 | exact HF2.out | exact HF4.out | exact fill4⟩, HBE.out⟩
end Go.Proofs.YtaffffhmnlpnnaaDoor
