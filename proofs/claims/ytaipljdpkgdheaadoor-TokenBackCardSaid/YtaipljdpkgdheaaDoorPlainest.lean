/- The walk of plainest: a token of a kind that can be. -/
import Derived.Test.YtaipljdpkgdheaaDoorPlain
import Derived.Test.YtaipljdpkgdheaaDoorLimWalk
import Derived.Deep.CutRange
import Derived.Deep.WholeRow
import Derived.Lib.SlBytesConst
namespace Go.Proofs.YtaipljdpkgdheaaDoor
open Go Go.RowKit

/-- The bytes of a word to be. -/
def WordSoFar (m : List UInt8) : Prop := m = [] ∨ ∃ b r, m = b :: r ∧ letU b = true ∧ ∀ c ∈ r, wordByte c = true
theorem WordSoFar.snoc {m : List UInt8} (h : WordSoFar m) {c : UInt8} (hc : letU c = true ∨ wordByte c = true ∧ m ≠ []) : WordSoFar (m ++ [c]) := by
  rcases h with rfl | ⟨b, r, rfl, hb, hr⟩
  · rcases hc with hc | ⟨_, h⟩
    · exact Or.inr ⟨c, [], rfl, hc, by simp⟩
    · exact absurd rfl h
  · refine Or.inr ⟨b, r ++ [c], rfl, hb, fun x hx => ?_⟩
    rcases List.mem_append.1 hx with hx | hx
    · exact hr x hx
    · rw [List.mem_singleton.1 hx]
      rcases hc with hc | hc
      · exact let_word hc
      · exact hc.1
theorem WordSoFar.plain {m : List UInt8} (h : WordSoFar m) (h0 : m ≠ []) (hl : m.length ≤ 32) : Plain 1 m := by
  rcases h with rfl | ⟨b, r, rfl, hb, hr⟩
  · exact absurd rfl h0
  · exact Or.inl ⟨rfl, b, r, rfl, hb, hr, hl⟩
theorem WordSoFar.cut {m : List UInt8} (h : WordSoFar m) (h0 : 32 < m.length) : Plain 1 (m.take 32) := by
  rcases h with rfl | ⟨b, r, rfl, hb, hr⟩
  · simp at h0
  · refine Or.inl ⟨rfl, b, r.take 31, rfl, hb, fun c hc => hr c (List.mem_of_mem_take hc), ?_⟩
    rw [List.length_take]
    omega
def letC (c : Nat) : Prop := 97 ≤ c ∧ c ≤ 122 ∨ 65 ≤ c ∧ c ≤ 90 ∨ c = 95
theorem letU_of {b : UInt8} (h : letC b.toNat) : letU b = true := by
  unfold letC at h
  unfold letU lttrI
  simp only [Bool.or_eq_true, Bool.and_eq_true, decide_eq_true_eq, beq_iff_eq]
  omega
theorem digW_of {b : UInt8} (h : 48 ≤ b.toNat ∧ b.toNat ≤ 57) : wordByte b = true := by
  unfold wordByte digI
  simp only [Bool.or_eq_true, Bool.and_eq_true, decide_eq_true_eq]
  omega
/-- Bytes of a row of one's own, as a text. -/
theorem conv_front {w : World} {B cap n g k : Nat} {m : List UInt8} (h : w.ownsRow B 5 1 (.slice (some ⟨g, 0, none⟩) n cap) n (bytesC m)) (hk : k ≤ m.length) : (convert 22 9 (.slice (some ⟨g, 0, none⟩) k cap)).run Tryd.prog w = .ok (.string ⟨(m.take k).toArray⟩) w := by
  have e : (m.take k).length = k := by rw [List.length_take]; omega
  have h2 := run_convert_bytes_back (P := Tryd.prog) w 22 9 5 ⟨g, 0, none⟩ cap (m.take k) Tryd.underlying22 Tryd.underlying5 Tryd.underlying9 (fun j hj => by
    have hj2 : j < m.length := by omega
    have hc := h.cells (g := g) rfl j (.int .u8 (m[j].toNat : Int)) (by rw [bytesC_get m j hj2])
    rw [hc, List.getElem_take])
  rw [e] at h2
  exact h2
def signS (j : Nat) : ByteArray := ⟨(signsL.getD j []).toArray⟩
def signCells : Array Value := #[.string ⟨#[40]⟩, .string ⟨#[41]⟩, .string ⟨#[91]⟩, .string ⟨#[93]⟩, .string ⟨#[123]⟩, .string ⟨#[125]⟩, .string ⟨#[44]⟩, .string ⟨#[46]⟩, .string ⟨#[46, 46]⟩, .string ⟨#[43]⟩, .string ⟨#[45]⟩, .string ⟨#[42]⟩, .string ⟨#[61]⟩, .string ⟨#[33, 61]⟩, .string ⟨#[60]⟩, .string ⟨#[60, 61]⟩, .string ⟨#[62]⟩, .string ⟨#[62, 61]⟩, .string ⟨#[33]⟩]

theorem conv_new3 (w : World) (a b c : UInt8) : (convert 22 9 (.slice (some ⟨w.heap.size, 0, none⟩) 3 3)).run Tryd.prog (w.alloc (Obj.cells #[.int .u8 (a.toNat : Int), .int .u8 (b.toNat : Int), .int .u8 (c.toNat : Int)] 5)) = .ok (.string ⟨#[a, b, c]⟩) (w.alloc (Obj.cells #[.int .u8 (a.toNat : Int), .int .u8 (b.toNat : Int), .int .u8 (c.toNat : Int)] 5)) :=
  conv_owned (B := w.heap.size) (c := [a, b, c]) ⟨by simp [bytesC], .inr ⟨w.heap.size, 3, #[.int .u8 (a.toNat : Int), .int .u8 (b.toNat : Int), .int .u8 (c.toNat : Int)], rfl, Nat.le_refl _, heap_alloc_new w _, Nat.le_refl _, (show 3 ≤ maxLen by unfold maxLen; omega), by simp, by simp [bytesC]⟩⟩
theorem ex1 (a b c : UInt8) : (⟨#[a, b, c]⟩ : ByteArray).extract 0 1 = ⟨#[a]⟩ := rfl
theorem ex2 (a b c : UInt8) : (⟨#[a, b, c]⟩ : ByteArray).extract 0 2 = ⟨#[a, b]⟩ := rfl
theorem ex3 (a b c : UInt8) : (⟨#[a, b, c]⟩ : ByteArray).extract 0 3 = ⟨#[a, b, c]⟩ := rfl
theorem conv_120 (w : World) : (convert 22 9 (.slice (some ⟨w.heap.size, 0, none⟩) 1 1)).run Tryd.prog (w.alloc (Obj.cells #[.int .u8 120] 5 (1, 2))) = .ok (.string ⟨#[120]⟩) (w.alloc (Obj.cells #[.int .u8 120] 5 (1, 2))) :=
  run_convert_bytes_back (P := Tryd.prog) _ 22 9 5 ⟨w.heap.size, 0, none⟩ 1 [120] Tryd.underlying22 Tryd.underlying5 Tryd.underlying9 (fun j hj => by
    obtain rfl : j = 0 := by simpa using hj
    have h := heap_alloc_new w (Obj.cells #[.int .u8 120] 5 (1, 2))
    have e : (Addr.add ⟨w.heap.size, 0, none⟩ 0) = ⟨w.heap.size, 0, none⟩ := by simp [Addr.add]
    have h2 : (w.alloc (Obj.cells #[.int .u8 120] 5 (1, 2))).cell? ⟨w.heap.size, 0, none⟩ = some (.int .u8 120) := by
      unfold World.cell?
      simp only []
      rw [h]
      rfl
    rw [e]
    exact h2)
theorem u8_dig49 : ∀ j : Fin 9, IntKind.u8.wrap (49 + (j.val : Int)) = ((UInt8.ofNat (49 + j.val)).toNat : Int) := by decide +kernel
theorem u8_dig48 : ∀ j : Fin 10, IntKind.u8.wrap (48 + (j.val : Int)) = ((UInt8.ofNat (48 + j.val)).toNat : Int) := by decide +kernel
theorem sign_cell : ∀ j : Fin 19, signCells[j.val]? = some (.string (signS j.val)) := fun j => by
  obtain ⟨j, hj⟩ := j
  rcases (show j = 0 ∨ j = 1 ∨ j = 2 ∨ j = 3 ∨ j = 4 ∨ j = 5 ∨ j = 6 ∨ j = 7 ∨ j = 8 ∨ j = 9 ∨ j = 10 ∨ j = 11 ∨ j = 12 ∨ j = 13 ∨ j = 14 ∨ j = 15 ∨ j = 16 ∨ j = 17 ∨ j = 18 by omega) with rfl | rfl | rfl | rfl | rfl | rfl | rfl | rfl | rfl | rfl | rfl | rfl | rfl | rfl | rfl | rfl | rfl | rfl | rfl <;> rfl
theorem sign_mem : ∀ j : Fin 19, (signS j.val).data.toList ∈ signsL := by decide +kernel
theorem tmod_four (n : Int) : ∃ k : Nat, k < 4 ∧ (n.tmod 4 = (k : Int) ∨ (n.tmod 4 = (k : Int) - 4 ∧ 0 < k)) := by
  by_cases h : 0 ≤ n
  · exact ⟨(n % 4).toNat, by omega, Or.inl (by rw [Int.tmod_eq_emod_of_nonneg h]; omega)⟩
  · obtain ⟨m, rfl⟩ : ∃ m : Int, n = -m := ⟨-n, by omega⟩
    rw [Int.neg_tmod, Int.tmod_eq_emod_of_nonneg (show 0 ≤ m by omega)]
    by_cases h0 : m % 4 = 0
    · exact ⟨0, by omega, Or.inl (by rw [h0]; rfl)⟩
    · exact ⟨(4 - m % 4).toNat, by omega, Or.inr ⟨by omega, by omega⟩⟩

set_option maxHeartbeats 8000000 in
set_option maxRecDepth 100000 in
theorem plainest_any (kd at_ : Int) (s : ByteArray) (w : World) (hs : s.size ≤ 140737488351232) :
    Calls Tryd.prog 10 #[.agg #[.int .i64 kd, .string s, .int .i64 at_]] w fun e w' => (∃ (k : Int) (x : List UInt8), e = .returned (.agg #[.int .i64 k, .string ⟨x.toArray⟩, .int .i64 0]) ∧ Plain k x) ∧ Below w.heap.size w w' := by
  obtain ⟨i0, hi0, iz0, iz1, iz2⟩ := info_parts Tryd.infoU8
  obtain ⟨W1, hW1⟩ : ∃ W1, W1 = w.alloc (Obj.cells #[.int .i64 kd, .string s, .int .i64 at_] 28) := ⟨_, rfl⟩
  obtain ⟨W2, hW2⟩ : ∃ W2, W2 = W1.alloc (Obj.cells #[.int .i64 0, .string ⟨#[]⟩, .int .i64 0] 28) := ⟨_, rfl⟩
  obtain ⟨W3, hW3⟩ : ∃ W3, W3 = W2.alloc (Obj.cells signCells 60) := ⟨_, rfl⟩
  have hB1 : Below w.heap.size w W1 := by rw [hW1]; exact (Below.refl _ _).alloc (Nat.le_refl _) _
  have hB2 : Below W1.heap.size W1 W2 := by rw [hW2]; exact (Below.refl _ _).alloc (Nat.le_refl _) _
  have hB3 : Below W2.heap.size W2 W3 := by rw [hW3]; exact (Below.refl _ _).alloc (Nat.le_refl _) _
  have z1 : w.heap.size < W1.heap.size := by rw [hW1, World.size_alloc]; omega
  have z2 : W1.heap.size < W2.heap.size := by rw [hW2, World.size_alloc]; omega
  have z3 : W2.heap.size < W3.heap.size := by rw [hW3, World.size_alloc]; omega
  have HZ1 := Lib.hid (show W1.heap.size = w.heap.size + 1 by rw [hW1, World.size_alloc])
  have HC1 := Lib.hid (show Cells3 W3 w.heap.size (.int .i64 kd) (.string s) (.int .i64 at_) from
    ((show Cells3 W1 w.heap.size (.int .i64 kd) (.string s) (.int .i64 at_) by rw [hW1]; exact Cells3.made _ _ _ _ _).keep (hB2.block _ (by omega))).keep (hB3.block _ (by omega)))
  have HC2 := Lib.hid (show Cells3 W3 W1.heap.size (.int .i64 0) (.string ⟨#[]⟩) (.int .i64 0) from
    (show Cells3 W2 W1.heap.size (.int .i64 0) (.string ⟨#[]⟩) (.int .i64 0) by rw [hW2]; exact Cells3.made _ _ _ _ _).keep (hB3.block _ (by omega)))
  have HSG := Lib.hid (show W3.heap[W2.heap.size]? = some (Obj.cells signCells 60 (0, 0)) by rw [hW3]; exact heap_alloc_new _ _)
  have HB3 := Lib.hid (show Below w.heap.size w W3 from hB1.trans ((hB2.mono (by omega)).trans (hB3.mono (by omega))))
  have HW1 := Lib.hid hW1
  have HW2 := Lib.hid hW2
  have HW3 := Lib.hid hW3
  clear hW1 hW2 hW3 hB1 hB2 hB3
  go_enter Tryd.func10, Tryd.ntmps10
  go_upto_region 1 with fail
  rw [← HW1.out]
  try rw [← HZ1.out]
  rw [← HW2.out]
  go_upto_region 2 with (refine wpList_store_row rfl 60 _ _ rfl _ signCells rfl rfl 60 _ (heap_alloc_new _ _) (by kernel_rfl) rfl (by kernel_rfl) ?_)
  rw [World.setRow_alloc_new, ← HW3.out]
  go_wp2_with fail
  go_loopw [4, 5, 6] (fun v4 v5 v6 wr => ∃ (i S : Nat) (m : List UInt8) (va : Option Addr) (cp : Nat), i ≤ s.size ∧ v6 = .int .i64 (i : Int) ∧ v5 = .int .i64 (S : Int) ∧ S ≤ 255 * i ∧ v4 = .slice va m.length cp ∧ wr.ownsRow W3.heap.size 5 1 (.slice va m.length cp) m.length (bytesC m) ∧ WordSoFar m ∧ m.length ≤ i ∧ Below W3.heap.size W3 wr) (fun _ _ v6 _ => s.size - (intOf v6).toNat)
  case atStart => exact ⟨0, 0, [], none, 0, Nat.zero_le _, rfl, rfl, Nat.zero_le _, rfl, World.ownsRow_nil _ _ _ _, Or.inl rfl, Nat.zero_le _, Below.refl _ _⟩
  case round =>
    obtain ⟨i, S, m, va, cp, hi, rfl, rfl, hS, rfl, hown, hws, hml, hbel⟩ := hrel
    obtain ⟨n, hn⟩ : ∃ n, n = m.length := ⟨_, rfl⟩
    rw [← hn] at hown hml ⊢
    have HN := Lib.hid hn
    have HO := Lib.hid hown
    have HWS := Lib.hid hws
    have HBE := Lib.hid hbel
    have hzw := hbel.size
    have HCW := Lib.hid (HC1.out.keep (hbel.block _ (by omega)))
    have c0 := HCW.out.c0
    have c1 := HCW.out.c1
    have i0' : (0 : Int) ≤ (i : Int) := by omega
    clear hn hown hws hbel
    by_cases hlt : i < s.size
    · have i1' : (i : Int) < (s.size : Int) := by omega
      obtain ⟨c, hc⟩ : ∃ c, c = (s[i]'hlt).toNat := ⟨_, rfl⟩
      have hcr : (s[i]'hlt).toNat = c := hc.symm
      have hc256 : c < 256 := by rw [hc]; exact (s[i]'hlt).toNat_lt
      have HCC := Lib.hid hcr
      have HSC := Lib.hid (show ((S + c : Nat) : Int) = (S : Int) + (c : Int) by omega)
      have hs0 : (0 : Int) ≤ (S : Int) + (c : Int) := by omega
      have hs1 : (S : Int) + (c : Int) ≤ 9223372036854775807 := by omega
      clear hc
      rcases (show ((c : Int) < 48) ∨ ((48 : Int) ≤ (c : Int) ∧ (c : Int) ≤ 57) ∨ ((57 : Int) < (c : Int) ∧ (c : Int) < 65) ∨ ((65 : Int) ≤ (c : Int) ∧ (c : Int) ≤ 90) ∨ ((90 : Int) < (c : Int) ∧ (c : Int) < 95) ∨ ((c : Int) = 95) ∨ ((95 : Int) < (c : Int) ∧ (c : Int) < 97) ∨ ((97 : Int) ≤ (c : Int) ∧ (c : Int) ≤ 122) ∨ ((122 : Int) < (c : Int)) by omega) with hr | hr | hr | hr | hr | hr | hr | hr | hr
      · have b95 : ((c : Int) == 95) = false := beq_eq_false_iff_ne.2 (by omega)
        go_wp2_with fail
        go_roundw
        case rel => exact ⟨i + 1, S + c, m, va, cp, by omega, by go_num, by rw [HSC.out], by omega, by rw [HN.out], by rw [← HN.out]; exact HO.out, HWS.out, by have := HN.out; omega, HBE.out⟩
        case measure => simp [intOf]; omega
      · have b95 : ((c : Int) == 95) = false := beq_eq_false_iff_ne.2 (by omega)
        by_cases hn0 : n = 0
        · have k0 : ¬ (0 : Int) < (n : Int) := by omega
          clear hn0
          go_wp2_with fail
          go_roundw
          case rel => exact ⟨i + 1, S + c, m, va, cp, by omega, by go_num, by rw [HSC.out], by omega, by rw [HN.out], by rw [← HN.out]; exact HO.out, HWS.out, by have := HN.out; omega, HBE.out⟩
          case measure => simp [intOf]; omega
        · have k0 : (0 : Int) < (n : Int) := by omega
          have HDG := Lib.hid (digW_of (b := s[i]'hlt) (by rw [HCC.out]; omega))
          have HNE := Lib.hid (show m ≠ [] by intro e; apply hn0; rw [HN.out, e]; rfl)
          go_wp2_with (at_builtin; go_must (refine wpList_append_lies _ (by rfl) _ _ _ (by rfl) W3.heap.size 5 i0 _ 1 1 Tryd.underlying22 hi0 iz0 iz1 iz2 rfl (by omega) (.slice va n cp) n (bytesC m) (by rfl) (HO.out.alloc _) ⟨_, 0, none⟩ 1 1 [.int .u8 (c : Int)] (by rfl) (by rfl) (World.news_of_block (cs := #[.int .u8 (c : Int)]) (t := 5) (fr := (0, 0)) (heap_alloc_new _ _)) (by simp [Value.oneCell']) (by omega) (by unfold maxLen; omega) (by omega) (by first | (simp; done) | (simp; omega)) _ rfl ?_; intro g3 cap3 w8 hown8 hgrow8 hat8 hlt8))
          have HL8 := Lib.hid (show (m ++ [s[i]'hlt]).length = n + 1 by rw [HN.out, List.length_append]; rfl)
          have HO8 := Lib.hid (show w8.ownsRow W3.heap.size 5 1 (.slice (some ⟨g3, 0, none⟩) (n + 1) cap3) (n + 1) (bytesC (m ++ [s[i]'hlt])) by
            rw [bytesC_append]
            have e : bytesC [s[i]'hlt] = [.int .u8 (c : Int)] := by rw [← HCC.out]; rfl
            rw [e]
            exact hown8)
          have HB8 := Lib.hid (Below.grown (B := W3.heap.size) (HBE.out.alloc hzw _) hgrow8 (by simp; omega) (ownBlock_lo HO.out))
          clear hown8 hgrow8 hat8 hlt8
          go_roundw
          case rel => exact ⟨i + 1, S + c, m ++ [s[i]'hlt], some ⟨g3, 0, none⟩, cap3, by omega, by go_num, by rw [HSC.out], by omega, by rw [HL8.out], by rw [HL8.out]; exact HO8.out, HWS.out.snoc (Or.inr ⟨HDG.out, HNE.out⟩), by have := HL8.out; omega, HB8.out⟩
          case measure => simp [intOf]; omega
      · have b95 : ((c : Int) == 95) = false := beq_eq_false_iff_ne.2 (by omega)
        go_wp2_with fail
        go_roundw
        case rel => exact ⟨i + 1, S + c, m, va, cp, by omega, by go_num, by rw [HSC.out], by omega, by rw [HN.out], by rw [← HN.out]; exact HO.out, HWS.out, by have := HN.out; omega, HBE.out⟩
        case measure => simp [intOf]; omega
      · have b95 : ((c : Int) == 95) = false := beq_eq_false_iff_ne.2 (by omega)
        have HLT := Lib.hid (letU_of (b := s[i]'hlt) (by rw [HCC.out]; unfold letC; omega))
        go_wp2_with (at_builtin; go_must (refine wpList_append_lies _ (by rfl) _ _ _ (by rfl) W3.heap.size 5 i0 _ 1 1 Tryd.underlying22 hi0 iz0 iz1 iz2 rfl (by omega) (.slice va n cp) n (bytesC m) (by rfl) (HO.out.alloc _) ⟨_, 0, none⟩ 1 1 [.int .u8 (c : Int)] (by rfl) (by rfl) (World.news_of_block (cs := #[.int .u8 (c : Int)]) (t := 5) (fr := (0, 0)) (heap_alloc_new _ _)) (by simp [Value.oneCell']) (by omega) (by unfold maxLen; omega) (by omega) (by first | (simp; done) | (simp; omega)) _ rfl ?_; intro g3 cap3 w8 hown8 hgrow8 hat8 hlt8))
        have HL8 := Lib.hid (show (m ++ [s[i]'hlt]).length = n + 1 by rw [HN.out, List.length_append]; rfl)
        have HO8 := Lib.hid (show w8.ownsRow W3.heap.size 5 1 (.slice (some ⟨g3, 0, none⟩) (n + 1) cap3) (n + 1) (bytesC (m ++ [s[i]'hlt])) by
          rw [bytesC_append]
          have e : bytesC [s[i]'hlt] = [.int .u8 (c : Int)] := by rw [← HCC.out]; rfl
          rw [e]
          exact hown8)
        have HB8 := Lib.hid (Below.grown (B := W3.heap.size) (HBE.out.alloc hzw _) hgrow8 (by simp; omega) (ownBlock_lo HO.out))
        clear hown8 hgrow8 hat8 hlt8
        go_roundw
        case rel => exact ⟨i + 1, S + c, m ++ [s[i]'hlt], some ⟨g3, 0, none⟩, cap3, by omega, by go_num, by rw [HSC.out], by omega, by rw [HL8.out], by rw [HL8.out]; exact HO8.out, HWS.out.snoc (Or.inl HLT.out), by have := HL8.out; omega, HB8.out⟩
        case measure => simp [intOf]; omega
      · have b95 : ((c : Int) == 95) = false := beq_eq_false_iff_ne.2 (by omega)
        go_wp2_with fail
        go_roundw
        case rel => exact ⟨i + 1, S + c, m, va, cp, by omega, by go_num, by rw [HSC.out], by omega, by rw [HN.out], by rw [← HN.out]; exact HO.out, HWS.out, by have := HN.out; omega, HBE.out⟩
        case measure => simp [intOf]; omega
      · have b95 : ((c : Int) == 95) = true := by rw [hr]; rfl
        have q1 : (95 : Int) ≤ (c : Int) := by omega
        have q2 : (c : Int) ≤ 95 := by omega
        clear hr
        have HLT := Lib.hid (letU_of (b := s[i]'hlt) (by rw [HCC.out]; unfold letC; omega))
        go_wp2_with (at_builtin; go_must (refine wpList_append_lies _ (by rfl) _ _ _ (by rfl) W3.heap.size 5 i0 _ 1 1 Tryd.underlying22 hi0 iz0 iz1 iz2 rfl (by omega) (.slice va n cp) n (bytesC m) (by rfl) (HO.out.alloc _) ⟨_, 0, none⟩ 1 1 [.int .u8 (c : Int)] (by rfl) (by rfl) (World.news_of_block (cs := #[.int .u8 (c : Int)]) (t := 5) (fr := (0, 0)) (heap_alloc_new _ _)) (by simp [Value.oneCell']) (by omega) (by unfold maxLen; omega) (by omega) (by first | (simp; done) | (simp; omega)) _ rfl ?_; intro g3 cap3 w8 hown8 hgrow8 hat8 hlt8))
        have HL8 := Lib.hid (show (m ++ [s[i]'hlt]).length = n + 1 by rw [HN.out, List.length_append]; rfl)
        have HO8 := Lib.hid (show w8.ownsRow W3.heap.size 5 1 (.slice (some ⟨g3, 0, none⟩) (n + 1) cap3) (n + 1) (bytesC (m ++ [s[i]'hlt])) by
          rw [bytesC_append]
          have e : bytesC [s[i]'hlt] = [.int .u8 (c : Int)] := by rw [← HCC.out]; rfl
          rw [e]
          exact hown8)
        have HB8 := Lib.hid (Below.grown (B := W3.heap.size) (HBE.out.alloc hzw _) hgrow8 (by simp; omega) (ownBlock_lo HO.out))
        clear hown8 hgrow8 hat8 hlt8
        go_roundw
        case rel => exact ⟨i + 1, S + c, m ++ [s[i]'hlt], some ⟨g3, 0, none⟩, cap3, by omega, by go_num, by rw [HSC.out], by omega, by rw [HL8.out], by rw [HL8.out]; exact HO8.out, HWS.out.snoc (Or.inl HLT.out), by have := HL8.out; omega, HB8.out⟩
        case measure => simp [intOf]; omega
      · have b95 : ((c : Int) == 95) = false := beq_eq_false_iff_ne.2 (by omega)
        go_wp2_with fail
        go_roundw
        case rel => exact ⟨i + 1, S + c, m, va, cp, by omega, by go_num, by rw [HSC.out], by omega, by rw [HN.out], by rw [← HN.out]; exact HO.out, HWS.out, by have := HN.out; omega, HBE.out⟩
        case measure => simp [intOf]; omega
      · have b95 : ((c : Int) == 95) = false := beq_eq_false_iff_ne.2 (by omega)
        have HLT := Lib.hid (letU_of (b := s[i]'hlt) (by rw [HCC.out]; unfold letC; omega))
        go_wp2_with (at_builtin; go_must (refine wpList_append_lies _ (by rfl) _ _ _ (by rfl) W3.heap.size 5 i0 _ 1 1 Tryd.underlying22 hi0 iz0 iz1 iz2 rfl (by omega) (.slice va n cp) n (bytesC m) (by rfl) (HO.out.alloc _) ⟨_, 0, none⟩ 1 1 [.int .u8 (c : Int)] (by rfl) (by rfl) (World.news_of_block (cs := #[.int .u8 (c : Int)]) (t := 5) (fr := (0, 0)) (heap_alloc_new _ _)) (by simp [Value.oneCell']) (by omega) (by unfold maxLen; omega) (by omega) (by first | (simp; done) | (simp; omega)) _ rfl ?_; intro g3 cap3 w8 hown8 hgrow8 hat8 hlt8))
        have HL8 := Lib.hid (show (m ++ [s[i]'hlt]).length = n + 1 by rw [HN.out, List.length_append]; rfl)
        have HO8 := Lib.hid (show w8.ownsRow W3.heap.size 5 1 (.slice (some ⟨g3, 0, none⟩) (n + 1) cap3) (n + 1) (bytesC (m ++ [s[i]'hlt])) by
          rw [bytesC_append]
          have e : bytesC [s[i]'hlt] = [.int .u8 (c : Int)] := by rw [← HCC.out]; rfl
          rw [e]
          exact hown8)
        have HB8 := Lib.hid (Below.grown (B := W3.heap.size) (HBE.out.alloc hzw _) hgrow8 (by simp; omega) (ownBlock_lo HO.out))
        clear hown8 hgrow8 hat8 hlt8
        go_roundw
        case rel => exact ⟨i + 1, S + c, m ++ [s[i]'hlt], some ⟨g3, 0, none⟩, cap3, by omega, by go_num, by rw [HSC.out], by omega, by rw [HL8.out], by rw [HL8.out]; exact HO8.out, HWS.out.snoc (Or.inl HLT.out), by have := HL8.out; omega, HB8.out⟩
        case measure => simp [intOf]; omega
      · have b95 : ((c : Int) == 95) = false := beq_eq_false_iff_ne.2 (by omega)
        go_wp2_with fail
        go_roundw
        case rel => exact ⟨i + 1, S + c, m, va, cp, by omega, by go_num, by rw [HSC.out], by omega, by rw [HN.out], by rw [← HN.out]; exact HO.out, HWS.out, by have := HN.out; omega, HBE.out⟩
        case measure => simp [intOf]; omega
    · have i1' : ¬ (i : Int) < (s.size : Int) := by omega
      have HBW := Lib.hid (show Below w.heap.size w wr from HB3.out.trans (HBE.out.mono (by omega)))
      have HT := Lib.hid (HC2.out.keep (HBE.out.block _ (by omega)))
      have HSW := Lib.hid ((HBE.out.block W2.heap.size (by omega)).trans HSG.out)
      obtain ⟨k, hk4, hk⟩ := tmod_four kd
      have hSi : S ≤ 255 * s.size := Nat.le_trans hS (Nat.mul_le_mul_left _ hi)
      go_upto_if 66 with fail
      go_cut [8] from 62 (fun s8 wx => s8 = .int .i64 (k : Int) ∧ wr = wx)
      case first =>
        rcases hk with hk | ⟨hk, hk0⟩
        · have k0 : ¬ (k : Int) < 0 := by omega
          go_wp2_with fail
          go_meet
          case rel => exact ⟨by first | rfl | (rw [hk]), rfl⟩
        · have k0 : (k : Int) - 4 < 0 := by omega
          have k1 : (k : Int) - 4 + 4 = (k : Int) := by omega
          go_wp2_with fail
          go_meet
          case rel => exact ⟨by first | rfl | (rw [k1]) | (rw [hk, k1]), rfl⟩
      case rest =>
        obtain ⟨rfl, rfl⟩ := hcut
        clear hk c0 c1
        have t0 := HT.out.c0
        have t1 := HT.out.c1
        have t2 := HT.out.c2
        have g0 := HT.out.f0
        have g1 := HT.out.f1
        have g2 := HT.out.f2
        rcases (show k = 0 ∨ k = 1 ∨ k = 2 ∨ k = 3 by omega) with rfl | rfl | rfl | rfl
        -- a word
        · by_cases hn32 : 32 < n
          · have k32 : (32 : Int) < (n : Int) := by omega
            obtain ⟨g, rfl⟩ : ∃ g, va = some ⟨g, 0, none⟩ := by
              rcases owned_case HO.out with ⟨h0, _, _⟩ | h
              · omega
              · exact h
            have hcap := owned_caps HO.out
            have hcv := conv_front (k := 32) HO.out (by rw [← HN.out]; omega)
            have HP := Lib.hid (HWS.out.cut (by rw [← HN.out]; exact hn32))
            unfold maxLen at hcap
            obtain ⟨hcap1, hcap2⟩ := hcap
            go_wp2_with fail
            refine bodyPost_ret (v := .agg #[.int .i64 1, .string ⟨(m.take 32).toArray⟩, .int .i64 0]) (by simp [results, Tryd.results10, go_sem, t0, t1, t2]) rfl ⟨⟨1, m.take 32, rfl, HP.out⟩, ?_⟩
            exact below_own (below_own (below_own HBW.out (Nat.le_of_lt z1) 0 _) (Nat.le_of_lt z1) 1 _) (Nat.le_of_lt z1) 2 _
          · have k32 : ¬ (32 : Int) < (n : Int) := by omega
            by_cases hn0 : n = 0
            · have kn : ((n : Int) == 0) = true := by rw [hn0]; rfl
              have hcs : (convert 22 22 (.slice (some ⟨wr.heap.size, 0, none⟩) 1 1)).run Tryd.prog (wr.alloc (Obj.cells #[.int .u8 120] 5)) = .ok (.slice (some ⟨wr.heap.size, 0, none⟩) 1 1) (wr.alloc (Obj.cells #[.int .u8 120] 5 (1, 2))) := Lib.run_convert_bytes_const (P := Tryd.prog) wr 22 5 #[.int .u8 120] 1 1 Tryd.underlying22 Tryd.underlying5
              have hcv := conv_120 wr
              have ht : Cells3 (wr.alloc (Obj.cells #[.int .u8 120] 5 (1, 2))) W1.heap.size (.int .i64 0) (.string ⟨#[]⟩) (.int .i64 0) := HT.out.keep (((Below.refl _ wr).alloc (Nat.le_refl _) _).block _ HT.out.lt)
              have x0 := ht.c0
              have x1 := ht.c1
              have x2 := ht.c2
              have y0 := ht.f0
              have y1 := ht.f1
              have y2 := ht.f2
              clear hn0 ht
              go_wp2_with fail
              refine bodyPost_ret (v := .agg #[.int .i64 1, .string ⟨#[120]⟩, .int .i64 0]) (by simp [results, Tryd.results10, go_sem, x0, x1, x2]) rfl ⟨⟨1, [120], rfl, Or.inl ⟨rfl, 120, [], rfl, by decide, by simp, by decide⟩⟩, ?_⟩
              exact below_own (below_own (below_own (HBW.out.alloc HBW.out.size _) (Nat.le_of_lt z1) 0 _) (Nat.le_of_lt z1) 1 _) (Nat.le_of_lt z1) 2 _
            · have kn : ((n : Int) == 0) = false := beq_eq_false_iff_ne.2 (by omega)
              have hcv : (convert 22 9 (.slice va n cp)).run Tryd.prog wr = .ok (.string ⟨m.toArray⟩) wr := by
                have h := HO.out
                rw [HN.out] at h ⊢
                exact conv_owned h
              have HP := Lib.hid (HWS.out.plain (by intro e; apply hn0; rw [HN.out, e]; rfl) (by rw [← HN.out]; omega))
              clear hn0
              go_wp2_with fail
              refine bodyPost_ret (v := .agg #[.int .i64 1, .string ⟨m.toArray⟩, .int .i64 0]) (by simp [results, Tryd.results10, go_sem, t0, t1, t2]) rfl ⟨⟨1, m, rfl, HP.out⟩, ?_⟩
              exact below_own (below_own (below_own HBW.out (Nat.le_of_lt z1) 0 _) (Nat.le_of_lt z1) 1 _) (Nat.le_of_lt z1) 2 _
        -- a number
        · obtain ⟨i1, hi1⟩ : ∃ j, j = S % 9 := ⟨_, rfl⟩
          obtain ⟨i2, hi2⟩ : ∃ j, j = S % 10 := ⟨_, rfl⟩
          obtain ⟨i3, hi3⟩ : ∃ j, j = s.size % 10 := ⟨_, rfl⟩
          obtain ⟨i4, hi4⟩ : ∃ j, j = S % 3 := ⟨_, rfl⟩
          have e1 : (S : Int).tmod 9 = (i1 : Int) := by rw [Int.tmod_eq_emod_of_nonneg (by omega)]; omega
          have e2 : (S : Int).tmod 10 = (i2 : Int) := by rw [Int.tmod_eq_emod_of_nonneg (by omega)]; omega
          have e3 : (s.size : Int).tmod 10 = (i3 : Int) := by rw [Int.tmod_eq_emod_of_nonneg (by omega)]; omega
          have e4 : (S : Int).tmod 3 = (i4 : Int) := by rw [Int.tmod_eq_emod_of_nonneg (by omega)]; omega
          have b1 : i1 < 9 := by omega
          have b2 : i2 < 10 := by omega
          have b3 : i3 < 10 := by omega
          have b4 : i4 < 3 := by omega
          have w1 := u8_dig49 ⟨i1, b1⟩
          have w2 := u8_dig48 ⟨i2, b2⟩
          have w3 := u8_dig48 ⟨i3, b3⟩
          simp only at w1 w2 w3
          obtain ⟨d1, hd1⟩ : ∃ d, d = UInt8.ofNat (49 + i1) := ⟨_, rfl⟩
          obtain ⟨d2, hd2⟩ : ∃ d, d = UInt8.ofNat (48 + i2) := ⟨_, rfl⟩
          obtain ⟨d3, hd3⟩ : ∃ d, d = UInt8.ofNat (48 + i3) := ⟨_, rfl⟩
          rw [← hd1] at w1
          rw [← hd2] at w2
          rw [← hd3] at w3
          have HD1 := Lib.hid hd1
          have HD2 := Lib.hid hd2
          have HD3 := Lib.hid hd3
          have hcv := conv_new3 wr d1 d2 d3
          have ht : Cells3 (wr.alloc (Obj.cells #[.int .u8 (d1.toNat : Int), .int .u8 (d2.toNat : Int), .int .u8 (d3.toNat : Int)] 5)) W1.heap.size (.int .i64 0) (.string ⟨#[]⟩) (.int .i64 0) := HT.out.keep (((Below.refl _ wr).alloc (Nat.le_refl _) _).block _ HT.out.lt)
          have x0 := ht.c0
          have x1 := ht.c1
          have x2 := ht.c2
          have y0 := ht.f0
          have y1 := ht.f1
          have y2 := ht.f2
          have c1 := HCW.out.c1
          have q1 : (49 : Int) + (i1 : Int) < 58 := by omega
          have q2 : (48 : Int) + (i2 : Int) < 58 := by omega
          have q3 : (48 : Int) + (i3 : Int) < 58 := by omega
          clear hi1 hi2 hi3 hi4 hd1 hd2 hd3 ht
          rcases (show i4 = 0 ∨ i4 = 1 ∨ i4 = 2 by omega) with rfl | rfl | rfl
          · go_wp2_with fail
            refine bodyPost_ret (v := .agg #[.int .i64 2, .string ⟨#[d1]⟩, .int .i64 0]) (by simp [results, Tryd.results10, go_sem, x0, x1, x2, ex1]) rfl ⟨⟨2, [d1], rfl, Or.inr (Or.inl ⟨rfl, i1, [], by rw [HD1.out], b1, Or.inl rfl⟩)⟩, ?_⟩
            exact below_own (below_own (below_own (HBW.out.alloc HBW.out.size _) (Nat.le_of_lt z1) 0 _) (Nat.le_of_lt z1) 1 _) (Nat.le_of_lt z1) 2 _
          · go_wp2_with fail
            refine bodyPost_ret (v := .agg #[.int .i64 2, .string ⟨#[d1, d2]⟩, .int .i64 0]) (by simp [results, Tryd.results10, go_sem, x0, x1, x2, ex2]) rfl ⟨⟨2, [d1, d2], rfl, Or.inr (Or.inl ⟨rfl, i1, [d2], by rw [HD1.out], b1, Or.inr (Or.inl ⟨i2, b2, by rw [HD2.out]⟩)⟩)⟩, ?_⟩
            exact below_own (below_own (below_own (HBW.out.alloc HBW.out.size _) (Nat.le_of_lt z1) 0 _) (Nat.le_of_lt z1) 1 _) (Nat.le_of_lt z1) 2 _
          · go_wp2_with fail
            refine bodyPost_ret (v := .agg #[.int .i64 2, .string ⟨#[d1, d2, d3]⟩, .int .i64 0]) (by simp [results, Tryd.results10, go_sem, x0, x1, x2, ex3]) rfl ⟨⟨2, [d1, d2, d3], rfl, Or.inr (Or.inl ⟨rfl, i1, [d2, d3], by rw [HD1.out], b1, Or.inr (Or.inr ⟨i2, i3, b2, b3, by rw [HD2.out, HD3.out]⟩)⟩)⟩, ?_⟩
            exact below_own (below_own (below_own (HBW.out.alloc HBW.out.size _) (Nat.le_of_lt z1) 0 _) (Nat.le_of_lt z1) 1 _) (Nat.le_of_lt z1) 2 _
        -- a string
        · by_cases h200 : 200 < s.size
          · have k200 : (200 : Int) < (s.size : Int) := by omega
            have c1 := HCW.out.c1
            go_wp2_with fail
            refine bodyPost_ret (v := .agg #[.int .i64 3, .string (s.extract 0 200), .int .i64 0]) (by simp [results, Tryd.results10, go_sem, t0, t1, t2]) rfl ⟨⟨3, (s.extract 0 200).data.toList, rfl, Or.inr (Or.inr (Or.inl ⟨rfl, (show (s.extract 0 200).size ≤ 200 by rw [ByteArray.size_extract]; omega)⟩))⟩, ?_⟩
            exact below_own (below_own (below_own HBW.out (Nat.le_of_lt z1) 0 _) (Nat.le_of_lt z1) 1 _) (Nat.le_of_lt z1) 2 _
          · have k200 : ¬ (200 : Int) < (s.size : Int) := by omega
            have c1 := HCW.out.c1
            go_wp2_with fail
            refine bodyPost_ret (v := .agg #[.int .i64 3, .string s, .int .i64 0]) (by simp [results, Tryd.results10, go_sem, t0, t1, t2]) rfl ⟨⟨3, s.data.toList, rfl, Or.inr (Or.inr (Or.inl ⟨rfl, (show s.size ≤ 200 by omega)⟩))⟩, ?_⟩
            exact below_own (below_own (below_own HBW.out (Nat.le_of_lt z1) 0 _) (Nat.le_of_lt z1) 1 _) (Nat.le_of_lt z1) 2 _
        -- a sign
        · obtain ⟨j, hj⟩ : ∃ j, j = S % 19 := ⟨_, rfl⟩
          have hj19 : j < 19 := by omega
          have e19 : (S : Int).tmod 19 = (j : Int) := by rw [Int.tmod_eq_emod_of_nonneg (by omega)]; omega
          have hsg : wr.cell? ⟨W2.heap.size, j, none⟩ = some (.string (signS j)) := by
            have h := HSW.out
            have h2 := sign_cell ⟨j, hj19⟩
            simp only at h2
            simp [World.cell?, h, h2]
          have HP := Lib.hid (sign_mem ⟨j, hj19⟩)
          have j0 : (0 : Int) ≤ (j : Int) := by omega
          have j1 : (j : Int) < 19 := by omega
          clear hj
          go_wp2_with fail
          refine bodyPost_ret (v := .agg #[.int .i64 4, .string (signS j), .int .i64 0]) (by simp [results, Tryd.results10, go_sem, t0, t1, t2]) rfl ⟨⟨4, (signS j).data.toList, rfl, Or.inr (Or.inr (Or.inr ⟨rfl, HP.out⟩))⟩, ?_⟩
          exact below_own (below_own (below_own HBW.out (Nat.le_of_lt z1) 0 _) (Nat.le_of_lt z1) 1 _) (Nat.le_of_lt z1) 2 _
end Go.Proofs.YtaipljdpkgdheaaDoor
