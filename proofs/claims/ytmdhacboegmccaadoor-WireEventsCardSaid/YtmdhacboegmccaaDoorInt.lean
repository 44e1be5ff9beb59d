/- Package wire: PutInt, and Int over any bytes. -/
import Derived.Test.YtmdhacboegmccaaDoorRow
namespace Go.Proofs.YtmdhacboegmccaaDoor
open Go Go.RowKit

theorem Ext8.fresh {B : Nat} {w w' : World} {v' : Value} {l : List UInt8} (h : Ext8 B w (.slice none 0 0) w' v' l) : Below w.heap.size w w' :=
  ⟨h.grown.os, h.grown.tape, h.grown.output, h.grown.size, fun k hk => h.grown.block k hk (by simp [Value.ownBlock])⟩
theorem owns_nil (w : World) (B : Nat) : w.ownsRow B 5 1 (.slice none 0 0) ([] : List UInt8).length (bytesC []) := World.ownsRow_nil _ _ _ _

set_option maxRecDepth 100000 in
theorem putInt_any (n : Int) (w : World) (h1 : -9223372036854775808 ≤ n) (h2 : n ≤ 9223372036854775807) :
    Calls Tryd.prog 14 #[.int .i64 n] w fun e w' => ∃ v', e = .returned v' ∧ Ext8 w.heap.size w (.slice none 0 0) w' v' (putB n) := by
  go_enter Tryd.func14, Tryd.ntmps14
  go_wp2_with fail
  refine (appendInt_any w.heap.size (.slice none 0 0) [] n w (owns_nil _ _) (by simp) (Nat.le_refl _) h1 h2).mono ?_; rintro e w1 ⟨v', rfl, hx⟩
  go_wp2_with fail
  go_ret
  exact ⟨_, rfl, hx⟩

/-- The cells of some bytes lie from an address on. -/
def BytesAt (w : World) (ao : Option Addr) (l : List UInt8) : Prop :=
  l = [] ∨ ∃ b o, ao = some ⟨b, o, none⟩ ∧ ∀ i (h : i < l.length), w.cell? ⟨b, o + i, none⟩ = some (.int .u8 (l[i].toNat : Int))
theorem BytesAt.below {w w' : World} {ao : Option Addr} {l : List UInt8} (h : BytesAt w ao l) (hb : Below w.heap.size w w') : BytesAt w' ao l := by
  rcases h with h | ⟨b, o, rfl, h⟩
  · exact Or.inl h
  · exact Or.inr ⟨b, o, rfl, fun i hi => by
      have hl := World.block_lt_of_cell? w _ (h i hi)
      exact (hb.cell (p := ⟨b, o + i, none⟩) hl).trans (h i hi)⟩
/-- What Int answers: the number, the bytes, the error. -/
def intB (l : List UInt8) : Int × Nat × Int := if (readZ 0 0 l).2.2 = 0 then (unz (readZ 0 0 l).1, (readZ 0 0 l).2.1, 0) else (0, 0, (readZ 0 0 l).2.2)
theorem not128 : ∀ x : Fin 256, bits BinOp.andNot IntKind.u8 (x.val : Int) 128 = ((x.val % 128 : Nat) : Int) := by decide +kernel
theorem andNot_u8 (x : UInt8) : bits BinOp.andNot IntKind.u8 (x.toNat : Int) 128 = ((x.toNat % 128 : Nat) : Int) := not128 ⟨x.toNat, x.toNat_lt⟩
theorem readZ_step (l : List UInt8) (k a : Nat) (hk : k < l.length) : readZ k a (l.drop k) = if k = 9 ∧ 1 < l[k].toNat then (0, 0, 31) else if 128 ≤ l[k].toNat then readZ (k + 1) (a + l[k].toNat % 128 * 128 ^ k) (l.drop (k + 1)) else if l[k].toNat = 0 ∧ 0 < k then (0, 0, 31) else (a + l[k].toNat % 128 * 128 ^ k, k + 1, 0) := by
  rw [List.drop_eq_getElem_cons hk, readZ]

theorem pow128 (k : Nat) : 128 ^ k = 2 ^ (7 * k) := by rw [Nat.pow_mul]
theorem or_step (a k : Nat) (x : UInt8) (hk : k ≤ 9) (ha : a < 128 ^ k) (h9 : k = 9 → x.toNat ≤ 1) : bits BinOp.or IntKind.u64 (a : Int) (IntKind.u64.wrap ((x.toNat : Int) % 128 * 2 ^ (7 * k))) = ((a + x.toNat % 128 * 128 ^ k : Nat) : Int) := by
  have hp : 128 ^ k ≤ 128 ^ 9 := Nat.pow_le_pow_right (by decide) hk
  have hb : x.toNat % 128 * 128 ^ k < 18446744073709551616 := by
    by_cases h : k = 9
    · subst h
      have h1 := h9 rfl
      have : x.toNat % 128 * 128 ^ 9 ≤ 1 * 128 ^ 9 := Nat.mul_le_mul_right _ (by omega)
      omega
    · have hp8 : 128 ^ k ≤ 128 ^ 8 := Nat.pow_le_pow_right (by decide) (by omega)
      have : x.toNat % 128 * 128 ^ k ≤ 127 * 128 ^ 8 := Nat.mul_le_mul (by omega) hp8
      omega
  have e : (x.toNat : Int) % 128 * 2 ^ (7 * k) = ((x.toNat % 128 * 128 ^ k : Nat) : Int) := by
    rw [pow128]
    push_cast
    rfl
  rw [e, IntKind.wrap_u64]
  have e2 : ((x.toNat % 128 * 128 ^ k : Nat) : Int) % 18446744073709551616 = ((x.toNat % 128 * 128 ^ k : Nat) : Int) := Int.emod_eq_of_lt (by omega) (by omega)
  rw [e2, bits_or_u64_nat _ _ (by omega) hb]
  have h := Nat.shiftLeft_add_eq_or_of_lt (b := a) (i := 7 * k) (by rw [← pow128]; exact ha) (x.toNat % 128)
  rw [Nat.shiftLeft_eq, ← pow128] at h
  rw [Nat.or_comm, ← h, Nat.add_comm]
theorem step_lt (a k : Nat) (x : UInt8) (ha : a < 128 ^ k) : a + x.toNat % 128 * 128 ^ k < 128 ^ (k + 1) := by
  rw [pow128_succ]
  have : x.toNat % 128 * 128 ^ k ≤ 127 * 128 ^ k := Nat.mul_le_mul_right _ (by omega)
  omega

set_option maxHeartbeats 8000000 in
set_option maxRecDepth 100000 in
theorem int_any (l : List UInt8) (ao : Option Addr) (cap : Nat) (w : World) (hb : BytesAt w ao l) (hl : l.length ≤ maxLen) :
    Calls Tryd.prog 15 #[.slice ao l.length cap] w fun e w' => e = .returned (.tuple #[.int .i64 (intB l).1, .int .i64 (intB l).2.1, .int .i64 (intB l).2.2]) ∧ w = w' := by
  unfold maxLen at hl
  have HB := Lib.hid hb
  clear hb
  go_enter Tryd.func15, Tryd.ntmps15
  go_wp2_with fail
  go_loop [5, 10] (fun z i => ∃ k a : Nat, k ≤ l.length ∧ k ≤ 9 ∧ a < 128 ^ k ∧ i = .int .i64 k ∧ z = .int .u64 a ∧ readZ k a (l.drop k) = readZ 0 0 l) (fun _ i => l.length - (intOf i).toNat)
  case atStart => exact ⟨0, 0, Nat.zero_le _, by omega, by omega, rfl, rfl, rfl⟩
  case round =>
    obtain ⟨k, a, hk, hk9, ha, rfl, rfl, hr⟩ := hrel
    have HR := Lib.hid hr
    clear hr
    by_cases hlt : k < l.length
    · obtain ⟨b, o, rfl, hc⟩ : ∃ b o, ao = some ⟨b, o, none⟩ ∧ ∀ i (h : i < l.length), w.cell? ⟨b, o + i, none⟩ = some (.int .u8 (l[i].toNat : Int)) := by
        rcases HB.out with h | h
        · rw [h] at hlt; simp at hlt
        · exact h
      have hck := hc k hlt
      have HS := Lib.hid (readZ_step l k a hlt)
      obtain ⟨x, hx⟩ : ∃ x, x = l[k] := ⟨_, rfl⟩
      rw [← hx] at hck HS
      have hx8 := x.toNat_lt
      have han := andNot_u8 x
      have HA := Lib.hid ha
      clear hc hx ha
      have HP := Lib.hid (pow_pos128 k)
      by_cases h9 : k = 9 ∧ 1 < x.toNat
      · have HE := Lib.hid (show readZ 0 0 l = (0, 0, 31) by rw [← HR.out, HS.out, if_pos h9])
        have hxb : decide ((1 : Int) < (x.toNat : Int)) = true := decide_eq_true (by omega)
        obtain ⟨rfl, h91⟩ := h9
        have h9b : (((9 : Nat) : Int) == 9) = true := rfl
        clear h91
        go_wp2_with fail
        go_ret3
        exact ⟨by unfold intB; rw [HE.out]; rfl, rfl⟩
      · have HOR := Lib.hid (or_step a k x hk9 HA.out (fun e => by omega))
        have hor := HOR.out
        have HLT := Lib.hid (step_lt a k x HA.out)
        obtain ⟨s, hs⟩ : ∃ s, s = a + x.toNat % 128 * 128 ^ k := ⟨_, rfl⟩
        rw [← hs] at hor HLT HS
        have HSS := Lib.hid hs
        have HN := Lib.hid h9
        clear hs
        have key : ∀ (c : Bool), (((k : Int) == 9) = true ∧ decide ((1 : Int) < (x.toNat : Int)) = false) ∨ ((k : Int) == 9) = false := by
          intro _
          by_cases e : k = 9
          · left
            exact ⟨beq_iff_eq.2 (by omega), decide_eq_false (by omega)⟩
          · right
            exact beq_eq_false_iff_ne.2 (by omega)
        have hs64 : s < 2 ^ 64 := by
          have h1 := HOR.out
          have h2 := HSS.out
          by_cases e : k = 9
          · have h3 : x.toNat ≤ 1 := by omega
            have h4 := HA.out
            subst e
            have : x.toNat % 128 * 128 ^ 9 ≤ 1 * 128 ^ 9 := Nat.mul_le_mul_right _ (by omega)
            omega
          · have h3 := HLT.out
            have hp8 : 128 ^ (k + 1) ≤ 128 ^ 9 := Nat.pow_le_pow_right (by decide) (by omega)
            omega
        clear h9
        rcases key true with ⟨q1, q2⟩ | q1
        all_goals
          clear key
          by_cases hx1 : 128 ≤ x.toNat
          · have HE := Lib.hid (show readZ (k + 1) s (l.drop (k + 1)) = readZ 0 0 l by rw [← HR.out, HS.out, if_neg HN.out, if_pos hx1])
            have hk8 : k ≤ 8 := by have := HN.out; omega
            go_wp2_with fail
            go_round
            case rel => exact ⟨k + 1, s, by omega, by omega, HLT.out, by go_num, rfl, HE.out⟩
            case measure => simp [intOf]; omega
          · by_cases hx0 : x.toNat = 0 ∧ 0 < k
            · have HE := Lib.hid (show readZ 0 0 l = (0, 0, 31) by rw [← HR.out, HS.out, if_neg HN.out, if_neg hx1, if_pos hx0])
              have b0 : ((x.toNat : Int) == 0) = true := by rw [hx0.1]; rfl
              have b1 : 0 < k := hx0.2
              clear hx0
              go_wp2_with fail
              go_ret3
              exact ⟨by unfold intB; rw [HE.out]; rfl, rfl⟩
            · have HE := Lib.hid (show readZ 0 0 l = (s, k + 1, 0) by rw [← HR.out, HS.out, if_neg HN.out, if_neg hx1, if_neg hx0])
              have b : ((x.toNat : Int) == 0) = false ∨ (((x.toNat : Int) == 0) = true ∧ ¬ 0 < k) := by
                by_cases e : x.toNat = 0
                · exact Or.inr ⟨beq_iff_eq.2 (by omega), by omega⟩
                · exact Or.inl (beq_eq_false_iff_ne.2 (by omega))
              clear hx0
              rcases b with b0 | ⟨b0, b1⟩
              all_goals
                go_wp2_with fail
                refine (unfold_any s w hs64).mono ?_; rintro e w' ⟨rfl, rfl⟩
                go_wp2_with fail
                go_ret3
                exact ⟨by unfold intB; rw [HE.out]; simp, rfl⟩
    · have HE := Lib.hid (show readZ 0 0 l = (0, 0, 30) by rw [← HR.out, List.drop_of_length_le (by omega)]; rfl)
      go_wp2_with fail
      go_ret3
      exact ⟨by unfold intB; rw [HE.out]; rfl, rfl⟩
end Go.Proofs.YtmdhacboegmccaaDoor
