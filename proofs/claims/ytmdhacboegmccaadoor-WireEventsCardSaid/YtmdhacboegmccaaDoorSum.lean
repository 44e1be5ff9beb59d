/- The sum of bytes, and damage: plain functions and facts. No program is named here. -/
import Derived.Test.YtmdhacboegmccaaDoorEvForm
namespace Go.Proofs.YtmdhacboegmccaaDoor
open Go

/-- The two numbers. -/
def sumR (pq : Nat × Nat) (x : UInt8) : Nat × Nat := ((pq.1 + x.toNat) % 65521, (pq.2 + (pq.1 + x.toNat) % 65521) % 65521)
def sumPQ (l : List UInt8) : Nat × Nat := l.foldl sumR (1, 0)
def sumB (l : List UInt8) : List UInt8 := [UInt8.ofNat ((sumPQ l).2 / 256), UInt8.ofNat ((sumPQ l).2 % 256), UInt8.ofNat ((sumPQ l).1 / 256), UInt8.ofNat ((sumPQ l).1 % 256)]
theorem sumPQ_snoc (l : List UInt8) (x : UInt8) : sumPQ (l ++ [x]) = sumR (sumPQ l) x := by simp [sumPQ]
theorem sum_lt : ∀ (l : List UInt8) (p q : Nat), p < 65521 → q < 65521 → (l.foldl sumR (p, q)).1 < 65521 ∧ (l.foldl sumR (p, q)).2 < 65521
  | [], _, _, hp, hq => ⟨hp, hq⟩
  | x :: l, p, q, _, _ => sum_lt l _ _ (Nat.mod_lt _ (by decide)) (Nat.mod_lt _ (by decide))
theorem sumPQ_lt (l : List UInt8) : (sumPQ l).1 < 65521 ∧ (sumPQ l).2 < 65521 := sum_lt l 1 0 (by decide) (by decide)
theorem sumB_len (l : List UInt8) : (sumB l).length = 4 := rfl
theorem sumB_inj {l m : List UInt8} (h : sumB l = sumB m) : sumPQ l = sumPQ m := by
  have h1 := sumPQ_lt l
  have h2 := sumPQ_lt m
  unfold sumB at h
  simp only [List.cons.injEq, and_true] at h
  obtain ⟨a, b, c, d⟩ := h
  have a := congrArg UInt8.toNat a
  have b := congrArg UInt8.toNat b
  have c := congrArg UInt8.toNat c
  have d := congrArg UInt8.toNat d
  rw [u8_of _ (by omega), u8_of _ (by omega)] at a b c d
  exact Prod.ext (by omega) (by omega)
/-- From two states on: the first numbers differ as they did; the second ones too, if the first ones are alike. -/
theorem sum_first : ∀ (l : List UInt8) (p q p' q' : Nat), p < 65521 → p' < 65521 → p ≠ p' → (l.foldl sumR (p, q)).1 ≠ (l.foldl sumR (p', q')).1
  | [], _, _, _, _, _, _, h => h
  | x :: l, p, q, p', q', hp, hp', h => sum_first l _ _ _ _ (Nat.mod_lt _ (by decide)) (Nat.mod_lt _ (by decide)) (by simp only; omega)
theorem sum_second : ∀ (l : List UInt8) (p q q' : Nat), q < 65521 → q' < 65521 → q ≠ q' → (l.foldl sumR (p, q)).2 ≠ (l.foldl sumR (p, q')).2
  | [], _, _, _, _, _, h => h
  | x :: l, p, q, q', hq, hq', h => sum_second l _ _ _ (Nat.mod_lt _ (by decide)) (Nat.mod_lt _ (by decide)) (by simp only; omega)
/-- One byte another one. -/
theorem sum_turn (l m : List UInt8) (x y : UInt8) (h : x ≠ y) : sumPQ (l ++ x :: m) ≠ sumPQ (l ++ y :: m) := by
  intro e
  have hl := sumPQ_lt l
  have hx := x.toNat_lt
  have hy := y.toNat_lt
  have hn : x.toNat ≠ y.toNat := fun e => h (UInt8.toNat_inj.1 e)
  unfold sumPQ at e hl
  rw [List.foldl_append, List.foldl_append, List.foldl_cons, List.foldl_cons] at e
  refine sum_first m _ _ _ _ (Nat.mod_lt _ (by decide)) (Nat.mod_lt _ (by decide)) ?_ (congrArg Prod.fst e)
  omega
/-- Two neighbours exchanged. -/
theorem sum_swap (l m : List UInt8) (x y : UInt8) (h : x ≠ y) : sumPQ (l ++ x :: y :: m) ≠ sumPQ (l ++ y :: x :: m) := by
  intro e
  have hl := sumPQ_lt l
  have hx := x.toNat_lt
  have hy := y.toNat_lt
  have hn : x.toNat ≠ y.toNat := fun e => h (UInt8.toNat_inj.1 e)
  unfold sumPQ at e hl
  rw [List.foldl_append, List.foldl_append, List.foldl_cons, List.foldl_cons, List.foldl_cons, List.foldl_cons] at e
  obtain ⟨⟨p, q⟩, hpq⟩ : ∃ c, c = l.foldl sumR (1, 0) := ⟨_, rfl⟩
  rw [← hpq] at e hl
  simp only at hl
  have hp2 : ((p + x.toNat) % 65521 + y.toNat) % 65521 = ((p + y.toNat) % 65521 + x.toNat) % 65521 := by omega
  simp only [sumR, hp2] at e
  refine sum_second m _ _ _ (Nat.mod_lt _ (by decide)) (Nat.mod_lt _ (by decide)) ?_ (congrArg Prod.snd e)
  omega
end Go.Proofs.YtmdhacboegmccaaDoor
