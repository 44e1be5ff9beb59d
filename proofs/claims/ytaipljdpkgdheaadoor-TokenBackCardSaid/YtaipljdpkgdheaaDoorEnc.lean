/- Package token: the ways in which a string's bytes may be written, read. -/
import Derived.Test.YtaipljdpkgdheaaDoorScan
namespace Go.Proofs.YtaipljdpkgdheaaDoor
open Go Go.RowKit

/-- The bytes are one character, which stands for the byte. -/
def Chunk (ch : List UInt8) (c : UInt8) : Prop := ∃ b r, ch = b :: r ∧ b ≠ 34 ∧ ∀ s, charR (ch ++ s) = (c, ch.length, 0)
/-- The bytes are read as those, whatever stands ahead and behind. -/
def Enc (m p : List UInt8) : Prop := ∀ acc s, acc.length + p.length ≤ 256 → strR acc (m ++ s) = strR (acc ++ p) s
theorem Enc.nil : Enc [] [] := fun acc s _ => by simp
theorem Enc.snoc {m p ch : List UInt8} {c : UInt8} (h : Enc m p) (hc : Chunk ch c) : Enc (m ++ ch) (p ++ [c]) := by
  intro acc s hl
  rw [List.length_append, List.length_singleton] at hl
  obtain ⟨b, r, rfl, hb, hch⟩ := hc
  rw [List.append_assoc, h acc _ (by omega)]
  have h1 := hch s
  simp only [List.cons_append] at h1 ⊢
  rw [strR_more hb (by rw [h1]) (by rw [List.length_append]; omega), h1]
  have e : (b :: (r ++ s)).drop (b :: r).length = s := by
    have := List.drop_left (l₁ := b :: r) (l₂ := s)
    simp
  rw [e, List.append_assoc]
theorem chunk_plain {c : UInt8} (h0 : 32 ≤ c.toNat) (h1 : c.toNat ≤ 126) (h2 : c ≠ 34) (h3 : c ≠ 92) : Chunk [c] c :=
  ⟨c, [], rfl, h2, fun s => char_self (by omega) h3⟩
theorem chunk_letter {k c : UInt8} (h : k = 34 ∧ c = 34 ∨ k = 92 ∧ c = 92 ∨ k = 110 ∧ c = 10 ∨ k = 116 ∧ c = 9) : Chunk [92, k] c := by
  refine ⟨92, [k], rfl, by decide, fun s => ?_⟩
  show charR (92 :: k :: s) = (c, 2, 0)
  rcases h with ⟨rfl, rfl⟩ | ⟨rfl, rfl⟩ | ⟨rfl, rfl⟩ | ⟨rfl, rfl⟩ <;> rfl
def loD : List UInt8 := [48, 49, 50, 51, 52, 53, 54, 55, 56, 57, 97, 98, 99, 100, 101, 102]
def upD : List UInt8 := [48, 49, 50, 51, 52, 53, 54, 55, 56, 57, 65, 66, 67, 68, 69, 70]
theorem hex_lo : ∀ i : Fin 16, hexU (loD[i.val]'i.isLt) = some (UInt8.ofNat i.val) := by decide +kernel
theorem hex_up : ∀ i : Fin 16, hexU (upD[i.val]'i.isLt) = some (UInt8.ofNat i.val) := by decide +kernel
theorem chunk_hex {a b c : UInt8} {p q : Nat} (hp : p < 16) (hq : q < 16) (ha : hexU a = some (UInt8.ofNat p)) (hb : hexU b = some (UInt8.ofNat q)) (hc : c.toNat = 16 * p + q) : Chunk [92, 120, a, b] c := by
  refine ⟨92, [120, a, b], rfl, by decide, fun s => ?_⟩
  show charR (92 :: 120 :: a :: b :: s) = (c, 4, 0)
  have h : hexR (a :: b :: s) = (c, 0) := by
    simp only [hexR, ha, hb]
    rw [UInt8.toNat_ofNat', UInt8.toNat_ofNat', Nat.mod_eq_of_lt (by omega), Nat.mod_eq_of_lt (by omega), ← hc, UInt8.ofNat_toNat]
  rw [char_hex, h]
  rfl
/-- A string that does not end. -/
theorem scan_open {n : Nat} {m p : List UInt8} (h : Enc m p) (hp : p.length ≤ 256) : scanR n [] (34 :: m) = ([], 34 :: m, 52) := by
  have h1 := h [] [] (by simpa using hp)
  rw [List.append_nil, List.nil_append, strR_nil] at h1
  have h2 : nextR (34 :: m) = faultX (34 :: m) 52 := by
    unfold nextR
    rw [skip_none (by decide) (by simp)]
    simp only [oneR, show letU 34 = false from rfl, show digU 34 = false from rfl, Bool.false_eq_true, if_false, if_true, h1]
    simp
  rw [scanR_bad (by rw [h2]; show ¬ (52 : Int) = 0; decide), h2]
  rfl
/-- A string alone. -/
theorem next_string {m p r : List UInt8} (h : Enc m p) (hp : p.length ≤ 256) : nextR (34 :: (m ++ 34 :: r)) = ⟨3, p, 34 :: (m ++ 34 :: r), r, 0⟩ := by
  have h1 := h [] (34 :: r) (by simpa using hp)
  rw [List.nil_append, strR_end] at h1
  unfold nextR
  rw [skip_none (by decide) (by simp)]
  simp only [oneR, show letU 34 = false from rfl, show digU 34 = false from rfl, Bool.false_eq_true, if_false, if_true, h1]
theorem next_nil : nextR [] = ⟨5, [], [], [], 0⟩ := rfl
theorem scan_string {m p : List UInt8} (h : Enc m p) (hp : p.length ≤ 256) : scanR (m.length + 2) [] (34 :: (m ++ [34])) = ([⟨3, p, 0⟩, ⟨5, [], m.length + 2⟩], [], 0) := by
  have h2 := next_string (r := []) h hp
  rw [scanR_more (by rw [h2]) (by rw [h2]; show ¬ (3 : Int) = 5; decide), h2]
  simp only
  rw [scanR_end (by rw [next_nil]) (by rw [next_nil]), next_nil]
  simp [tkOf]
end Go.Proofs.YtaipljdpkgdheaaDoor
