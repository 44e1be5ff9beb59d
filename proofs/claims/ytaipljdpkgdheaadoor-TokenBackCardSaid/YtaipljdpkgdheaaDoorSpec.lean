/- Plain functions and facts on bytes: letters, digits, what a word is. No program is named here. -/
import Derived.Laws.RangeAny
namespace Go.Proofs.YtaipljdpkgdheaaDoor
open Go

/-- A digit, by its code. -/
def digI (c : Int) : Bool := decide (48 ≤ c) && decide (c ≤ 57)
/-- A letter or the underscore, by its code. -/
def lttrI (c : Int) : Bool := decide (97 ≤ c) && decide (c ≤ 122) || decide (65 ≤ c) && decide (c ≤ 90) || (c == 95)
/-- A byte of a word. -/
def wordByte (b : UInt8) : Bool := digI b.toNat || lttrI b.toNat
/-- How many bytes at the front make a word. -/
def wordLen (s : ByteArray) : Nat := (s.data.toList.takeWhile wordByte).length

theorem take_front {p : UInt8 → Bool} : ∀ (l : List UInt8) (n : Nat), (∀ i (h : i < l.length), i < n → p l[i] = true) → (∀ h : n < l.length, p l[n] = false) → n ≤ l.length → (l.takeWhile p).length = n
  | [], n, _, _, hn => by simp at hn; simp [hn]
  | b :: r, 0, _, h2, _ => by
    have := h2 (by simp)
    simp at this
    simp [List.takeWhile, this]
  | b :: r, n + 1, h1, h2, hn => by
    have hb : p b = true := h1 0 (by simp) (by omega)
    have := take_front r n (fun i h hi => h1 (i + 1) (by simp; omega) (by omega)) (fun h => h2 (by simp; omega)) (by simp at hn; omega)
    simp [List.takeWhile, hb, this]

theorem wordLen_eq (s : ByteArray) (n : Nat) (h1 : ∀ i (h : i < s.size), i < n → wordByte s[i] = true) (h2 : ∀ h : n < s.size, wordByte s[n] = false) (hn : n ≤ s.size) : wordLen s = n :=
  take_front s.data.toList n (fun i h hi => h1 i (by simpa using h) hi) (fun h => h2 (by simpa using h)) (by simpa using hn)

theorem wordLen_le (s : ByteArray) : wordLen s ≤ s.size := by
  have := (List.takeWhile_prefix wordByte (l := s.data.toList)).length_le
  simpa [wordLen] using this

theorem digI_high {c : Int} (h : 128 ≤ c) : digI c = false := by simp [digI]; omega
theorem lttrI_high {c : Int} (h : 128 ≤ c) : lttrI c = false := by simp [lttrI]; omega
theorem wordByte_high {b : UInt8} (h : 128 ≤ b.toNat) : wordByte b = false := by
  simp [wordByte, digI_high (c := b.toNat) (by omega), lttrI_high (c := b.toNat) (by omega)]

end Go.Proofs.YtaipljdpkgdheaaDoor
