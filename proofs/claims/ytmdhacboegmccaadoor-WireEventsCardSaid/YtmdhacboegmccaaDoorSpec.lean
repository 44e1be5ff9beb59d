/- Plain functions and facts on bytes: what a name is. No program is named here. -/
import Derived.Laws.RangeAny
namespace Go.Proofs.YtmdhacboegmccaaDoor
open Go

/-- A digit, by its code. -/
def digI (c : Int) : Bool := decide (48 ≤ c) && decide (c ≤ 57)
/-- A letter or the underscore, by its code. -/
def lttrI (c : Int) : Bool := decide (97 ≤ c) && decide (c ≤ 122) || decide (65 ≤ c) && decide (c ≤ 90) || (c == 95)
/-- A byte of a word. -/
def wordByte (b : UInt8) : Bool := digI b.toNat || lttrI b.toNat
/-- How many bytes at the front make a word. -/
def wordLen (s : ByteArray) : Nat := (s.data.toList.takeWhile wordByte).length

theorem take_front {p : UInt8 → Bool} : ∀ (l : List UInt8) (n : Nat), (∀ i (h : i < l.length), i < n → p l[i] = true) → (∀ h : n < l.length, p l[n] = false) → n ≤ l.length → (l.takeWhile p).length = n
  | [], n, _, _, hn => by simp at hn; simp [hn]
  | b :: r, 0, _, h2, _ => by
    have := h2 (by simp)
    simp at this
    simp [List.takeWhile, this]
  | b :: r, n + 1, h1, h2, hn => by
    have hb : p b = true := h1 0 (by simp) (by omega)
    have := take_front r n (fun i h hi => h1 (i + 1) (by simp; omega) (by omega)) (fun h => h2 (by simp; omega)) (by simp at hn; omega)
    simp [List.takeWhile, hb, this]

theorem wordLen_eq (s : ByteArray) (n : Nat) (h1 : ∀ i (h : i < s.size), i < n → wordByte s[i] = true) (h2 : ∀ h : n < s.size, wordByte s[n] = false) (hn : n ≤ s.size) : wordLen s = n :=
  take_front s.data.toList n (fun i h hi => h1 i (by simpa using h) hi) (fun h => h2 (by simpa using h)) (by simpa using hn)

theorem wordLen_le (s : ByteArray) : wordLen s ≤ s.size := by
  have := (List.takeWhile_prefix wordByte (l := s.data.toList)).length_le
  simpa [wordLen] using this

theorem digI_high {c : Int} (h : 128 ≤ c) : digI c = false := by simp [digI]; omega
theorem lttrI_high {c : Int} (h : 128 ≤ c) : lttrI c = false := by simp [lttrI]; omega
theorem wordByte_high {b : UInt8} (h : 128 ≤ b.toNat) : wordByte b = false := by
  simp [wordByte, digI_high (c := b.toNat) (by omega), lttrI_high (c := b.toNat) (by omega)]

/-- Is the text one word? -/
def isWordB (s : ByteArray) : Bool := decide (0 < s.size) && decide (wordLen s = s.size)

/-- The words of the language, in the order of the table. -/
def resWords : List (List UInt8) := [[80, 65, 84, 84, 69, 82, 78], [83, 69, 81], [80, 65, 82, 84, 73, 84, 73, 79, 78], [66, 89], [87, 72, 69, 82, 69], [87, 73, 84, 72, 73, 78], [82, 69, 84, 85, 82, 78], [65, 78, 68], [79, 82], [78, 79, 84], [84, 82, 85, 69], [70, 65, 76, 83, 69], [84, 89, 80, 69], [73, 78, 84], [83, 84, 82], [66, 79, 79, 76]]
def resWord (k : Nat) : ByteArray := ⟨(resWords.getD k []).toArray⟩
/-- What the table's cells hold. -/
def resCells : Array Value := (resWords.map fun l => Value.string ⟨l.toArray⟩).toArray
/-- May the text be a name? -/
def nameB (s : ByteArray) : Bool := decide (s.size ≤ 32) && isWordB s && !digI (s.get! 0).toNat && !resWords.contains s.data.toList
/-- May an attribute have this name? -/
def attrNameB (s : ByteArray) : Bool := nameB s && !(s.data.toList == [116, 105, 109, 101])

/-- An attribute: its name and the number of its kind. -/
abbrev Attr := ByteArray × Int
/-- The cells of a list of attributes lie from an address on. -/
def AttrsAt (w : World) (ao : Option Addr) (l : List Attr) : Prop :=
  l = [] ∨ ∃ b o, ao = some ⟨b, o, none⟩ ∧ ∀ i (h : i < l.length), w.cell? ⟨b, o + i * 2, none⟩ = some (.string l[i].1) ∧ w.cell? ⟨b, o + i * 2 + 1, none⟩ = some (.int .i64 l[i].2)
/-- Has one of them this name? -/
def hasB (l : List Attr) (n : ByteArray) : Bool := l.any fun a => a.1.toList == n.toList

end Go.Proofs.YtmdhacboegmccaaDoor
