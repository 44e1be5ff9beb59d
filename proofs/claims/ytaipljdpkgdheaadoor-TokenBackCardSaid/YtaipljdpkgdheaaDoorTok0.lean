/- Package token, the document's words over lists of bytes: a string's characters, a token, a text of tokens. -/
import Derived.Test.YtaipljdpkgdheaaDoorSpec
import Derived.Lib.Strings
import Derived.Lib.AtoiAllCases
import Derived.Lib.ItoaLen
namespace Go.Proofs.YtaipljdpkgdheaaDoor
open Go

def blankU (b : UInt8) : Bool := b == 32 || b == 9 || b == 10 || b == 13
def digU (b : UInt8) : Bool := digI b.toNat
def letU (b : UInt8) : Bool := lttrI b.toNat
/-- What stands behind blanks and comments (from within a comment, if so). -/
def skipR : Bool → List UInt8 → List UInt8
  | _, [] => []
  | true, b :: r => if b = 10 then skipR false r else skipR true r
  | false, b :: r => if blankU b then skipR false r else if b = 45 ∧ r.head? = some 45 then skipR true r else b :: r
/-- A hexadecimal digit's worth. -/
def hexU (b : UInt8) : Option UInt8 :=
  if 48 ≤ b.toNat ∧ b.toNat ≤ 57 then some (UInt8.ofNat (b.toNat - 48))
  else if 97 ≤ b.toNat ∧ b.toNat ≤ 102 then some (UInt8.ofNat (b.toNat - 87))
  else if 65 ≤ b.toNat ∧ b.toNat ≤ 70 then some (UInt8.ofNat (b.toNat - 55))
  else none
/-- The byte of two hexadecimal digits, and the error. -/
def hexR : List UInt8 → UInt8 × Int
  | [] => (0, 52)
  | h :: r => match hexU h with
    | none => (0, 51)
    | some a => match r with
      | [] => (0, 52)
      | k :: _ => match hexU k with
        | none => (0, 51)
        | some b => (UInt8.ofNat (16 * a.toNat + b.toNat), 0)
/-- A character of a string: its byte, how long it is, the error. -/
def charR : List UInt8 → UInt8 × Nat × Int
  | [] => (0, 0, 52)
  | b :: r =>
    if b.toNat < 32 ∨ 126 < b.toNat then (0, 0, 50)
    else if b ≠ 92 then (b, 1, 0)
    else match r with
      | [] => (0, 0, 52)
      | c :: s =>
        if c = 120 then (if (hexR s).2 = 0 then ((hexR s).1, 4, 0) else (0, 0, (hexR s).2))
        else if c = 34 then (34, 2, 0) else if c = 92 then (92, 2, 0) else if c = 110 then (10, 2, 0) else if c = 116 then (9, 2, 0)
        else (0, 0, 51)
/-- What a string's rest gives: its bytes and what stands behind it, or the error and where it is (none: at the string's first byte). -/
structure StrX where
  bytes : List UInt8
  rest : List UInt8
  err : Int
  here : Bool
def strR (acc l : List UInt8) : StrX :=
  match l with
  | [] => ⟨[], [], 52, false⟩
  | b :: r =>
    if b = 34 then ⟨acc, r, 0, true⟩
    else if (charR (b :: r)).2.2 = 52 then ⟨[], [], 52, false⟩
    else if (charR (b :: r)).2.2 ≠ 0 then ⟨[], b :: r, (charR (b :: r)).2.2, true⟩
    else if acc.length = 256 then ⟨[], [], 51, false⟩
    else if _h : ((b :: r).drop (charR (b :: r)).2.1).length < (b :: r).length then strR (acc ++ [(charR (b :: r)).1]) ((b :: r).drop (charR (b :: r)).2.1) else ⟨[], [], 0, false⟩
  termination_by l.length
  decreasing_by assumption
/-- How long the sign is that stands first. -/
def signR : List UInt8 → Nat
  | [] => 0
  | b :: r =>
    if b = 46 then (if r.head? = some 46 then 2 else 1)
    else if b = 33 ∨ b = 60 ∨ b = 62 then (if r.head? = some 61 then 2 else 1)
    else if b = 40 ∨ b = 41 ∨ b = 91 ∨ b = 93 ∨ b = 123 ∨ b = 125 ∨ b = 44 ∨ b = 43 ∨ b = 45 ∨ b = 42 ∨ b = 61 then 1
    else 0
/-- The bytes of a word, or of a number with what stands right behind it. -/
def wordL (l : List UInt8) : List UInt8 := l.takeWhile wordByte
/-- Are they a number? -/
def numB (l : List UInt8) : Bool := decide (l.length ≤ 19) && l.all digU && (match Lib.atoiAll l with | .ok n => l == Lib.itoa n | _ => false)
/-- A token: its kind, its bytes, where it begins and what stands behind it; of a fault its error and where it is. -/
structure TokX where
  kind : Int
  text : List UInt8
  start : List UInt8
  rest : List UInt8
  err : Int
def faultX (l : List UInt8) (e : Int) : TokX := ⟨0, [], l, [], e⟩
/-- The token that stands first, no blank and no comment standing there. -/
def oneR : List UInt8 → TokX
  | [] => ⟨5, [], [], [], 0⟩
  | b :: r =>
    if letU b then (if (wordL (b :: r)).length ≤ 32 then ⟨1, wordL (b :: r), b :: r, (b :: r).drop (wordL (b :: r)).length, 0⟩ else faultX (b :: r) 51)
    else if digU b then (if numB (wordL (b :: r)) then ⟨2, wordL (b :: r), b :: r, (b :: r).drop (wordL (b :: r)).length, 0⟩ else faultX (b :: r) 51)
    else if b = 34 then (if (strR [] r).err = 0 then ⟨3, (strR [] r).bytes, b :: r, (strR [] r).rest, 0⟩ else faultX (if (strR [] r).here then (strR [] r).rest else b :: r) (strR [] r).err)
    else if signR (b :: r) ≠ 0 then ⟨4, (b :: r).take (signR (b :: r)), b :: r, (b :: r).drop (signR (b :: r)), 0⟩
    else faultX (b :: r) 50
def nextR (l : List UInt8) : TokX := oneR (skipR false l)

theorem char_ctl {b : UInt8} {r : List UInt8} (h : b.toNat < 32 ∨ 126 < b.toNat) : charR (b :: r) = (0, 0, 50) := by simp only [charR]; rw [if_pos h]
theorem char_self {b : UInt8} {r : List UInt8} (h : ¬ (b.toNat < 32 ∨ 126 < b.toNat)) (h2 : ¬ b = 92) : charR (b :: r) = (b, 1, 0) := by simp only [charR]; rw [if_neg h, if_pos h2]
theorem char_cut : charR [92] = (0, 0, 52) := rfl
theorem char_hex (s : List UInt8) : charR (92 :: 120 :: s) = if (hexR s).2 = 0 then ((hexR s).1, 4, 0) else (0, 0, (hexR s).2) := rfl
theorem char_letter {c : UInt8} {s : List UInt8} (h : ¬ c = 120) : charR (92 :: c :: s) = if c = 34 then (34, 2, 0) else if c = 92 then (92, 2, 0) else if c = 110 then (10, 2, 0) else if c = 116 then (9, 2, 0) else (0, 0, 51) := by
  simp only [charR, h, if_false]
  rfl
theorem hex_ok {s : List UInt8} (h : (hexR s).2 = 0) : ∃ a b r x y, s = a :: b :: r ∧ hexU a = some x ∧ hexU b = some y ∧ hexR s = (UInt8.ofNat (16 * x.toNat + y.toNat), 0) := by
  cases s with
  | nil => simp [hexR] at h
  | cons a r =>
    cases ha : hexU a with
    | none => simp [hexR, ha] at h
    | some x =>
      cases r with
      | nil => simp [hexR, ha] at h
      | cons b r =>
        cases hb : hexU b with
        | none => simp [hexR, ha, hb] at h
        | some y => exact ⟨a, b, r, x, y, rfl, ha, hb, by simp [hexR, ha, hb]⟩
theorem char_size {l : List UInt8} (h : (charR l).2.2 = 0) : 1 ≤ (charR l).2.1 ∧ (charR l).2.1 ≤ l.length := by
  cases l with
  | nil => simp [charR] at h
  | cons b r =>
    by_cases h1 : b.toNat < 32 ∨ 126 < b.toNat
    · rw [char_ctl h1] at h; simp at h
    by_cases h2 : b = 92
    · subst h2
      cases r with
      | nil => simp [char_cut] at h
      | cons c s =>
        by_cases h3 : c = 120
        · subst h3
          rw [char_hex] at h ⊢
          by_cases h4 : (hexR s).2 = 0
          · obtain ⟨a, b, r, x, y, rfl, _⟩ := hex_ok h4
            rw [if_pos h4]
            simp
          · rw [if_neg h4] at h
            exact absurd h h4
        · rw [char_letter h3] at h ⊢
          by_cases h4 : c = 34
          · rw [if_pos h4]; simp
          rw [if_neg h4] at h ⊢
          by_cases h5 : c = 92
          · rw [if_pos h5]; simp
          rw [if_neg h5] at h ⊢
          by_cases h6 : c = 110
          · rw [if_pos h6]; simp
          rw [if_neg h6] at h ⊢
          by_cases h7 : c = 116
          · rw [if_pos h7]; simp
          rw [if_neg h7] at h
          simp at h
    · rw [char_self h1 h2]; simp
theorem strR_nil (acc : List UInt8) : strR acc [] = ⟨[], [], 52, false⟩ := by unfold strR; rfl
theorem strR_end (acc r : List UInt8) : strR acc (34 :: r) = ⟨acc, r, 0, true⟩ := by unfold strR; simp
theorem strR_open {acc r : List UInt8} {b : UInt8} (hb : ¬ b = 34) (h : (charR (b :: r)).2.2 = 52) : strR acc (b :: r) = ⟨[], [], 52, false⟩ := by
  unfold strR; rw [if_neg hb, if_pos h]
theorem strR_bad {acc r : List UInt8} {b : UInt8} (hb : ¬ b = 34) (h : ¬ (charR (b :: r)).2.2 = 52) (h2 : ¬ (charR (b :: r)).2.2 = 0) : strR acc (b :: r) = ⟨[], b :: r, (charR (b :: r)).2.2, true⟩ := by
  unfold strR; rw [if_neg hb, if_neg h, if_pos h2]
theorem strR_long {acc r : List UInt8} {b : UInt8} (hb : ¬ b = 34) (h2 : (charR (b :: r)).2.2 = 0) (ha : acc.length = 256) : strR acc (b :: r) = ⟨[], [], 51, false⟩ := by
  unfold strR; rw [if_neg hb, if_neg (by rw [h2]; decide), if_neg (by rw [h2]; decide), if_pos ha]
theorem strR_more {acc r : List UInt8} {b : UInt8} (hb : ¬ b = 34) (h2 : (charR (b :: r)).2.2 = 0) (ha : ¬ acc.length = 256) : strR acc (b :: r) = strR (acc ++ [(charR (b :: r)).1]) ((b :: r).drop (charR (b :: r)).2.1) := by
  have hc := char_size h2
  conv => lhs; unfold strR
  rw [if_neg hb, if_neg (by rw [h2]; decide), if_neg (by rw [h2]; decide), if_neg ha, dif_pos (by rw [List.length_drop]; simp only [List.length_cons] at hc ⊢; omega)]
theorem skip_len : ∀ (m : Bool) (l : List UInt8), (skipR m l).length ≤ l.length
  | _, [] => by simp [skipR]
  | true, b :: r => by
    have h1 := skip_len true r
    have h2 := skip_len false r
    unfold skipR
    split <;> simp only [List.length_cons] <;> omega
  | false, b :: r => by
    have h1 := skip_len true r
    have h2 := skip_len false r
    unfold skipR
    split
    · simp only [List.length_cons]; omega
    · split <;> simp only [List.length_cons] <;> omega
theorem skip_blank {b : UInt8} {r : List UInt8} (h : blankU b = true) : skipR false (b :: r) = skipR false r := by rw [skipR, if_pos h]
theorem skip_note {r : List UInt8} : skipR false (45 :: 45 :: r) = skipR true r := by
  rw [skipR, if_neg (by decide), if_pos ⟨rfl, rfl⟩, skipR, if_neg (by decide)]
theorem skip_line : ∀ (r : List UInt8), skipR true r = skipR false (r.dropWhile fun b => b != 10)
  | [] => rfl
  | b :: r => by
    rw [skipR]
    by_cases h : b = 10
    · subst h
      rw [if_pos rfl, List.dropWhile_cons, if_neg (by decide), skip_blank (by decide)]
    · rw [if_neg h, List.dropWhile_cons, if_pos (by simpa using h)]
      exact skip_line r
theorem skip_none {b : UInt8} {r : List UInt8} (h : blankU b = false) (h2 : ¬ (b = 45 ∧ r.head? = some 45)) : skipR false (b :: r) = b :: r := by rw [skipR, if_neg (by rw [h]; simp), if_neg h2]
end Go.Proofs.YtaipljdpkgdheaaDoor
