/- Package token: texts at the limits, as the document has them. -/
import Derived.Test.YtaipljdpkgdheaaDoorEnc
namespace Go.Proofs.YtaipljdpkgdheaaDoor
open Go Go.RowKit

def spaces (n : Nat) : List UInt8 := List.replicate n 32
theorem spaces_len (n : Nat) : (spaces n).length = n := List.length_replicate ..
theorem spaces_succ (n : Nat) : spaces (n + 1) = spaces n ++ [32] := by unfold spaces; rw [List.replicate_succ']
theorem skip_spaces : ∀ (n : Nat) (r : List UInt8), skipR false (spaces n ++ r) = skipR false r
  | 0, r => rfl
  | n + 1, r => by
    have h : spaces (n + 1) ++ r = 32 :: (spaces n ++ r) := rfl
    rw [h, skip_blank (by decide), skip_spaces n r]
theorem next_spaces (n : Nat) (r : List UInt8) : nextR (spaces n ++ r) = nextR r := by unfold nextR; rw [skip_spaces]
/-- What is scanned hangs on the next token alone. -/
theorem scanR_same {n : Nat} {acc : List Tk} {l l' : List UInt8} (h : nextR l = nextR l') : scanR n acc l = scanR n acc l' := by
  by_cases h0 : (nextR l').err = 0
  · by_cases h5 : (nextR l').kind = 5
    · rw [scanR_end (by rw [h]; exact h0) (by rw [h]; exact h5), scanR_end h0 h5, h]
    · rw [scanR_more (by rw [h]; exact h0) (by rw [h]; exact h5), scanR_more h0 h5, h]
  · rw [scanR_bad (by rw [h]; exact h0), scanR_bad h0, h]
theorem scan_spaces (n k : Nat) (acc : List Tk) (r : List UInt8) : scanR n acc (spaces k ++ r) = scanR n acc r := scanR_same (next_spaces k r)
theorem scan_nil (n : Nat) (acc : List Tk) : scanR n acc [] = (acc ++ [⟨5, [], n⟩], [], 0) := by
  rw [scanR_end (by rw [next_nil]) (by rw [next_nil]), next_nil]
  rfl
theorem wordL_all : ∀ {l : List UInt8}, (∀ b ∈ l, wordByte b = true) → wordL l = l
  | [], _ => rfl
  | b :: r, h => by
    unfold wordL
    rw [List.takeWhile_cons, h b (by simp)]
    simp only [if_true]
    have := wordL_all (l := r) (fun x hx => h x (by simp [hx]))
    unfold wordL at this
    rw [this]
theorem let_word {b : UInt8} (h : letU b = true) : wordByte b = true := by unfold wordByte; rw [Bool.or_eq_true]; exact Or.inr h
theorem let_skip {b : UInt8} (h : letU b = true) (r : List UInt8) : skipR false (b :: r) = b :: r := by
  have h1 : 65 ≤ b.toNat := by
    unfold letU lttrI at h
    simp only [Bool.or_eq_true, Bool.and_eq_true, decide_eq_true_eq, beq_iff_eq] at h
    omega
  have e : ∀ k : UInt8, k.toNat < 65 → b ≠ k := by
    rintro k hk rfl
    omega
  refine skip_none ?_ ?_
  · unfold blankU
    rw [beq_eq_false_iff_ne.2 (e 32 (by decide)), beq_eq_false_iff_ne.2 (e 9 (by decide)), beq_eq_false_iff_ne.2 (e 10 (by decide)), beq_eq_false_iff_ne.2 (e 13 (by decide))]
    rfl
  · rintro ⟨h2, _⟩
    exact e 45 (by decide) h2
/-- A word alone. -/
theorem scan_word {n : Nat} {b : UInt8} {r : List UInt8} (hb : letU b = true) (h : ∀ x ∈ r, wordByte x = true) (hl : (b :: r).length ≤ 32) : scanR n [] (b :: r) = ([⟨1, b :: r, n - (b :: r).length⟩, ⟨5, [], n⟩], [], 0) := by
  have hw : wordL (b :: r) = b :: r := wordL_all (fun x hx => by
    rcases List.mem_cons.1 hx with rfl | hx
    · exact let_word hb
    · exact h x hx)
  have h2 : nextR (b :: r) = ⟨1, b :: r, b :: r, [], 0⟩ := by
    unfold nextR
    rw [let_skip hb]
    simp only [oneR, hb, if_true, hw, if_pos hl, List.drop_length]
  rw [scanR_more (by rw [h2]) (by rw [h2]; show ¬ (1 : Int) = 5; decide), h2]
  simp only
  rw [scan_nil]
  rfl
theorem scan_long_word {n : Nat} {b : UInt8} {r : List UInt8} (hb : letU b = true) (h : ∀ x ∈ r, wordByte x = true) (hl : ¬ (b :: r).length ≤ 32) : scanR n [] (b :: r) = ([], b :: r, 51) := by
  have hw : wordL (b :: r) = b :: r := wordL_all (fun x hx => by
    rcases List.mem_cons.1 hx with rfl | hx
    · exact let_word hb
    · exact h x hx)
  have h2 : nextR (b :: r) = faultX (b :: r) 51 := by
    unfold nextR
    rw [let_skip hb]
    simp only [oneR, hb, if_true, hw, if_neg hl]
  rw [scanR_bad (by rw [h2]; show ¬ (51 : Int) = 0; decide), h2]
  rfl
def mostL : List UInt8 := [57, 50, 50, 51, 51, 55, 50, 48, 51, 54, 56, 53, 52, 55, 55, 53, 56, 48, 55]
def overL : List UInt8 := [57, 50, 50, 51, 51, 55, 50, 48, 51, 54, 56, 53, 52, 55, 55, 53, 56, 48, 56]
theorem dec_step {u v d : Nat} (h : u = 10 * v + d) (hd : d < 10) (hv : 0 < v) : Lib.decDigits u = Lib.decDigits v ++ [UInt8.ofNat (48 + d)] := by
  rw [Lib.decDigits, dif_neg (by omega), show u / 10 = v by omega, show u % 10 = d by omega]
theorem dec_last {u : Nat} (h : u < 10) : Lib.decDigits u = [UInt8.ofNat (48 + u)] := by rw [Lib.decDigits, dif_pos h]
theorem most_itoa : mostL = Lib.itoa 9223372036854775807 := by
  unfold Lib.itoa
  rw [if_neg (by decide), show Int.toNat 9223372036854775807 = 9223372036854775807 from rfl]
  rw [dec_step (u := 9223372036854775807) (v := 922337203685477580) (d := 7) (by decide) (by decide) (by decide)]
  rw [dec_step (u := 922337203685477580) (v := 92233720368547758) (d := 0) (by decide) (by decide) (by decide)]
  rw [dec_step (u := 92233720368547758) (v := 9223372036854775) (d := 8) (by decide) (by decide) (by decide)]
  rw [dec_step (u := 9223372036854775) (v := 922337203685477) (d := 5) (by decide) (by decide) (by decide)]
  rw [dec_step (u := 922337203685477) (v := 92233720368547) (d := 7) (by decide) (by decide) (by decide)]
  rw [dec_step (u := 92233720368547) (v := 9223372036854) (d := 7) (by decide) (by decide) (by decide)]
  rw [dec_step (u := 9223372036854) (v := 922337203685) (d := 4) (by decide) (by decide) (by decide)]
  rw [dec_step (u := 922337203685) (v := 92233720368) (d := 5) (by decide) (by decide) (by decide)]
  rw [dec_step (u := 92233720368) (v := 9223372036) (d := 8) (by decide) (by decide) (by decide)]
  rw [dec_step (u := 9223372036) (v := 922337203) (d := 6) (by decide) (by decide) (by decide)]
  rw [dec_step (u := 922337203) (v := 92233720) (d := 3) (by decide) (by decide) (by decide)]
  rw [dec_step (u := 92233720) (v := 9223372) (d := 0) (by decide) (by decide) (by decide)]
  rw [dec_step (u := 9223372) (v := 922337) (d := 2) (by decide) (by decide) (by decide)]
  rw [dec_step (u := 922337) (v := 92233) (d := 7) (by decide) (by decide) (by decide)]
  rw [dec_step (u := 92233) (v := 9223) (d := 3) (by decide) (by decide) (by decide)]
  rw [dec_step (u := 9223) (v := 922) (d := 3) (by decide) (by decide) (by decide)]
  rw [dec_step (u := 922) (v := 92) (d := 2) (by decide) (by decide) (by decide)]
  rw [dec_step (u := 92) (v := 9) (d := 2) (by decide) (by decide) (by decide)]
  rw [dec_last (u := 9) (by decide)]
  rfl
theorem num_most : numB mostL = true := by
  have h : Lib.atoiAll mostL = .ok 9223372036854775807 := by rw [most_itoa]; exact atoi_itoa _ (by decide) (by decide)
  rw [num_all (by decide) (by decide), h]
  simp only
  rw [most_itoa]
  exact beq_self_eq_true _
theorem num_over : numB overL = false := by
  have h : Lib.atoiAll overL = .range := by decide +kernel
  rw [num_all (by decide) (by decide), h]
theorem scan_most : scanR 19 [] mostL = ([⟨2, mostL, 0⟩, ⟨5, [], 19⟩], [], 0) := by
  have hw : wordL mostL = mostL := by decide +kernel
  have h2 : nextR mostL = ⟨2, mostL, mostL, [], 0⟩ := by
    unfold nextR
    have hs : skipR false mostL = mostL := by decide +kernel
    rw [hs]
    have h3 : oneR mostL = if numB (wordL mostL) then ⟨2, wordL mostL, mostL, mostL.drop (wordL mostL).length, 0⟩ else faultX mostL 51 := rfl
    rw [h3, hw, if_pos num_most]
    rfl
  rw [scanR_more (by rw [h2]) (by rw [h2]; show ¬ (2 : Int) = 5; decide), h2]
  simp only
  rw [scan_nil]
  rfl
theorem scan_over : scanR 19 [] overL = ([], overL, 51) := by
  have hw : wordL overL = overL := by decide +kernel
  have h2 : nextR overL = faultX overL 51 := by
    unfold nextR
    have hs : skipR false overL = overL := by decide +kernel
    rw [hs]
    have h3 : oneR overL = if numB (wordL overL) then ⟨2, wordL overL, overL, overL.drop (wordL overL).length, 0⟩ else faultX overL 51 := rfl
    rw [h3, hw, if_neg (by rw [num_over]; simp)]
  rw [scanR_bad (by rw [h2]; show ¬ (51 : Int) = 0; decide), h2]
  rfl
theorem enc_spaces : ∀ n : Nat, Enc (spaces n) (spaces n)
  | 0 => Enc.nil
  | n + 1 => by
    rw [spaces_succ]
    exact (enc_spaces n).snoc (chunk_plain (by decide) (by decide) (by decide) (by decide))
theorem scan_str256 (n : Nat) : scanR n [] (34 :: (spaces 256 ++ [34])) = ([⟨3, spaces 256, n - 258⟩, ⟨5, [], n⟩], [], 0) := by
  have h2 := next_string (r := []) (enc_spaces 256) (by rw [spaces_len]; exact Nat.le_refl _)
  rw [scanR_more (by rw [h2]) (by rw [h2]; show ¬ (3 : Int) = 5; decide), h2]
  simp only
  rw [scan_nil]
  simp [tkOf, spaces_len]
theorem scan_str257 (n : Nat) : scanR n [] (34 :: (spaces 256 ++ [32, 34])) = ([], 34 :: (spaces 256 ++ [32, 34]), 51) := by
  have h1 := enc_spaces 256 [] [32, 34] (by simp [spaces_len])
  rw [List.nil_append, strR_long (by decide) (by decide) (spaces_len 256)] at h1
  have h2 : nextR (34 :: (spaces 256 ++ [32, 34])) = faultX (34 :: (spaces 256 ++ [32, 34])) 51 := by
    unfold nextR
    rw [skip_none (by decide) (by simp)]
    simp only [oneR, show letU 34 = false from rfl, show digU 34 = false from rfl, Bool.false_eq_true, if_false, if_true, h1]
    simp
  rw [scanR_bad (by rw [h2]; show ¬ (51 : Int) = 0; decide), h2]
  rfl
end Go.Proofs.YtaipljdpkgdheaaDoor
