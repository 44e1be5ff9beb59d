/- Package value: Read of every text, and of what Show writes. -/
import Derived.Test.YtaipljdpkgdheaaDoorRead
namespace Go.Proofs.YtaipljdpkgdheaaDoor
open Go Go.RowKit

theorem num_toList (n : Int) : (numS n).toList = Lib.itoa n := by rw [ByteArray.toList_eq]; rfl
theorem num_size (n : Int) (h0 : -9223372036854775808 ≤ n) (h1 : n ≤ 9223372036854775807) : (numS n).size ≤ 21 := Lib.itoa_length_le n h0 h1
theorem num_head (n : Int) (c : UInt8) (l : List UInt8) (h : c.toNat ≠ 45 ∧ (c.toNat < 48 ∨ 57 < c.toNat)) : ((numS n).toList == c :: l) = false := by
  rw [num_toList]
  obtain ⟨d, r, e, hd⟩ := itoa_head n
  rw [e, beq_eq_false_iff_ne]
  intro h2
  injection h2 with h2 _
  rw [h2] at hd
  omega
theorem num_prefix (n : Int) : Lib.hasPrefix (numS n).data.toList [34] = false := by
  show Lib.hasPrefix (Lib.itoa n) [34] = false
  obtain ⟨d, r, e, hd⟩ := itoa_head n
  rw [e]
  have h : ((34 : UInt8) == d) = false := by
    rw [beq_eq_false_iff_ne]
    intro h
    rw [← h] at hd
    revert hd
    decide
  simp [Lib.hasPrefix, List.isPrefixOf, h]
/-- A number's own text, read. -/
theorem read_num (n : Int) (w : World) (ht : Tabs w) (h0 : -9223372036854775808 ≤ n) (h1 : n ≤ 9223372036854775807) :
    Calls Tryd.prog 56 #[.string (numS n)] w fun e w' => e = .returned (.tuple #[(numV n).v, .int .i64 0]) ∧ Below w.heap.size w w' :=
  read_go (numS n) (numS n) (numV n) 0 w ht
    (fun W _ => understand_num (numS n) n W (by have := num_size n h0 h1; omega) (num_head n 84 _ (by decide)) (num_head n 70 _ (by decide)) (num_prefix n) (atoi_itoa n h0 h1))
    (fun W hW => show_int n W h0 h1 (ht.below hW)) _ _ (Or.inr (Or.inr ⟨rfl, rfl, rfl, rfl⟩))
theorem bool_true : ((boolS true).toList == [84, 82, 85, 69]) = true := by rw [ByteArray.toList_eq]; rfl
theorem bool_false : ((boolS false).toList == [84, 82, 85, 69]) = false := by rw [ByteArray.toList_eq]; rfl
theorem bool_false2 : ((boolS false).toList == [70, 65, 76, 83, 69]) = true := by rw [ByteArray.toList_eq]; rfl
theorem read_bool (b : Bool) (w : World) (ht : Tabs w) :
    Calls Tryd.prog 56 #[.string (boolS b)] w fun e w' => e = .returned (.tuple #[(boolV b).v, .int .i64 0]) ∧ Below w.heap.size w w' :=
  read_go (boolS b) (boolS b) (boolV b) 0 w ht
    (fun W _ => by cases b; exact understand_false _ W bool_false bool_false2; exact understand_true _ W bool_true)
    (fun W _ => show_bool b W) _ _ (Or.inr (Or.inr ⟨rfl, rfl, rfl, rfl⟩))
/-- What a text is read as. -/
def ReadAs (s : ByteArray) (R : Val) (eR : Int) : Prop :=
  eR = 12 ∧ R = zeroV ∨ eR = 0 ∧ ((∃ n : Int, -9223372036854775808 ≤ n ∧ n ≤ 9223372036854775807 ∧ R = numV n ∧ s = numS n) ∨ (∃ b, R = boolV b ∧ s = boolS b) ∨ ∃ q : ByteArray, q.size ≤ 256 ∧ R = strV q)
theorem read_any (s : ByteArray) (w : World) (ht : Tabs w) (hm : s.size ≤ 140737488355328) :
    Calls Tryd.prog 56 #[.string s] w fun e w' => (∃ (R : Val) (eR : Int), e = .returned (.tuple #[R.v, .int .i64 eR]) ∧ ReadAs s R eR) ∧ Below w.heap.size w w' := by
  cases h1 : (s.toList == [84, 82, 85, 69])
  · cases h2 : (s.toList == [70, 65, 76, 83, 69])
    · cases hp : Lib.hasPrefix s.data.toList [34]
      · cases hn : Lib.atoiAll s.data.toList with
        | ok n =>
          obtain ⟨h3, h4⟩ := Lib.atoiAll_bounds hn
          refine (read_gen (fun a => a = numV n) (fun _ t => t = numS n) s w (fun W _ => (understand_num s n W hm h1 h2 hp hn).mono fun e w' ⟨k1, k2⟩ => ⟨⟨_, _, k1, fun _ => rfl⟩, k2⟩) (fun a ha W hW => ?_)).mono ?_
          · subst ha
            exact (show_int n W h3 h4 (ht.below hW)).mono fun e w' ⟨k1, k2⟩ => ⟨⟨_, _, k1, Or.inr ⟨rfl, rfl⟩⟩, k2⟩
          · rintro e w' ⟨⟨R, eR, k1, k2⟩, k3⟩
            refine ⟨⟨R, eR, k1, ?_⟩, k3⟩
            rcases k2 with k2 | ⟨k4, k5, k6⟩
            · exact Or.inl k2
            · exact Or.inr ⟨k4, Or.inl ⟨n, h3, h4, k5, k6⟩⟩
        | _ => exact (read_no s w (fun W hW => (understand_none s W (ht.below hW) hm h1 h2 hp (fun n h => by rw [hn] at h; cases h)).mono fun e w' ⟨⟨n, k1⟩, k2⟩ => ⟨⟨_, k1⟩, k2⟩)).mono fun e w' ⟨k1, k2⟩ => ⟨⟨_, _, k1, Or.inl ⟨rfl, rfl⟩⟩, k2⟩
      · refine (read_gen (fun a => ∃ q : ByteArray, q.size ≤ s.size ∧ a = strV q) (fun a _ => a.str.size ≤ 256) s w (fun W _ => (understand_str s W hm h1 h2 hp).mono fun e w' ⟨⟨q, b, k1, k2⟩, k3⟩ => ⟨⟨_, _, k1, fun _ => ⟨q, k2, rfl⟩⟩, k3⟩) (fun a ha W hW => ?_)).mono ?_
        · obtain ⟨q, hq, rfl⟩ := ha
          by_cases h5 : q.size ≤ 256
          · exact (show_str q W h5).mono fun e w' ⟨⟨t, k1⟩, k2⟩ => ⟨⟨_, _, k1, Or.inr ⟨rfl, h5⟩⟩, k2⟩
          · exact (show_no (strV q) W (by show q.size ≤ maxLen; unfold maxLen; omega) (by simp [validB, strV, h5])).mono fun e w' ⟨k1, k2⟩ => ⟨⟨_, _, k1, Or.inl rfl⟩, k2⟩
        · rintro e w' ⟨⟨R, eR, k1, k2⟩, k3⟩
          refine ⟨⟨R, eR, k1, ?_⟩, k3⟩
          rcases k2 with k2 | ⟨k4, ⟨q, _, rfl⟩, k6⟩
          · exact Or.inl k2
          · exact Or.inr ⟨k4, Or.inr (Or.inr ⟨q, k6, rfl⟩)⟩
    · have e : s = boolS false := bytes_same (by rw [beq_iff_eq.1 h2, ByteArray.toList_eq]; rfl)
      subst e
      exact (read_bool false w ht).mono fun e w' ⟨k1, k2⟩ => ⟨⟨_, _, k1, Or.inr ⟨rfl, Or.inr (Or.inl ⟨false, rfl, rfl⟩)⟩⟩, k2⟩
  · have e : s = boolS true := bytes_same (by rw [beq_iff_eq.1 h1, ByteArray.toList_eq]; rfl)
    subst e
    exact (read_bool true w ht).mono fun e w' ⟨k1, k2⟩ => ⟨⟨_, _, k1, Or.inr ⟨rfl, Or.inr (Or.inl ⟨true, rfl, rfl⟩)⟩⟩, k2⟩
end Go.Proofs.YtaipljdpkgdheaaDoor
