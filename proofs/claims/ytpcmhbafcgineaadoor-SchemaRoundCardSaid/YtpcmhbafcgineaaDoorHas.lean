/- Package schema: whether one of the attributes has a name, for every list of attributes (slices.ContainsFunc over a closure). -/
import Derived.Test.YtpcmhbafcgineaaDoorName
namespace Go.Proofs.YtpcmhbafcgineaaDoor
open Go Go.RowKit

theorem AttrsAt.below {B : Nat} {w w' : World} {ao : Option Addr} {l : List Attr} (h : AttrsAt w ao l) (hb : Below B w w') (hB : ∀ b o, ao = some ⟨b, o, none⟩ → b < B) : AttrsAt w' ao l := by
  rcases h with h | ⟨b, o, rfl, h⟩
  · exact Or.inl h
  · have hl := hB b o rfl
    exact Or.inr ⟨b, o, rfl, fun i hi => ⟨(hb.cell (p := ⟨b, _, none⟩) hl).trans (h i hi).1, (hb.cell (p := ⟨b, _, none⟩) hl).trans (h i hi).2⟩⟩
/-- The list's block is there (or the list is empty, and nothing is asked). -/
theorem AttrsAt.below' {w w' : World} {ao : Option Addr} {l : List Attr} (h : AttrsAt w ao l) (hb : Below w.heap.size w w') : AttrsAt w' ao l := by
  rcases h with h | ⟨b, o, rfl, h⟩
  · exact Or.inl h
  · cases l with
    | nil => exact Or.inl rfl
    | cons x r =>
      have hl := World.block_lt_of_cell? w _ (h 0 (by simp)).1
      exact AttrsAt.below (Or.inr ⟨b, o, rfl, h⟩) hb (fun b' o' e => by cases e; exact hl)
theorem AttrsAt.take {w : World} {ao : Option Addr} {l : List Attr} (h : AttrsAt w ao l) (k : Nat) : AttrsAt w ao (l.take k) := by
  rcases h with h | ⟨b, o, rfl, h⟩
  · exact Or.inl (by rw [h]; simp)
  · exact Or.inr ⟨b, o, rfl, fun i hi => by
      have hi' : i < l.length := by simp at hi; omega
      simpa using h i hi'⟩

theorem hasFn_any (n m : ByteArray) (k : Int) (b : Nat) (w : World) (hn : w.cell? ⟨b, 0, none⟩ = some (.string n)) :
    Calls Tryd.prog 46 #[.agg #[.string m, .int .i64 k], .pointer (some ⟨b, 0, none⟩)] w fun e w' => e = .returned (.bool (m.toList == n.toList)) ∧ Below w.heap.size w w' := by
  have hlt := World.block_lt_of_cell? w _ hn
  simp only at hlt
  go_enter Tryd.func46, Tryd.ntmps46
  go_wp2
  go_ret
  exact ⟨rfl, (Below.refl _ _).alloc (Nat.le_refl _) _⟩

/-- The first of them that has this name, or how many there are. -/
theorem hasB_take (l : List Attr) (n : ByteArray) (k : Nat) (hk : k < l.length) : hasB (l.take (k + 1)) n = (hasB (l.take k) n || l[k].1.toList == n.toList) := by
  unfold hasB
  rw [List.take_succ_eq_append_getElem hk, List.any_append]
  simp only [List.any_cons, List.any_nil, Bool.or_false]

theorem hasB_hit (l : List Attr) (n : ByteArray) (k : Nat) (hk : k < l.length) (h : (l[k].1.toList == n.toList) = true) : hasB l n = true := by
  unfold hasB
  rw [List.any_eq_true]
  exact ⟨l[k], List.getElem_mem hk, h⟩

set_option maxRecDepth 100000 in
theorem index_any (l : List Attr) (ao : Option Addr) (cap : Nat) (n : ByteArray) (p : Nat) (w : World) (hl : l.length ≤ 1000000) (hc : AttrsAt w ao l) (hn : w.cell? ⟨p, 0, none⟩ = some (.string n)) :
    Calls Tryd.prog 68 #[.slice ao l.length cap, .func (Fn.func 46) #[] #[.pointer (some ⟨p, 0, none⟩)]] w fun e w' => (∃ i : Int, e = .returned (.int .i64 i) ∧ decide (0 ≤ i) = hasB l n) ∧ Below w.heap.size w w' := by
  have hp := World.block_lt_of_cell? w _ hn
  simp only at hp
  obtain ⟨b, o, hcell⟩ : ∃ b o, ∀ i (h : i < l.length), ao = some ⟨b, o, none⟩ ∧ w.cell? ⟨b, o + i * 2, none⟩ = some (.string l[i].1) ∧ w.cell? ⟨b, o + i * 2 + 1, none⟩ = some (.int .i64 l[i].2) := by
    rcases hc with h | ⟨b, o, rfl, h⟩
    · exact ⟨0, 0, fun i hi => absurd hi (by simp [h])⟩
    · exact ⟨b, o, fun i hi => ⟨rfl, h i hi⟩⟩
  have HC := Lib.hid hcell
  clear hcell hc
  go_enter Tryd.func68, Tryd.ntmps68
  go_wp2
  go_loopw [5, 8] (fun _ i wr => ∃ k : Nat, k ≤ l.length ∧ i = .int .i64 k ∧ Below w.heap.size w wr ∧ hasB (l.take k) n = false) (fun _ i _ => l.length - (intOf i).toNat)
  case atStart => exact ⟨0, Nat.zero_le _, rfl, Below.refl _ _, by simp [hasB]⟩
  case round =>
    obtain ⟨k, hk, rfl, hbel, hno⟩ := hrel
    have HN := Lib.hid hno
    clear hno
    by_cases hlt : k < l.length
    · obtain ⟨hao, h1, h2⟩ := HC.out k hlt
      subst hao
      have hbl := World.block_lt_of_cell? w _ h1
      simp only at hbl
      have c1 := (hbel.cell (p := ⟨b, o + k * 2, none⟩) hbl).trans h1
      have c2 := (hbel.cell (p := ⟨b, o + k * 2 + 1, none⟩) hbl).trans h2
      have c3 := (hbel.cell (p := ⟨p, 0, none⟩) hp).trans hn
      clear h1 h2
      cases heq : (l[k].1.toList == n.toList)
      · have HT := Lib.hid (show hasB (l.take (k + 1)) n = false by rw [hasB_take l n k hlt, HN.out, heq]; rfl)
        go_wp2_with (go_at_call 46; refine (hasFn_any n _ _ p _ c3).mono ?_; rintro e w' ⟨rfl, hb2⟩)
        go_roundw
        case rel => exact ⟨k + 1, by omega, by go_num, hbel.trans (hb2.mono hbel.size), HT.out⟩
        case measure => simp [intOf]; omega
      · have HT := Lib.hid (hasB_hit l n k hlt heq)
        go_wp2_with (go_at_call 46; refine (hasFn_any n _ _ p _ c3).mono ?_; rintro e w' ⟨rfl, hb2⟩)
        go_ret
        exact ⟨⟨k, rfl, by rw [HT.out]; simp⟩, hbel.trans (hb2.mono hbel.size)⟩
    · have HT := Lib.hid (show hasB l n = false by have := HN.out; rwa [List.take_of_length_le (by omega)] at this)
      go_wp2
      go_ret
      exact ⟨⟨-1, rfl, by rw [HT.out]; decide⟩, hbel⟩

theorem contains_any (l : List Attr) (ao : Option Addr) (cap : Nat) (n : ByteArray) (p : Nat) (w : World) (hl : l.length ≤ 1000000) (hc : AttrsAt w ao l) (hn : w.cell? ⟨p, 0, none⟩ = some (.string n)) :
    Calls Tryd.prog 45 #[.slice ao l.length cap, .func (Fn.func 46) #[] #[.pointer (some ⟨p, 0, none⟩)]] w fun e w' => e = .returned (.bool (hasB l n)) ∧ Below w.heap.size w w' := by
  go_enter Tryd.func45, Tryd.ntmps45
  go_wp2_with (go_at_call 68; refine (index_any l ao cap n p _ hl hc hn).mono ?_; rintro e w' ⟨⟨i, rfl, hi⟩, hb⟩; have HI := Lib.hid hi; clear hi)
  go_ret
  exact ⟨ret_bool HI.out, hb⟩

theorem has_any (l : List Attr) (ao : Option Addr) (cap : Nat) (n : ByteArray) (w : World) (hl : l.length ≤ 1000000) (hc : AttrsAt w ao l) :
    Calls Tryd.prog 32 #[.slice ao l.length cap, .string n] w fun e w' => e = .returned (.bool (hasB l n)) ∧ Below w.heap.size w w' := by
  have hc2 : AttrsAt (w.alloc (Obj.cells #[Value.string n] 9)) ao l := hc.below' ((Below.refl _ _).alloc (Nat.le_refl _) _)
  have HC := Lib.hid hc2
  clear hc hc2
  go_enter Tryd.func32, Tryd.ntmps32
  go_wp2_with (go_at_call 45; refine (contains_any l ao cap n _ _ hl HC.out (by simp)).mono ?_; rintro e w' ⟨rfl, hb⟩)
  go_ret
  exact ⟨rfl, ((Below.refl _ _).alloc (Nat.le_refl _) _).trans (hb.mono (by simp))⟩
end Go.Proofs.YtpcmhbafcgineaaDoor
