/- The law's gap: blanks of some kind. -/
import Derived.Test.YtpcmhbafcgineaaDoorTyped
namespace Go.Proofs.YtpcmhbafcgineaaDoor
open Go Go.RowKit

/-- The cells of some bytes lie from an address on. -/
def BytesAt (w : World) (ao : Option Addr) (l : List UInt8) : Prop :=
  l = [] ∨ ∃ b o, ao = some ⟨b, o, none⟩ ∧ ∀ i (h : i < l.length), w.cell? ⟨b, o + i, none⟩ = some (.int .u8 (l[i].toNat : Int))
theorem BytesAt.below {w w' : World} {ao : Option Addr} {l : List UInt8} (h : BytesAt w ao l) (hb : Below w.heap.size w w') : BytesAt w' ao l := by
  rcases h with h | ⟨b, o, rfl, h⟩
  · exact Or.inl h
  · exact Or.inr ⟨b, o, rfl, fun i hi => by
      have hl := World.block_lt_of_cell? w _ (h i hi)
      exact (hb.cell (p := ⟨b, o + i, none⟩) hl).trans (h i hi)⟩
def gapW (r : Nat) : ByteArray := match r with
  | 0 => ⟨#[]⟩ | 1 => ⟨#[32]⟩ | 2 => ⟨#[10]⟩ | 3 => ⟨#[9, 32]⟩ | 4 => ⟨#[13, 10]⟩ | _ => ⟨#[32, 32, 32]⟩
/-- The blanks at a place. -/
def gapR (sp : List UInt8) (k : Nat) : ByteArray := if k < sp.length then gapW ((sp.getD k 0).toNat % 6) else ⟨#[]⟩
def gapB (sp : List UInt8) (k : Nat) (some : Bool) : ByteArray := if some && (gapR sp k).toList == [] then ⟨#[32]⟩ else gapR sp k
theorem gapW_nil (r : Nat) : ((gapW r).toList == []) = (r == 0) := by
  match r with
  | 0 | 1 | 2 | 3 | 4 => rw [ByteArray.toList_eq]; rfl
  | n + 5 => rw [ByteArray.toList_eq]; rfl

set_option maxHeartbeats 8000000 in
set_option maxRecDepth 100000 in
theorem gap_any (sp : List UInt8) (so : Option Addr) (sc k : Nat) (sm : Bool) (w : World) (hs : BytesAt w so sp) :
    Calls Tryd.prog 15 #[.slice so sp.length sc, .int .i64 k, .bool sm] w fun e w' => e = .returned (.string (gapB sp k sm)) ∧ Below w.heap.size w w' := by
  by_cases hlt : k < sp.length
  · obtain ⟨b, o, rfl, hc⟩ : ∃ b o, so = some ⟨b, o, none⟩ ∧ ∀ i (h : i < sp.length), w.cell? ⟨b, o + i, none⟩ = some (.int .u8 (sp[i].toNat : Int)) := by
      rcases hs with h | h
      · rw [h] at hlt; simp at hlt
      · exact h
    have hck := hc k hlt
    have hbl := World.block_lt_of_cell? w _ hck
    simp only at hbl
    obtain ⟨x, hx⟩ : ∃ x, x = sp[k] := ⟨_, rfl⟩
    rw [← hx] at hck
    have hx8 := x.toNat_lt
    obtain ⟨r, hr⟩ : ∃ r, r = x.toNat % 6 := ⟨_, rfl⟩
    have hr6 : r < 6 := by omega
    have hm : (x.toNat : Int) % 6 = (r : Int) := by omega
    have HG := Lib.hid (show gapR sp k = gapW r by unfold gapR; rw [if_pos hlt, hr, hx]; simp [List.getD, List.getElem?_eq_getElem hlt])
    have x0 : (0 : Int) ≤ (x.toNat : Int) := by omega
    have x1 : (x.toNat : Int) ≤ 255 := by omega
    clear hx hr hs hc
    have hr' : r = 0 ∨ r = 1 ∨ r = 2 ∨ r = 3 ∨ r = 4 ∨ r = 5 := by omega
    rcases hr' with rfl | rfl | rfl | rfl | rfl | rfl
    all_goals
      cases sm
      all_goals
        go_enter Tryd.func15, Tryd.ntmps15
        go_wp2_with fail
        go_ret
        exact ⟨by unfold gapB; rw [HG.out, gapW_nil]; rfl, (Below.refl _ _).alloc (Nat.le_refl _) _⟩
  · have HG := Lib.hid (show gapR sp k = ⟨#[]⟩ by unfold gapR; rw [if_neg hlt])
    have HG2 := Lib.hid (show ((⟨#[]⟩ : ByteArray).toList == []) = true by rw [ByteArray.toList_eq]; rfl)
    cases sm
    all_goals
      go_enter Tryd.func15, Tryd.ntmps15
      go_wp2_with fail
      go_ret
      exact ⟨by unfold gapB; rw [HG.out, HG2.out]; rfl, (Below.refl _ _).alloc (Nat.le_refl _) _⟩
end Go.Proofs.YtpcmhbafcgineaaDoor
