/- Package token: tokens that came in; their texts with blanks between. -/
import Derived.Test.YtaipljdpkgdheaaDoorMayBe
namespace Go.Proofs.YtaipljdpkgdheaaDoor
open Go Go.RowKit

/-- A token that is handed in. -/
structure Tok where
  kind : Int
  str : ByteArray
  pos : Int
def Tok.v (t : Tok) : Value := .agg #[.int .i64 t.kind, .string t.str, .int .i64 t.pos]
def Tok.cells (t : Tok) : List Value := [.int .i64 t.kind, .string t.str, .int .i64 t.pos]
/-- The tokens that an address leads to. -/
def ToksAt (w : World) (ao : Option Addr) (l : List Tok) : Prop :=
  l = [] ∨ ∃ b o, ao = some ⟨b, o, none⟩ ∧ ∀ i (h : i < l.length), w.cell? ⟨b, o + i * 3, none⟩ = some (.int .i64 l[i].kind) ∧ w.cell? ⟨b, o + i * 3 + 1, none⟩ = some (.string l[i].str) ∧ w.cell? ⟨b, o + i * 3 + 2, none⟩ = some (.int .i64 l[i].pos)
theorem ToksAt.below {w w' : World} {ao : Option Addr} {l : List Tok} (h : ToksAt w ao l) (hb : Below w.heap.size w w') : ToksAt w' ao l := by
  rcases h with h | ⟨b, o, rfl, h⟩
  · exact Or.inl h
  · exact Or.inr ⟨b, o, rfl, fun i hi => by
      obtain ⟨h0, h1, h2⟩ := h i hi
      have hl := World.block_lt_of_cell? w _ h0
      exact ⟨(hb.cell (p := ⟨b, o + i * 3, none⟩) hl).trans h0, (hb.cell (p := ⟨b, o + i * 3 + 1, none⟩) hl).trans h1, (hb.cell (p := ⟨b, o + i * 3 + 2, none⟩) hl).trans h2⟩⟩
/-- Texts with blanks between. -/
def joinL : List (List UInt8) → List UInt8
  | [] => []
  | [x] => x
  | x :: y :: r => x ++ 32 :: joinL (y :: r)
theorem joinL_snoc : ∀ (l : List (List UInt8)) (x : List UInt8), joinL (l ++ [x]) = if l = [] then x else joinL l ++ 32 :: x
  | [], x => rfl
  | [a], x => rfl
  | a :: b :: r, x => by
    have ih := joinL_snoc (b :: r) x
    simp only [List.cons_append, joinL, reduceCtorEq, if_false] at ih ⊢
    rw [ih]
    simp
theorem joinL_take_le : ∀ (l : List (List UInt8)) (k : Nat), (joinL (l.take k)).length ≤ (joinL l).length
  | [], k => by simp
  | [a], k => by cases k <;> simp [joinL]
  | a :: b :: r, 0 => by simp [joinL]
  | a :: b :: r, 1 => by simp [joinL]
  | a :: b :: r, k + 2 => by
    have ih := joinL_take_le (b :: r) (k + 1)
    simp only [List.take_succ_cons, joinL, List.length_append, List.length_cons] at ih ⊢
    omega
def Tok.wr (t : Tok) : List UInt8 := writtenB t.kind t.str.data.toList
/-- A token that can be and is not the end. -/
structure TokOk (t : Tok) : Prop where
  may : mayB t.kind t.str.data.toList = true
  noEnd : ¬ t.kind = 5
  str : t.str.size ≤ 256
  sign : t.kind = 4 → t.str.size ≠ 0
/-- The text ahead of the k-th token, with its blank. -/
def frontL (k : Nat) (l : List (List UInt8)) : List UInt8 := if k = 0 then [] else joinL (l.take k) ++ [32]
theorem front_step (l : List (List UInt8)) (k : Nat) (hk : k < l.length) : joinL (l.take (k + 1)) = frontL k l ++ l[k] := by
  rw [List.take_succ_eq_append_getElem hk, joinL_snoc]
  unfold frontL
  cases k with
  | zero => simp
  | succ k =>
    rw [if_neg (by intro h; have := congrArg List.length h; rw [List.length_take] at this; rw [List.length_nil] at this; omega), if_neg (by omega)]
    simp
end Go.Proofs.YtaipljdpkgdheaaDoor
