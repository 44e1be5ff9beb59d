/- Plain functions on types: what is wrong with a type. No program is named here. -/
import Derived.Test.YtpcmhbafcgineaaDoorSpec
namespace Go.Proofs.YtpcmhbafcgineaaDoor
open Go

/-- The kinds' words, as the table's cells hold them. -/
def kindCells : Array Value := #[.string ⟨#[]⟩, .string ⟨#[73, 78, 84]⟩, .string ⟨#[83, 84, 82]⟩, .string ⟨#[66, 79, 79, 76]⟩]
/-- A kind's word. -/
def kindWordB (k : Int) : ByteArray := if k = 1 then ⟨#[73, 78, 84]⟩ else if k = 2 then ⟨#[83, 84, 82]⟩ else if k = 3 then ⟨#[66, 79, 79, 76]⟩ else ⟨#[]⟩
/-- What is wrong with one attribute, those ahead of it being given. -/
def attrFault (pre : List Attr) (a : Attr) : Int := if attrNameB a.1 then (if 1 ≤ a.2 ∧ a.2 ≤ 3 then (if hasB pre a.1 then 5 else 0) else 24) else 20
/-- What is wrong with the attributes. -/
def attrsFault (pre : List Attr) : List Attr → Int
  | [] => 0
  | a :: r => if attrFault pre a = 0 then attrsFault (pre ++ [a]) r else attrFault pre a
/-- What is wrong with a type. -/
def faultB (n : ByteArray) (l : List Attr) : Int := if nameB n then (if l.length ≤ 16 then attrsFault [] l else 2) else 20

theorem attrsFault_step (l : List Attr) (k : Nat) (hk : k < l.length) : attrsFault (l.take k) (l.drop k) = if attrFault (l.take k) l[k] = 0 then attrsFault (l.take (k + 1)) (l.drop (k + 1)) else attrFault (l.take k) l[k] := by
  rw [List.drop_eq_getElem_cons hk, attrsFault, ← List.take_succ_eq_append_getElem hk]

end Go.Proofs.YtpcmhbafcgineaaDoor
