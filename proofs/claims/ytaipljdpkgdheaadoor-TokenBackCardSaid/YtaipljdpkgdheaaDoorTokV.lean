/- Package token: a token in memory; the scanner's frame while it reads a string. -/
import Derived.Test.YtaipljdpkgdheaaDoorChar
namespace Go.Proofs.YtaipljdpkgdheaaDoor
open Go Go.RowKit

theorem below_own {B : Nat} {w w' : World} (h : Below B w w') {b : Nat} (hb : B ≤ b) (o : Nat) (x : Value) : Below B w (w'.setCell ⟨b, o, none⟩ x) :=
  h.trans ⟨rfl, rfl, rfl, by simp [World.setCell], fun k hk => Below.heap_setCell _ _ _ _ (fun e => by simp only at e; omega)⟩
structure Cells3 (w : World) (b : Nat) (v0 v1 v2 : Value) : Prop where
  c0 : w.cell? ⟨b, 0, none⟩ = some v0
  c1 : w.cell? ⟨b, 1, none⟩ = some v1
  c2 : w.cell? ⟨b, 2, none⟩ = some v2
  f0 : w.frozen? ⟨b, 0, none⟩ = false
  f1 : w.frozen? ⟨b, 1, none⟩ = false
  f2 : w.frozen? ⟨b, 2, none⟩ = false
theorem Cells3.of {w : World} {b : Nat} {v0 v1 v2 : Value} {t : TypeId} (h : w.heap[b]? = some (Obj.cells #[v0, v1, v2] t (0, 0))) : Cells3 w b v0 v1 v2 :=
  ⟨by simp [World.cell?, h], by simp [World.cell?, h], by simp [World.cell?, h], by simp [World.frozen?, h], by simp [World.frozen?, h], by simp [World.frozen?, h]⟩
theorem Cells3.made (w : World) (v0 v1 v2 : Value) (t : TypeId) : Cells3 (w.alloc (Obj.cells #[v0, v1, v2] t)) w.heap.size v0 v1 v2 := Cells3.of (heap_alloc_new _ _)
theorem Cells3.keep {w w' : World} {b : Nat} {v0 v1 v2 : Value} (h : Cells3 w b v0 v1 v2) (hh : w'.heap[b]? = w.heap[b]?) : Cells3 w' b v0 v1 v2 :=
  ⟨(World.cell?_of_block (a := ⟨b, 0, none⟩) hh).trans h.c0, (World.cell?_of_block (a := ⟨b, 1, none⟩) hh).trans h.c1, (World.cell?_of_block (a := ⟨b, 2, none⟩) hh).trans h.c2,
   (World.frozen?_of_block (a := ⟨b, 0, none⟩) hh).trans h.f0, (World.frozen?_of_block (a := ⟨b, 1, none⟩) hh).trans h.f1, (World.frozen?_of_block (a := ⟨b, 2, none⟩) hh).trans h.f2⟩
theorem Cells3.lt {w : World} {b : Nat} {v0 v1 v2 : Value} (h : Cells3 w b v0 v1 v2) : b < w.heap.size := World.block_lt_of_cell? w _ h.c0
/-- A token as a value. -/
def tokV (k : Int) (s : List UInt8) (a : Nat) : Value := .agg #[.int .i64 k, .string ⟨s.toArray⟩, .int .i64 a]
/-- What quoted answers of the string whose first byte is at p. -/
def quotV (p : Nat) (X : StrX) : Value := .tuple #[if X.err = 0 then tokV 3 X.bytes p else tokV 0 [] 0, .int .i64 X.err]
def quotAt (n p : Nat) (X : StrX) : Nat := if X.here then n - X.rest.length else p
/-- The world while a string is read: the scanner is at q, the bytes read lie in a row of the call's own, the token to come is empty. -/
structure QS (rb : Nat) (w0 w : World) (q : Nat) (v : Value) (acc : List UInt8) : Prop where
  rd : ReadTo rb w0 w q
  own : w.ownsRow (w0.heap.size + 1) 5 1 v acc.length (bytesC acc)
  tok : Cells3 w w0.heap.size (.int .i64 0) (.string ⟨#[]⟩) (.int .i64 0)
theorem QS.below {rb : Nat} {w0 w w' : World} {q : Nat} {v : Value} {acc : List UInt8} (h : QS rb w0 w q v acc) (hb : Below w.heap.size w w') : QS rb w0 w' q v acc :=
  ⟨h.rd.below hb, owns_below h.own hb, h.tok.keep (hb.block _ h.tok.lt)⟩
theorem QS.set {rb : Nat} {w0 w : World} {q : Nat} {v : Value} {acc : List UInt8} (h : QS rb w0 w q v acc) (hrb : rb < w0.heap.size) (q' : Nat) : QS rb w0 (w.setCell ⟨rb, 1, none⟩ (.int .i64 q')) q' v acc :=
  ⟨h.rd.trans (ReadTo.of (Below.refl _ _)), ownsRow_setCell_below h.own (a := ⟨rb, 1, none⟩) (by simp only; omega) _, h.tok.keep (Below.heap_setCell _ _ _ _ (fun e => by simp only at e; omega))⟩
theorem QS.grown {rb : Nat} {w0 w w' : World} {q : Nat} {v : Value} {acc : List UInt8} (h : QS rb w0 w q v acc) {v' : Value} {acc' : List UInt8} (hg : w.grownBy w' v.ownBlock) (ho : w'.ownsRow (w0.heap.size + 1) 5 1 v' acc'.length (bytesC acc')) : QS rb w0 w' q v' acc' :=
  ⟨h.rd.grown hg (fun k hk => by have := ownBlock_lo h.own k hk; omega), ho, h.tok.keep (hg.block _ h.tok.lt (fun e => by have := ownBlock_lo h.own _ e.symm; omega))⟩
end Go.Proofs.YtaipljdpkgdheaaDoor
