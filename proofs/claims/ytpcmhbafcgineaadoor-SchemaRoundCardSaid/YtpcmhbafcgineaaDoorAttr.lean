/- Package schema, the frame of the reader's steps: the world as it was, but for the reader's place and for what is new. -/
import Derived.Test.YtpcmhbafcgineaaDoorTypeName
import Derived.Test.YtpcmhbafcgineaaDoorWords
namespace Go.Proofs.YtpcmhbafcgineaaDoor
open Go Go.RowKit

theorem below_set {B : Nat} {w w' : World} (h : Below B w w') (a : Addr) (x : Value) : Below B (w.setCell a x) (w'.setCell a x) :=
  ⟨h.os, h.tape, h.output, by simpa [World.setCell] using h.size, fun k hk => by simp [World.setCell, Array.getElem?_modify, h.block k hk]⟩
theorem set_set (w : World) (b o : Nat) (x y : Value) : (w.setCell ⟨b, o, none⟩ x).setCell ⟨b, o, none⟩ y = w.setCell ⟨b, o, none⟩ y := by
  have e : ∀ k : Nat, ((w.setCell ⟨b, o, none⟩ x).setCell ⟨b, o, none⟩ y).heap[k]? = (w.setCell ⟨b, o, none⟩ y).heap[k]? := by
    intro k
    simp only [World.setCell, Array.getElem?_modify]
    split
    · cases h : w.heap[k]? with
      | none => rfl
      | some ob => cases ob <;> simp
    · rfl
  have h : ((w.setCell ⟨b, o, none⟩ x).setCell ⟨b, o, none⟩ y).heap = (w.setCell ⟨b, o, none⟩ y).heap := Array.ext_getElem? e
  have h2 : (w.setCell ⟨b, o, none⟩ x).setCell ⟨b, o, none⟩ y = { (w.setCell ⟨b, o, none⟩ y) with heap := ((w.setCell ⟨b, o, none⟩ x).setCell ⟨b, o, none⟩ y).heap } := rfl
  rw [h2, h]
/-- The world as it was, but for the reader's place, which is q, and for what is new. -/
def ReadTo (rb : Nat) (w w' : World) (q : Nat) : Prop := Below w.heap.size (w.setCell ⟨rb, 1, none⟩ (.int .i64 q)) w'
theorem size_set (w : World) (a : Addr) (x : Value) : (w.setCell a x).heap.size = w.heap.size := by simp [World.setCell]
theorem ReadTo.of {rb : Nat} {w w1 : World} {q : Nat} (h : Below w.heap.size w w1) : ReadTo rb w (w1.setCell ⟨rb, 1, none⟩ (.int .i64 q)) q := below_set h _ _
theorem ReadTo.size {rb : Nat} {w w' : World} {q : Nat} (h : ReadTo rb w w' q) : w.heap.size ≤ w'.heap.size := by
  have := Below.size h
  rwa [size_set] at this
theorem ReadTo.trans {rb : Nat} {w w' w'' : World} {q q' : Nat} (h : ReadTo rb w w' q) (h' : ReadTo rb w' w'' q') : ReadTo rb w w'' q' := by
  have h1 := below_set h ⟨rb, 1, none⟩ (.int .i64 q')
  rw [set_set] at h1
  exact Below.trans h1 (Below.mono h' h.size)
theorem ReadTo.below {rb : Nat} {w w' w'' : World} {q : Nat} (h : ReadTo rb w w' q) (h' : Below w'.heap.size w' w'') : ReadTo rb w w'' q := Below.trans h (Below.mono h' h.size)
theorem ReadTo.pre {rb : Nat} {w w' w'' : World} {q : Nat} (h : Below w.heap.size w w') (h' : ReadTo rb w' w'' q) : ReadTo rb w w'' q := Below.trans (below_set h _ _) (Below.mono h' h.size)
theorem ReadTo.place {rb : Nat} {w w' : World} {t : ByteArray} {p q : Nat} (h : ReadTo rb w w' q) (hr : ReadAt w rb t p) : ReadAt w' rb t q := by
  have h1 := hr.set q
  have e := size_set w ⟨rb, 1, none⟩ (.int .i64 q)
  refine h1.below ?_
  rw [e]
  exact h
theorem ReadTo.cell {rb b o : Nat} {w w' : World} {q : Nat} (h : ReadTo rb w w' q) (hp : b < w.heap.size) (hne : rb ≠ b) : w'.cell? ⟨b, o, none⟩ = w.cell? ⟨b, o, none⟩ :=
  (Below.cell h (p := ⟨b, o, none⟩) hp).trans (World.cell?_setCell_other _ _ _ _ (by intro e; injection e; omega))
theorem ReadTo.frozen {rb b o : Nat} {w w' : World} {q : Nat} (h : ReadTo rb w w' q) (hp : b < w.heap.size) : w'.frozen? ⟨b, o, none⟩ = w.frozen? ⟨b, o, none⟩ :=
  (Below.frozen h (p := ⟨b, o, none⟩) hp).trans (World.frozen?_setCell _ _ _ _)
theorem kind_to {rb : Nat} {w w' : World} {q : Nat} (h : ReadTo rb w w' q) (hk : KindAt w) (hne : 1 ≠ rb) : KindAt w' := by
  have hl := hk.lt
  obtain ⟨ty, fr, hg⟩ := hk
  refine ⟨ty, fr, (h.block _ hl).trans ?_⟩
  rw [Below.heap_setCell _ _ _ _ hne]
  exact hg

end Go.Proofs.YtpcmhbafcgineaaDoor
