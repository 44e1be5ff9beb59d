/- Package token, the scanner: its place, and what its steps leave. -/
import Derived.Test.YtaipljdpkgdheaaDoorBase
import Derived.Lib.IndexBytes
namespace Go.Proofs.YtaipljdpkgdheaaDoor
open Go Go.RowKit

/-- What stands from a place on. -/
def restB (t : ByteArray) (p : Nat) : List UInt8 := t.data.toList.drop p
theorem rest_len (t : ByteArray) (p : Nat) : (restB t p).length = t.size - p := by unfold restB; rw [List.length_drop]; rfl
theorem rest_drop (t : ByteArray) (p k : Nat) : (restB t p).drop k = restB t (p + k) := by unfold restB; rw [List.drop_drop]
theorem rest_extract (t : ByteArray) (p : Nat) : (t.extract p t.size).data.toList = restB t p := by
  unfold restB
  simp only [ByteArray.data_extract, Array.toList_extract, List.extract]
  rw [List.take_of_length_le]
  rw [List.length_drop]
  exact Nat.le_refl _
/-- The reader: its text and its place. -/
structure ReadAt (w : World) (rb : Nat) (t : ByteArray) (p : Nat) : Prop where
  c0 : w.cell? ⟨rb, 0, none⟩ = some (.string t)
  c1 : w.cell? ⟨rb, 1, none⟩ = some (.int .i64 p)
  f1 : w.frozen? ⟨rb, 1, none⟩ = false
theorem ReadAt.lt {w : World} {rb : Nat} {t : ByteArray} {p : Nat} (h : ReadAt w rb t p) : rb < w.heap.size := World.block_lt_of_cell? w _ h.c0
theorem ReadAt.below {w w' : World} {rb : Nat} {t : ByteArray} {p : Nat} (h : ReadAt w rb t p) (hb : Below w.heap.size w w') : ReadAt w' rb t p :=
  ⟨(hb.cell (p := ⟨rb, 0, none⟩) h.lt).trans h.c0, (hb.cell (p := ⟨rb, 1, none⟩) h.lt).trans h.c1, (hb.frozen (p := ⟨rb, 1, none⟩) h.lt).trans h.f1⟩
theorem ReadAt.set {w : World} {rb : Nat} {t : ByteArray} {p : Nat} (h : ReadAt w rb t p) (q : Nat) : ReadAt (w.setCell ⟨rb, 1, none⟩ (.int .i64 q)) rb t q :=
  ⟨(World.cell?_setCell_other _ _ _ _ (by intro e; injection e; omega)).trans h.c0, World.cell?_setCell_same _ _ _ h.c1, (World.frozen?_setCell _ _ _ _).trans h.f1⟩
/-- The world as it was, but for the reader's place, which is q, and for what is new. -/
def ReadTo (rb : Nat) (w w' : World) (q : Nat) : Prop := Below w.heap.size (w.setCell ⟨rb, 1, none⟩ (.int .i64 q)) w'
theorem ReadTo.of {rb : Nat} {w w1 : World} {q : Nat} (h : Below w.heap.size w w1) : ReadTo rb w (w1.setCell ⟨rb, 1, none⟩ (.int .i64 q)) q := below_set h _ _
theorem ReadTo.size {rb : Nat} {w w' : World} {q : Nat} (h : ReadTo rb w w' q) : w.heap.size ≤ w'.heap.size := by
  have := Below.size h
  rwa [size_set] at this
theorem ReadTo.trans {rb : Nat} {w w' w'' : World} {q q' : Nat} (h : ReadTo rb w w' q) (h' : ReadTo rb w' w'' q') : ReadTo rb w w'' q' := by
  have h1 := below_set h ⟨rb, 1, none⟩ (.int .i64 q')
  rw [set_set] at h1
  exact Below.trans h1 (Below.mono h' h.size)
theorem ReadTo.below {rb : Nat} {w w' w'' : World} {q : Nat} (h : ReadTo rb w w' q) (h' : Below w'.heap.size w' w'') : ReadTo rb w w'' q := Below.trans h (Below.mono h' h.size)
theorem ReadTo.pre {rb : Nat} {w w' w'' : World} {q : Nat} (h : Below w.heap.size w w') (h' : ReadTo rb w' w'' q) : ReadTo rb w w'' q := Below.trans (below_set h _ _) (Below.mono h' h.size)
theorem ReadTo.place {rb : Nat} {w w' : World} {t : ByteArray} {p q : Nat} (h : ReadTo rb w w' q) (hr : ReadAt w rb t p) : ReadAt w' rb t q := by
  have h1 := hr.set q
  have e := size_set w ⟨rb, 1, none⟩ (.int .i64 q)
  refine h1.below ?_
  rw [e]
  exact h
theorem ReadTo.cell {rb b o : Nat} {w w' : World} {q : Nat} (h : ReadTo rb w w' q) (hp : b < w.heap.size) (hne : rb ≠ b) : w'.cell? ⟨b, o, none⟩ = w.cell? ⟨b, o, none⟩ :=
  (Below.cell h (p := ⟨b, o, none⟩) hp).trans (World.cell?_setCell_other _ _ _ _ (by intro e; injection e; omega))
theorem ReadTo.grown {rb : Nat} {w w' w'' : World} {q : Nat} {row : Option Nat} (h : ReadTo rb w w' q) (hg : w'.grownBy w'' row) (hr : ∀ k, row = some k → w.heap.size ≤ k) : ReadTo rb w w'' q := Below.grown h hg h.size hr
theorem own_to {rb : Nat} {w w' : World} {q base : Nat} {e : TypeId} {size : Nat} {v : Value} {n : Nat} {xs : List Value} (h : ReadTo rb w w' q) (ho : w.ownsRow base e size v n xs) (hb : rb < base) : w'.ownsRow base e size v n xs := by
  have h1 := ownsRow_setCell_below ho (a := ⟨rb, 1, none⟩) (by simpa using hb) (.int .i64 q)
  refine owns_below h1 ?_
  rw [size_set]
  exact h
/-- Where the place has not turned. -/
theorem ReadTo.stay {rb : Nat} {w : World} {t : ByteArray} {p : Nat} (h : ReadAt w rb t p) : ReadTo rb w w p := by
  have e : w.setCell ⟨rb, 1, none⟩ (.int .i64 p) = w := by
    have hc := h.c1
    have hf : ∀ k : Nat, (w.setCell ⟨rb, 1, none⟩ (.int .i64 (p : Int))).heap[k]? = w.heap[k]? := by
      intro k
      by_cases hk : k = rb
      · subst hk
        cases hb : w.heap[k]? with
        | none => simp [World.cell?, hb] at hc
        | some ob =>
          cases ob with
          | cells cs ty fr =>
            simp [World.cell?, hb] at hc
            simp only [World.setCell, Array.getElem?_modify, if_true, hb, Option.map_some, Option.isSome_none, Bool.false_eq_true, if_false]
            congr 2
            apply Array.ext_getElem?
            intro i
            rw [Array.getElem?_setIfInBounds]
            split
            · subst_vars
              rw [hc]
              have hl := (Array.getElem?_eq_some_iff.1 hc).1
              simp [hl]
            · rfl
          | _ => simp [World.cell?, hb] at hc
      · exact Below.heap_setCell _ _ _ _ (fun e => hk e)
    have h2 : (w.setCell ⟨rb, 1, none⟩ (.int .i64 (p : Int))).heap = w.heap := Array.ext_getElem? hf
    have h3 : w.setCell ⟨rb, 1, none⟩ (.int .i64 (p : Int)) = { w with heap := (w.setCell ⟨rb, 1, none⟩ (.int .i64 (p : Int))).heap } := rfl
    rw [h3, h2]
  unfold ReadTo
  rw [e]
  exact Below.refl _ _

theorem rest_suffix {t : ByteArray} {s : List UInt8} (h : s <:+ t.data.toList) : restB t (t.size - s.length) = s := by
  obtain ⟨u, hu⟩ := h
  have hl : t.size = u.length + s.length := by
    rw [← List.length_append, hu]; rfl
  unfold restB
  rw [← hu, hl, Nat.add_sub_cancel, List.drop_left]
theorem rest_is_suffix (t : ByteArray) (p : Nat) : restB t p <:+ t.data.toList := List.drop_suffix _ _
theorem place_of {t : ByteArray} {p : Nat} (hp : p ≤ t.size) : t.size - (restB t p).length = p := by rw [rest_len]; omega
theorem rest_head {t : ByteArray} {p : Nat} (h : p < t.size) : (restB t p).head? = some (t[p]'h) := by
  unfold restB
  rw [List.head?_drop]
  exact Lib.data_getElem? t p h

theorem rest_cons {t : ByteArray} {q : Nat} (h : q < t.size) : restB t q = (t[q]'h) :: restB t (q + 1) := by
  have h1 := rest_head h
  have h2 := rest_drop t q 1
  cases hl : restB t q with
  | nil => rw [hl] at h1; cases h1
  | cons a l =>
    rw [hl] at h1 h2
    simp only [List.head?_cons, Option.some.injEq] at h1
    simp only [List.drop_one, List.tail_cons] at h2
    rw [h1, h2]

theorem owned_form {w : World} {base e size n : Nat} {v : Value} {xs : List Value} (h : w.ownsRow base e size v n xs) : ∃ va cap, v = .slice va n cap := by
  rcases h.2 with ⟨e, h0⟩ | ⟨g, cap', cur, e, _⟩
  · exact ⟨none, 0, by rw [e, h0]⟩
  · exact ⟨_, _, e⟩
/-- What the call owns, as a string. -/
theorem conv_owned {w : World} {B cap : Nat} {va : Option Addr} {c : List UInt8} (h : w.ownsRow B 5 1 (.slice va c.length cap) c.length (bytesC c)) : (convert 22 9 (.slice va c.length cap)).run Tryd.prog w = .ok (.string ⟨c.toArray⟩) w := by
  rcases owned_case h with ⟨h0, rfl, rfl⟩ | ⟨g, rfl⟩
  · obtain rfl := List.eq_nil_of_length_eq_zero h0
    rw [run_convert_bytes_string w 22 9 5 none _ 0 Tryd.underlying22 Tryd.underlying5 Tryd.underlying9]
    rfl
  · refine run_convert_bytes_back (P := Tryd.prog) w 22 9 5 ⟨g, 0, none⟩ cap c Tryd.underlying22 Tryd.underlying5 Tryd.underlying9 (fun j hj => ?_)
    have hc := h.cells (g := g) rfl j (.int .u8 (c[j].toNat : Int)) (by rw [bytesC_get c j hj])
    rw [hc]
end Go.Proofs.YtaipljdpkgdheaaDoor
