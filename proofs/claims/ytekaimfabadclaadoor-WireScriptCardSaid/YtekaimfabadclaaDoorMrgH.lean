/- Texts put together: Laid1. -/
import Derived.Test.YtekaimfabadclaaDoorRows
import Derived.ProofKit
import Derived.LaidMore
import Derived.OpenShut
import Derived.Lib.LaidTab
import Derived.Test.YtekaimfabadclaaDoorMrgA
import Derived.Test.YtekaimfabadclaaDoorMrgB
import Derived.Test.YtekaimfabadclaaDoorMrgC
import Derived.Test.YtekaimfabadclaaDoorMrgD
import Derived.Test.YtekaimfabadclaaDoorMrgE
import Derived.Test.YtekaimfabadclaaDoorMrgF
import Derived.Test.YtekaimfabadclaaDoorMrgG
/- What the rows' list of package-level variables gives: the table of the words of the language lies in its variable. -/
namespace Go.Proofs.YtekaimfabadclaaDoor
open Go Go.RowKit

/-- An array of strings that reads as these strings holds just these, cell for cell. -/
theorem cells_of_strs {H : Type} {enc : TypeId × Value → H} {P : Program} {w : World} {base : Nat} {sp : Nat → Bool} {held : Bool} {fuel : Nat} {t e : TypeId} {cs : List Value} {ls : List (List UInt8)} {p : List MemPlace}
    (ht : P.underlying t = some (.array ls.length e)) (he : P.underlying e = some .string) (hce : P.cellsOf e = 1) (hct : P.cellsOf t = ls.length)
    (h : DataW.trod enc P w base sp held fuel t cs = some (.agg (ls.map fun l => .lit (.string l)), p)) : cs = ls.map fun l => Value.string ⟨l.toArray⟩ := by
  obtain ⟨xs, m, rfl, hx, hlen, hn, hel⟩ := DataW.trod_array ht h
  simp only [Prod.mk.injEq, DataW.agg.injEq] at hx
  apply List.ext_getElem?
  intro i
  by_cases hi : i < ls.length
  · have h1 := hel i hi
    have hxi : i < xs.length := by omega
    rw [hce, Nat.mul_one, List.getElem?_eq_getElem hxi] at h1
    obtain ⟨s, e1, e2, _⟩ := DataW.trod_string he h1
    have e3 : (xs.map (·.1))[i]? = some (.lit (.string s.data.toList)) := by simp [List.getElem?_eq_getElem hxi, e2]
    rw [← hx.1] at e3
    simp only [List.getElem?_map, List.getElem?_eq_getElem hi, Option.map_some, Option.some.injEq, DataW.lit.injEq, Lit.string.injEq] at e3
    have e4 : cs[i]? = some (.string s) := by
      have := congrArg (fun l => l[0]?) e1
      simpa using this
    rw [e4]
    simp only [List.getElem?_map, List.getElem?_eq_getElem hi, Option.map_some, e3]
  · rw [List.getElem?_eq_none (by omega), List.getElem?_eq_none (by simp; omega)]

theorem heap_of_var {P : Program} {w : World} {name : String} {g : Nat} {cs : Array Value} (hg : P.globalNamed name = some g) (h : w.var? P name = some cs) : ∃ t fr, w.heap[g]? = some (.cells cs t fr) := by
  simp only [World.var?, hg, Option.bind_some] at h
  split at h
  · rename_i c t fr hh
    cases h
    exact ⟨t, fr, hh⟩
  · cases h

theorem gRes : Tryd.prog.globalNamed "refrain/schema.reserved" = some 0 := by kernel_rfl
theorem tRes : (Tryd.prog.globals[0]?).map (·.type) = some 121 := by kernel_rfl
theorem cells16 : Tryd.prog.cellsOf 121 = 16 := by kernel_rfl
theorem cellsS : Tryd.prog.cellsOf 9 = 1 := by kernel_rfl

/-- The table's data, as the rows list it. -/
abbrev wireLaid : List (String × DataW Unit) := [("refrain/schema.reserved", Rows.laid_refrain_schema_reserved)]

theorem of_laid1 {W : World} (h : laidMetH Tryd.prog wireLaid W) : ResAt W := by
  rw [MakeChecks.laidMetH_plain _ _ _ (by kernel_rfl)] at h
  obtain ⟨ps, ⟨g0, t0, cs0, f0, p0, q0, hg0, ht0, hv0, hd0, _, _⟩, _, _⟩ := h
  obtain rfl := Option.some.inj (gRes.symm.trans hg0)
  obtain rfl := Option.some.inj (tRes.symm.trans ht0)
  have e0 := cells_of_strs (ls := resWords) Tryd.underlying121 Tryd.underlying9 cellsS cells16 hd0
  obtain ⟨t, fr, hh⟩ := heap_of_var gRes hv0
  refine ⟨t, fr, ?_⟩
  rw [hh, show cs0 = resCells from by rw [← Array.toArray_toList (xs := cs0), e0]; rfl]

/-- A world for the witnesses: the settled one, the table as its initialiser lays it. -/
def fillRow (cs : Array Value) : Obj → Obj
  | .cells _ t frozen => .cells cs t frozen
  | o => o
noncomputable def laidWorld (os : Os) : World :=
  { World.holding Tryd.prog os ⟨#[], #[], []⟩ with heap := (World.holding Tryd.prog os ⟨#[], #[], []⟩).heap.modify 0 (fillRow resCells) }
theorem own : ownKnob Tryd.prog.godebug = none := by kernel_rfl
theorem laidOut : laidOutB Tryd.prog = true := by kernel_rfl
end Go.Proofs.YtekaimfabadclaaDoor
