/- What the rows' list of package-level variables gives: the table of the words of the language and that of the kinds' words lie in their variables. -/
import Derived.Test.YtpcmhbafcgineaaDoorFault
import Derived.ProofKit
import Derived.LaidMore
import Derived.OpenShut
import Derived.Lib.LaidTab
namespace Go.Proofs.YtpcmhbafcgineaaDoor
open Go Go.RowKit

/-- An array of strings that reads as these strings holds just these, cell for cell. -/
theorem cells_of_strs {H : Type} {enc : TypeId × Value → H} {P : Program} {w : World} {base : Nat} {sp : Nat → Bool} {held : Bool} {fuel : Nat} {t e : TypeId} {cs : List Value} {ls : List (List UInt8)} {p : List MemPlace}
    (ht : P.underlying t = some (.array ls.length e)) (he : P.underlying e = some .string) (hce : P.cellsOf e = 1) (hct : P.cellsOf t = ls.length)
    (h : DataW.trod enc P w base sp held fuel t cs = some (.agg (ls.map fun l => .lit (.string l)), p)) : cs = ls.map fun l => Value.string ⟨l.toArray⟩ := by
  obtain ⟨xs, m, rfl, hx, hlen, hn, hel⟩ := DataW.trod_array ht h
  simp only [Prod.mk.injEq, DataW.agg.injEq] at hx
  apply List.ext_getElem?
  intro i
  by_cases hi : i < ls.length
  · have h1 := hel i hi
    have hxi : i < xs.length := by omega
    rw [hce, Nat.mul_one, List.getElem?_eq_getElem hxi] at h1
    obtain ⟨s, e1, e2, _⟩ := DataW.trod_string he h1
    have e3 : (xs.map (·.1))[i]? = some (.lit (.string s.data.toList)) := by simp [List.getElem?_eq_getElem hxi, e2]
    rw [← hx.1] at e3
    simp only [List.getElem?_map, List.getElem?_eq_getElem hi, Option.map_some, Option.some.injEq, DataW.lit.injEq, Lit.string.injEq] at e3
    have e4 : cs[i]? = some (.string s) := by
      have := congrArg (fun l => l[0]?) e1
      simpa using this
    rw [e4]
    simp only [List.getElem?_map, List.getElem?_eq_getElem hi, Option.map_some, e3]
  · rw [List.getElem?_eq_none (by omega), List.getElem?_eq_none (by simp; omega)]

theorem heap_of_var {P : Program} {w : World} {name : String} {g : Nat} {cs : Array Value} (hg : P.globalNamed name = some g) (h : w.var? P name = some cs) : ∃ t fr, w.heap[g]? = some (.cells cs t fr) := by
  simp only [World.var?, hg, Option.bind_some] at h
  split at h
  · rename_i c t fr hh
    cases h
    exact ⟨t, fr, hh⟩
  · cases h

theorem gRes : Tryd.prog.globalNamed "refrain/schema.reserved" = some 0 := by kernel_rfl
theorem gKind : Tryd.prog.globalNamed "refrain/schema.kindWords" = some 1 := by kernel_rfl
theorem tRes : (Tryd.prog.globals[0]?).map (·.type) = some 52 := by kernel_rfl
theorem tKind : (Tryd.prog.globals[1]?).map (·.type) = some 49 := by kernel_rfl
theorem cells16 : Tryd.prog.cellsOf 52 = 16 := by kernel_rfl
theorem cells4 : Tryd.prog.cellsOf 49 = 4 := by kernel_rfl
theorem cellsS : Tryd.prog.cellsOf 9 = 1 := by kernel_rfl

/-- The two tables' data, as the rows list them. -/
abbrev schemaLaid : List (String × DataW Unit) := [("refrain/schema.reserved", Rows.laid_refrain_schema_reserved), ("refrain/schema.kindWords", Rows.laid_refrain_schema_kindWords)]

theorem of_laid {W : World} (h : laidMetH Tryd.prog schemaLaid W) : ResAt W ∧ KindAt W := by
  rw [MakeChecks.laidMetH_plain _ _ _ (by kernel_rfl)] at h
  obtain ⟨ps, ⟨g0, t0, cs0, f0, p0, q0, hg0, ht0, hv0, hd0, ⟨g1, t1, cs1, f1, p1, q1, hg1, ht1, hv1, hd1, _, _⟩, _⟩, _, _⟩ := h
  obtain rfl := Option.some.inj (gRes.symm.trans hg0)
  obtain rfl := Option.some.inj (gKind.symm.trans hg1)
  obtain rfl := Option.some.inj (tRes.symm.trans ht0)
  obtain rfl := Option.some.inj (tKind.symm.trans ht1)
  have e0 := cells_of_strs (ls := resWords) Tryd.underlying52 Tryd.underlying9 cellsS cells16 hd0
  have e1 := cells_of_strs (ls := [[], [73, 78, 84], [83, 84, 82], [66, 79, 79, 76]]) Tryd.underlying49 Tryd.underlying9 cellsS cells4 hd1
  constructor
  · obtain ⟨t, fr, hh⟩ := heap_of_var gRes hv0
    refine ⟨t, fr, ?_⟩
    rw [hh, show cs0 = resCells from by rw [← Array.toArray_toList (xs := cs0), e0]; rfl]
  · obtain ⟨t, fr, hh⟩ := heap_of_var gKind hv1
    refine ⟨t, fr, ?_⟩
    rw [hh, show cs1 = kindCells from by rw [← Array.toArray_toList (xs := cs1), e1]; rfl]
end Go.Proofs.YtpcmhbafcgineaaDoor
