/- Package schema, Parse at a text that spells a type, whatever blanks stand between. -/
import Derived.Test.YtpcmhbafcgineaaDoorParse
import Derived.Test.YtpcmhbafcgineaaDoorRoundSpec
namespace Go.Proofs.YtpcmhbafcgineaaDoor
open Go Go.RowKit

theorem parse_whole (F : Nat → Bool → List UInt8) (hF : GapsOk F) (t n : ByteArray) (l : List Attr) (w : World) (hres : ResAt w) (hkd : KindAt w) (hl : l.length ≤ 16) (hn : nameB n = true) (ha : ∀ a ∈ l, attrNameB a.1 = true ∧ 1 ≤ a.2 ∧ a.2 ≤ 3)
    (hnew : ∀ k (h : k < l.length), hasB (l.take k) (l[k]).1 = false) (ht : t.data.toList = wholeL F n l) :
    Calls Tryd.prog 13 #[.string t] w fun e w' => (∃ gg cap, e = .returned (.tuple #[.agg #[.string n, .slice (some ⟨gg, 0, none⟩) l.length cap], .int .i64 0, .int .i64 0]) ∧ w'.ownsRow w.heap.size 38 2 (.slice (some ⟨gg, 0, none⟩) l.length cap) l.length (attrCells l)) ∧ Below w.heap.size w w' := by
  have h0 : ∀ a ∈ l, 0 ≤ a.2 := fun a h => by have := (ha a h).2.1; omega
  have hls : ∀ a ∈ l, a.1.size ≤ 32 := fun a h => name_size (attr_name (ha a h).1)
  have hw := whole_len F hF n l (name_size hn) hl hls
  have hts : t.size ≤ 4096 := by
    have : t.size = t.data.toList.length := rfl
    rw [this, ht]
    omega
  have h1 := sps_length F l 0
  have h2 := sps_attr F l 0 h0
  have h := parse_ok t n (spsL F 0 l) (F 0 false) (F 1 true) (F 2 false) (if l = [] then F 3 false ++ F 4 false else F 3 false) (F (3 * l.length + 5) false) w hres hkd hts (by omega) (sps_good F hF l 0 ha) hn (by
    intro k hk
    have hk' : k < l.length := by omega
    have e : (spsL F 0 l)[k].n = (l[k]).1 := by
      have e1 : ((spsL F 0 l).map SpA.attr)[k]? = l[k]? := by rw [h2]
      rw [List.getElem?_map, List.getElem?_eq_getElem hk, List.getElem?_eq_getElem hk'] at e1
      exact congrArg Prod.fst (Option.some.inj e1)
    rw [h2, e]
    exact hnew k hk') (toks_ok F hF n l hn ha) (hF.blank _ _) (by rw [ht]; exact whole_spells F n l h0)
  rw [h1, h2] at h
  exact h
end Go.Proofs.YtpcmhbafcgineaaDoor
