/- What the rows' list of package-level variables gives: the table and the errors that the library's numbers are read by; the laid world of the witnesses. -/
import Derived.Test.YtaipljdpkgdheaaDoorValue
import Derived.Test.YtaipljdpkgdheaaDoorRows
import Derived.ProofKit
import Derived.LaidMore
import Derived.LaidSub
import Derived.OpenShut
import Derived.Lay
import Derived.Lib.LaidTab
namespace Go.Proofs.YtaipljdpkgdheaaDoor
open Go Go.RowKit

theorem own : ownKnob Tryd.prog.godebug = none := by kernel_rfl
theorem laidOut : laidOutB Tryd.prog = true := by kernel_rfl
theorem iface_of_trod {H : Type} {enc : TypeId × Value → H} {P : Program} {w : World} {base : Nat} {sp : Nat → Bool} {held : Bool} {fuel : Nat} {t : TypeId} {ms : _} {cs : List Value} {nm : String} {d : DataW H} {p : List MemPlace}
    (ht : P.underlying t = some (.interface ms)) (h : DataW.trod enc P w base sp held fuel t cs = some (.iface nm d, p)) : ∃ u v, cs = [.iface u v] := by
  cases fuel with
  | zero => simp [DataW.trod] at h
  | succ n =>
    unfold DataW.trod at h
    rw [ht] at h
    match cs, h with
    | [.iface u v], _ => exact ⟨u, v, rfl⟩
    | [.nilIface], h => simp at h
    | [], h => simp at h
    | _ :: _ :: _, h => simp at h
    | [.bool _], h => simp at h
    | [.int _ _], h => simp at h
    | [.string _], h => simp at h
theorem tSyn : (Tryd.prog.globals[3]?).map (·.type) = some 66 := by kernel_rfl
theorem tRan : (Tryd.prog.globals[4]?).map (·.type) = some 66 := by kernel_rfl
theorem tPow : (Tryd.prog.globals[2]?).map (·.type) = some 132 := by kernel_rfl
theorem cells20 : Tryd.prog.cellsOf 132 = 20 := by kernel_rfl
theorem cellsU64 : Tryd.prog.cellsOf 121 = 1 := by kernel_rfl
/-- The listed variables. -/
abbrev tokLaid : List (String × DataW Unit) := [("math/bits.deBruijn32tab", Rows.laid_math_bits_deBruijn32tab), ("math/bits.deBruijn64tab", Rows.laid_math_bits_deBruijn64tab), ("internal/strconv.uint64pow10", Rows.laid_internal_strconv_uint64pow10), ("strconv.ErrRange", Rows.laid_strconv_ErrRange), ("strconv.ErrSyntax", Rows.laid_strconv_ErrSyntax)]
theorem arr_of_list {cs : Array Value} {u : TypeId} {v : Value} (h : cs.toList = [.iface u v]) : cs = #[.iface u v] := by
  apply Array.toList_inj.1
  rw [h]
set_option maxRecDepth 100000 in
theorem tabs_of {W : World} (h : laidMetH Tryd.prog tokLaid W) : Tabs W := by
  rw [MakeChecks.laidMetH_plain _ _ _ (by kernel_rfl)] at h
  obtain ⟨ps, hl, _, _⟩ := h
  obtain ⟨_, _, _, _, _, _, _, _, _, _, hl, _⟩ := hl
  obtain ⟨_, _, _, _, _, _, _, _, _, _, hl, _⟩ := hl
  obtain ⟨g0, t0, cs0, f0, p0, q0, hg0, ht0, hv0, hd0, hl, _⟩ := hl
  obtain ⟨g1, t1, cs1, f1, p1, q1, hg1, ht1, hv1, hd1, hl, _⟩ := hl
  obtain ⟨g2, t2, cs2, f2, p2, q2, hg2, ht2, hv2, hd2, _, _⟩ := hl
  obtain rfl := Option.some.inj (gPow.symm.trans hg0)
  obtain rfl := Option.some.inj (tPow.symm.trans ht0)
  obtain rfl := Option.some.inj (gRan.symm.trans hg1)
  obtain rfl := Option.some.inj (tRan.symm.trans ht1)
  obtain rfl := Option.some.inj (gSyn.symm.trans hg2)
  obtain rfl := Option.some.inj (tSyn.symm.trans ht2)
  obtain ⟨u1, v1, e1⟩ := iface_of_trod Tryd.underlying66 hd1
  obtain ⟨u2, v2, e2⟩ := iface_of_trod Tryd.underlying66 hd2
  refine ⟨?_, ⟨u2, v2, by rw [hv2, arr_of_list e2]⟩, ⟨u1, v1, by rw [hv1, arr_of_list e1]⟩⟩
  have hd : DataW.trod _ Tryd.prog W 0 _ false f0 132 cs0.toList = some (Lib.tabData .u64 Lib.pow10Tab, p0) := hd0
  unfold Lib.TabIs
  rw [hv0, ← Lib.cells_of_tab Tryd.underlying132 Tryd.underlying121 cellsU64 cells20 hd]
/-- A world for the witnesses: the settled one, the listed variables as they are laid. -/
noncomputable def laidWorld (os : Os) : World := World.laidAll Tryd.prog os tokLaid
set_option maxRecDepth 100000 in
theorem laid_met (os : Os) (args : Array Value) : laidMet Tryd.prog tokLaid ((laidWorld os).forCall (fun _ _ => 0) ⟨#[], args, []⟩).memory := laidMet_laidAll args (by kernel_rfl) (by kernel_rfl)
end Go.Proofs.YtaipljdpkgdheaaDoor
