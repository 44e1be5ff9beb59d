/-
  The law of there and back (P4.2, P4.3): for every rows of bulk at most the number that the rows' text names, the call returns true, and its argument reads as it did.
  Conditions: the bound on the bulk, and what the card prints (the listed variables hold what the program's text lays; tied to it).
-/
import Derived.Test.YtodbpfdknfcgbaaDoorCards
import Derived.Test.YtodbpfdknfcgbaaDoorTie
import Derived.Test.YtodbpfdknfcgbaaDoorInRows
import Derived.Deep.DeepHandedRow
import Derived.Test.YtodbpfdknfcgbaaDoorLaidC
namespace Go.Proofs.YtodbpfdknfcgbaaDoor.csvThere
open Go Go.ChangeShapes Go.WideShapes Go.ChangeAt Go.RowKit

set_option maxRecDepth 100000 in
theorem contract (H : Type) (enc : TypeId × Value → H) (W : World) (base : Nat) (args : Array Value) (ds gs : List (DataW H)) (before : List MemPlace)
    (hval : ∀ (j : Nat) t v, Tryd.f3.params[j]? = some t → args[j]? = some v → Value.okWide Tryd.prog W .any base t v)
    (hW : DataW.Whole enc Tryd.prog Tryd.f3.params.toList Rows.csvThereSpec.vars false W args.toList ds gs before)
    (hk : Rows.uptoBulkAll ds ≤ 1048576) (hS : W.ShapedOpen Tryd.prog) :
    Calls Tryd.prog 3 args W fun e W' => ∃ v, e = .returned v ∧ Rows.csvThereSpec.post enc Tryd.prog Tryd.f3 false true false false W args v W' := by
  have hW' := hW
  obtain ⟨p, q, hA0, hV, rfl, hfz, hnd⟩ := hW
  obtain ⟨al⟩ := args
  have hA : DataW.TrodAll enc Tryd.prog W 0 (fun _ => true) true Tryd.f3.params.toList al ds p := hA0
  rw [Tryd.params3] at hA hval
  obtain ⟨v0, _, d0, _, p0, _, rfl, rfl, rfl, h0, hA⟩ := trodAll_cons hA
  obtain ⟨rfl, rfl, rfl⟩ := trodAll_nil hA
  obtain ⟨rfl, rfl⟩ := trodVars_none hV
  have hlt0 : ∀ x ∈ p0, x.block < W.heap.size := fun x hx => by simpa using hW'.lt x (by simp [hx])
  have h0k := h0
  obtain ⟨a0, l0, k0, rfl⟩ := okWide_slice Tryd.underlying22 (hval 0 22 v0 rfl rfl)
  obtain ⟨f0, hf0⟩ := h0
  obtain ⟨l, ao, cap, e0, hl, hlc, hcm, hfit, hbk⟩ := rows_trod hf0
  have e0' : Value.slice a0 l0 k0 = .slice ao l.length cap := by simpa [Value.cells] using e0
  rw [e0'] at h0k hW' ⊢
  clear hA0
  simp only [Rows.uptoBulkAll] at hk
  have hb2 : bytesN (cellsOf l) ≤ 4194304 := by
    simp only at hbk
    omega
  unfold maxLen at hcm
  refine (there_any l ao cap W (max_at hS) hl (by omega) (fun x hx => ⟨by have := (hfit x hx).1; have h2 := (hfit x hx).2.1; unfold maxLen at h2; omega, fun y hy => ?_⟩) (by omega)).mono fun e W' ⟨he, hb⟩ => ?_
  · have h1 : 2 * y.length + 4 ≤ rowN x.c := by
      unfold rowN
      exact mem_le_sum (List.mem_map_of_mem (f := fun c : List UInt8 => 2 * c.length + 4) hy)
    have h2 : rowN x.c ≤ bytesN (cellsOf l) := by
      unfold bytesN
      exact mem_le_sum (List.mem_map_of_mem (f := rowN) (mem_cellsOf hx))
    omega
  · subst he
    exact ⟨_, rfl, _, _, _, [], _, [], hW', trodAll_mk1 (shut_bool Tryd.underlying4 _),
      trodAll_cons_mk (Below.trod laidOut (by kernel_rfl) (of_decide_eq_true (by kernel_rfl)) h0k hb hlt0) trodAll_mk0, rfl, hb.frame _, fun h => by cases h⟩
def wargs : Array Value := #[.slice none 0 0]
theorem reads (os : Os) {H : Type} (enc : TypeId × Value → H) : ∃ places, DataW.whole enc Tryd.prog ((laidWorld os).forCall (fun _ _ => 0) ⟨#[], wargs, []⟩).memory Tryd.f3.params.toList Rows.csvThereSpec.vars false wargs.toList 8 = some ([.nil], [], places) :=
  ⟨[], by kernel_rfl⟩

set_option maxRecDepth 100000 in
theorem lifted (os : Os) (started : os.Started) (H : Type) (enc : TypeId × Value → H) (F : Stop.Interp) :
    ReturnsInHanded {} Tryd.checked os 3 .any ((Rows.OpenSpec.upto Rows.csvThereSpec).preRow enc Tryd.prog Tryd.f3 Rows.csvThereUptoRow.domain false Rows.csvThereUptoRow.laid) (((Rows.OpenSpec.upto Rows.csvThereSpec).at F).post enc Tryd.prog Tryd.f3 false true false false) := by
  obtain ⟨places, hx⟩ := reads os enc
  refine returnsInHanded_of_row (C := Tryd.checked) (s := Rows.OpenSpec.upto Rows.csvThereSpec) own started (by kernel_rfl) Tryd.func3
    (witness_row_at (enc := enc) (C := Tryd.checked) false (laidWorld os) wargs (World.laidAll_os _ _ _) (by kernel_rfl) (by kernel_rfl) (by kernel_rfl)
      (OpenSpec.preRow_of_cond 8 hx (by kernel_rfl) (fun k hk => by cases hk; kernel_rfl) (by kernel_rfl) (laid_met os wargs))) ?_
  intro W base args ds gs before hval hW _ hcond _ _ hS _
  have hk := of_decide_eq_true (hcond _ rfl)
  exact contract H enc W base args ds gs before hval hW (by
    have e : gs = [] := by
      obtain ⟨p, q, _, hV, _⟩ := hW
      exact (trodVars_none hV).1
    rw [e, List.append_nil] at hk
    exact hk) hS

theorem said : Rows.CsvThereUptoSaid :=
  OpenClaim.holds_of_cond 3 Tryd.f3 rfl rfl rfl rfl rfl rfl rfl ⟨rfl, rfl, rfl, rfl, rfl⟩ rfl rfl rfl rfl rfl (by kernel_rfl) Tryd.func3 (by kernel_rfl)
    (of_decide_eq_true (by kernel_rfl)) (by unfold Func.isWrapper; first | (rw [if_pos (by decide +kernel)]; kernel_rfl) | (rw [if_neg (by decide +kernel)]; exact ⟨rfl, rfl⟩))
    (fun os started H enc _ F => by rw [OpenClaim.pre_eq_preRow]; exact lifted os started H enc F)

theorem plain (f : FuncId) (fn : Func) (hf : Tryd.pinned.checked.prog.funcNamed "refrain/refrainlaw4.CsvThere" = some f) (hfn : Tryd.pinned.checked.prog.funcs[f]? = some fn) :
    true = Tryd.pinned.checked.prog.looks [] ∧ ∀ (j : Nat) t, fn.params[j]? = some t → Tryd.pinned.checked.prog.wantsStandIn t = false := by
  obtain rfl : f = 3 := Option.some.inj ((show Tryd.prog.funcNamed "refrain/refrainlaw4.CsvThere" = some 3 by kernel_rfl).symm.trans hf) |>.symm
  obtain rfl : fn = Tryd.f3 := (Option.some.inj (Tryd.func3.symm.trans hfn)).symm
  refine ⟨by kernel_rfl, fun j t ht => ?_⟩
  rw [Tryd.params3] at ht
  obtain rfl : t = 22 := by simpa using Array.mem_of_getElem? ht
  exact (show Tryd.prog.wantsStandIn 22 = false by kernel_rfl)

/-- The card. -/
theorem card : Rows.CsvThereUptoCardSaid :=
  Claim7.holds_tied_plain_at .later [] _ _ _ _ said (fun _ h => by cases h) (by kernel_rfl) (fun _ h => by cases h) csvThereUpto_row_tie rfl ⟨rfl, rfl⟩ (by kernel_rfl) rfl plain (by kernel_rfl)
end Go.Proofs.YtodbpfdknfcgbaaDoor.csvThere
