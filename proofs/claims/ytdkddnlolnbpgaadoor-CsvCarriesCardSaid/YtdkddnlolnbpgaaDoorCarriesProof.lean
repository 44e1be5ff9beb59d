/-
  The law of what a row carries (P4.4 and what goes with it): for every type, event and row, the call returns true, and its arguments read as they did.
  Conditions: none but those that the card prints (the listed variables hold what the program's text lays; tied to it).
-/
import Derived.Test.YtdkddnlolnbpgaaDoorCards
import Derived.Test.YtdkddnlolnbpgaaDoorTie
import Derived.Test.YtdkddnlolnbpgaaDoorInCarry
import Derived.Test.YtdkddnlolnbpgaaDoorLaidCar
import Derived.Test.YtdkddnlolnbpgaaDoorCarriesWalk
import Derived.Deep.DeepHandedRow
import Derived.Carry
import Derived.SizedLaws
namespace Go.Proofs.YtdkddnlolnbpgaaDoor.csvCarries
open Go Go.ChangeShapes Go.WideShapes Go.ChangeAt Go.RowKit

theorem len_at (s : ByteArray) : s.data.toList.length = s.size := by rw [Array.length_toList]; rfl
section
variable {H : Type} {enc : TypeId × Value → H} {W : World} {base : Nat} {spare : Nat → Bool} {held : Bool}
set_option maxRecDepth 100000 in
theorem ty_trod {fuel : Nat} {cs : List Value} {x : DataW H × List MemPlace} (h : DataW.trod enc Tryd.prog W base spare held fuel 24 cs = some x) (hw : ∀ m ∈ x.1.weights Tryd.prog 24, m ≤ reachBytes) :
    ∃ (nm : ByteArray) (l : List AttrX) (ao : Option Addr) (cap : Nat), cs = [.string nm, .slice ao l.length cap] ∧ AttrsIn W.heap.size W ao l ∧ l.length ≤ 5864062014805 ∧ nm.size ≤ 281474976710656 := by
  obtain ⟨y0, y1, n, e, hl, h0, h1⟩ := trod_struct2 Tryd.underlying24 h
  rw [e] at hw
  rw [cellsTy] at hl
  match cs, hl with
  | [c0, c1], _ =>
    simp only [cellsStrC, cellsAttrs, List.drop_zero, List.drop_succ_cons, List.take_succ_cons, List.take_zero] at h0 h1
    obtain ⟨s, e0, x0, ws⟩ := DataW.trod_string Tryd.underlying9 h0
    obtain ⟨l, ao, cap, e1, hA, hn⟩ := attrs_trod h1 (fun m hm => hw m (by simp [DataW.weights, Tryd.underlying24, DataW.weightsEach, hm]))
    cases e0; cases e1
    have hs0 : ∀ bs : List UInt8, y0.1 = .lit (.string bs) → bs.length ≤ reachBytes := fun bs e => hw _ (by simp [DataW.weights, Tryd.underlying24, DataW.weightsEach, e])
    have hs := hs0 s.data.toList (by rw [x0])
    rw [len_at] at hs
    unfold reachBytes at hs
    exact ⟨s, l, ao, cap, rfl, hA, hn, by omega⟩
set_option maxRecDepth 100000 in
theorem ev_trod {fuel : Nat} {cs : List Value} {x : DataW H × List MemPlace} (h : DataW.trod enc Tryd.prog W base spare held fuel 27 cs = some x) (hw : ∀ m ∈ x.1.weights Tryd.prog 27, m ≤ reachBytes) :
    ∃ (ty : ByteArray) (tm : Int) (l : List Val) (ao : Option Addr) (cap : Nat), cs = [.string ty, .int .i64 tm, .slice ao l.length cap] ∧ ValsIn W.heap.size W ao l ∧ l.length ≤ 3518437208782 ∧ ∀ a ∈ l, ValIn a := by
  obtain ⟨y0, y1, y2, n, e, hl, h0, h1, h2⟩ := Go.Deep.trod_struct3 Tryd.underlying27 h
  rw [e] at hw
  rw [cellsEv] at hl
  match cs, hl with
  | [c0, c1, c2], _ =>
    simp only [cellsStrC, cellsI64, cellsVals, List.drop_zero, List.drop_succ_cons, List.take_succ_cons, List.take_zero] at h0 h1 h2
    obtain ⟨s, e0, x0, ws⟩ := DataW.trod_string Tryd.underlying9 h0
    obtain ⟨i, e1, _, _⟩ := DataW.trod_int Tryd.underlying2 h1
    obtain ⟨l, ao, cap, e2, hV, hn, hi⟩ := vals_trod h2 (fun m hm => hw m (by simp [DataW.weights, Tryd.underlying27, DataW.weightsEach, hm]))
    cases e0; cases e1; cases e2
    exact ⟨s, i, l, ao, cap, rfl, hV, hn, hi⟩
end

set_option maxRecDepth 100000 in
theorem contract (H : Type) (enc : TypeId × Value → H) (W : World) (base : Nat) (args : Array Value) (ds gs : List (DataW H)) (before : List MemPlace)
    (hval : ∀ (j : Nat) t v, Tryd.f3.params[j]? = some t → args[j]? = some v → Value.okWide Tryd.prog W .any base t v)
    (hW : DataW.Whole enc Tryd.prog Tryd.f3.params.toList Rows.csvCarriesSpec.vars false W args.toList ds gs before) (ts : List TypeId)
    (hZ : (DataW.weightsEach Tryd.prog (Tryd.f3.params.toList ++ ts) (ds ++ gs)).all (· ≤ reachBytes) = true)
    (hL : laidMetH Tryd.prog carLaid W) (hS : W.ShapedOpen Tryd.prog) :
    Calls Tryd.prog 3 args W fun e W' => ∃ v, e = .returned v ∧ Rows.csvCarriesSpec.post enc Tryd.prog Tryd.f3 false true false false W args v W' := by
  have hW' := hW
  obtain ⟨p, q, hA0, hV, rfl, hfz, hnd⟩ := hW
  obtain ⟨al⟩ := args
  have hA : DataW.TrodAll enc Tryd.prog W 0 (fun _ => true) true Tryd.f3.params.toList al ds p := hA0
  rw [Tryd.params3] at hA hval hZ
  obtain ⟨v0, _, d0, _, p0, _, rfl, rfl, rfl, h0, hA⟩ := trodAll_cons hA
  obtain ⟨v1, _, d1, _, p1, _, rfl, rfl, rfl, h1, hA⟩ := trodAll_cons hA
  obtain ⟨v2, _, d2, _, p2, _, rfl, rfl, rfl, h2, hA⟩ := trodAll_cons hA
  obtain ⟨rfl, rfl, rfl⟩ := trodAll_nil hA
  obtain ⟨rfl, rfl⟩ := trodVars_none hV
  have hlt0 : ∀ x ∈ p0, x.block < W.heap.size := fun x hx => by simpa using hW'.lt x (by simp [hx])
  have hlt1 : ∀ x ∈ p1, x.block < W.heap.size := fun x hx => by simpa using hW'.lt x (by simp [hx])
  have hlt2 : ∀ x ∈ p2, x.block < W.heap.size := fun x hx => by simpa using hW'.lt x (by simp [hx])
  have h0k := h0
  have h1k := h1
  have h2k := h2
  obtain ⟨c0, rfl, _⟩ := okWide_struct Tryd.underlying24 (hval 0 24 v0 rfl rfl)
  obtain ⟨c1, rfl, _⟩ := okWide_struct Tryd.underlying27 (hval 1 27 v1 rfl rfl)
  obtain ⟨a2, l2, k2, rfl⟩ := okWide_slice Tryd.underlying28 (hval 2 28 v2 rfl rfl)
  obtain ⟨f0, hf0⟩ := h0
  obtain ⟨f1, hf1⟩ := h1
  obtain ⟨f2, hf2⟩ := h2
  obtain ⟨nm, ats, ta, tc, e0, hAt, hn, hnm⟩ := ty_trod hf0 (fun n hn => by
    have := List.all_eq_true.1 hZ n (DataW.weights_mem_each (j := 0) rfl rfl n hn)
    simpa using this)
  obtain ⟨ty, tm, vs, va, vc, e1, hVs, hm, hvi⟩ := ev_trod hf1 (fun n hn => by
    have := List.all_eq_true.1 hZ n (DataW.weights_mem_each (j := 1) rfl rfl n hn)
    simpa using this)
  obtain ⟨cs, ra, rc, e2, hRs, hc, hcs⟩ := strsC_trod hf2 (fun n hn => by
    have := List.all_eq_true.1 hZ n (DataW.weights_mem_each (j := 2) rfl rfl n hn)
    simpa using this)
  have ec0 : c0 = #[.string nm, .slice ta ats.length tc] := by
    have : c0.toList = [.string nm, .slice ta ats.length tc] := e0
    exact Array.toList_inj.1 this
  have ec1 : c1 = #[.string ty, .int .i64 tm, .slice va vs.length vc] := by
    have : c1.toList = [.string ty, .int .i64 tm, .slice va vs.length vc] := e1
    exact Array.toList_inj.1 this
  subst ec0
  subst ec1
  have e2' : Value.slice a2 l2 k2 = .slice ra cs.length rc := by simpa [Value.cells] using e2
  rw [e2'] at h2k hW' ⊢
  clear hA0
  refine (carries_any nm ty tm ats vs cs ta va ra tc vc rc W (tabs_of hL) (max_at hS) hAt hVs hRs hn (by omega) hc hvi hcs hnm).mono fun e W' ⟨he, hb⟩ => ?_
  subst he
  exact ⟨_, rfl, _, _, _, [], _, [], hW', trodAll_mk1 (shut_bool Tryd.underlying4 _),
    trodAll_cons_mk (Below.trod laidOut (by kernel_rfl) (of_decide_eq_true (by kernel_rfl)) h0k hb hlt0) (trodAll_cons_mk (Below.trod laidOut (by kernel_rfl) (of_decide_eq_true (by kernel_rfl)) h1k hb hlt1) (trodAll_cons_mk (Below.trod laidOut (by kernel_rfl) (of_decide_eq_true (by kernel_rfl)) h2k hb hlt2) trodAll_mk0)), rfl, hb.frame _, fun h => by cases h⟩

def wargs : Array Value := #[.agg #[.string ⟨#[]⟩, .slice none 0 0], .agg #[.string ⟨#[]⟩, .int .i64 0, .slice none 0 0], .slice none 0 0]
theorem reads (os : Os) {H : Type} (enc : TypeId × Value → H) : ∃ places, DataW.whole enc Tryd.prog ((laidWorld os).forCall (fun _ _ => 0) ⟨#[], wargs, []⟩).memory Tryd.f3.params.toList Rows.csvCarriesSpec.vars false wargs.toList 8 = some ([.agg [.lit (.string []), .nil], .agg [.lit (.string []), .lit (.int .i64 0), .nil], .nil], [], places) :=
  ⟨[], by kernel_rfl⟩

set_option maxRecDepth 100000 in
theorem lifted (os : Os) (started : os.Started) (H : Type) (enc : TypeId × Value → H) (F : Stop.Interp) :
    ReturnsInHanded {} Tryd.checked os 3 .any ((OpenSpec.ofChange Rows.csvCarriesSpec).preRow enc Tryd.prog Tryd.f3 Rows.csvCarriesRow.domain false Rows.csvCarriesRow.laid) (((OpenSpec.ofChange Rows.csvCarriesSpec).at F).post enc Tryd.prog Tryd.f3 false true false false) := by
  obtain ⟨places, hx⟩ := reads os enc
  refine returnsInHanded_of_row (C := Tryd.checked) (s := OpenSpec.ofChange Rows.csvCarriesSpec) own started (by kernel_rfl) Tryd.func3
    (witness_row_at (enc := enc) (C := Tryd.checked) false (laidWorld os) wargs (World.laidAll_os _ _ _) (by kernel_rfl) (by kernel_rfl) (by kernel_rfl)
      (OpenSpec.preRow_of_cond 8 hx (by kernel_rfl) (fun k hk => by cases hk) (by kernel_rfl) (laid_met os wargs))) ?_
  intro W base args ds gs before hval hW _ _ hZ hL hS _
  exact contract H enc W base args ds gs before hval hW _ hZ hL hS

theorem said : Rows.CsvCarriesSaid :=
  OpenClaim.holds_of_cond 3 Tryd.f3 rfl rfl rfl rfl rfl rfl rfl ⟨rfl, rfl, rfl, rfl, rfl⟩ rfl rfl rfl rfl rfl (by kernel_rfl) Tryd.func3 (by kernel_rfl)
    (of_decide_eq_true (by kernel_rfl)) (by unfold Func.isWrapper; first | (rw [if_pos (by decide +kernel)]; kernel_rfl) | (rw [if_neg (by decide +kernel)]; exact ⟨rfl, rfl⟩))
    (fun os started H enc _ F => by rw [OpenClaim.pre_eq_preRow]; exact lifted os started H enc F)

theorem plain (f : FuncId) (fn : Func) (hf : Tryd.pinned.checked.prog.funcNamed "refrain/refrainlaw4.CsvCarries" = some f) (hfn : Tryd.pinned.checked.prog.funcs[f]? = some fn) :
    true = Tryd.pinned.checked.prog.looks [] ∧ ∀ (j : Nat) t, fn.params[j]? = some t → Tryd.pinned.checked.prog.wantsStandIn t = false := by
  obtain rfl : f = 3 := Option.some.inj ((show Tryd.prog.funcNamed "refrain/refrainlaw4.CsvCarries" = some 3 by kernel_rfl).symm.trans hf) |>.symm
  obtain rfl : fn = Tryd.f3 := (Option.some.inj (Tryd.func3.symm.trans hfn)).symm
  refine ⟨by kernel_rfl, fun j t ht => ?_⟩
  rw [Tryd.params3] at ht
  have hm := Array.mem_of_getElem? ht
  simp at hm
  rcases hm with rfl | rfl | rfl
  · exact (show Tryd.prog.wantsStandIn 24 = false by kernel_rfl)
  · exact (show Tryd.prog.wantsStandIn 27 = false by kernel_rfl)
  · exact (show Tryd.prog.wantsStandIn 28 = false by kernel_rfl)

/-- The card. -/
theorem card : Rows.CsvCarriesCardSaid :=
  Claim7.holds_tied_plain_at .later [] _ _ _ _ said (fun _ h => by cases h) (by kernel_rfl) (fun _ h => by cases h) csvCarries_row_tie rfl ⟨rfl, rfl⟩ (by kernel_rfl) rfl plain (by kernel_rfl)
end Go.Proofs.YtdkddnlolnbpgaaDoor.csvCarries
