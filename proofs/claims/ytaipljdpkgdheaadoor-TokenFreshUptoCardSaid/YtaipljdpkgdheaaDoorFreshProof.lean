/-
  The law of fresh lists (P5.4, P0.3): for every list of texts of bulk at most the number that the rows' text names, the call returns true, and its argument reads as it did.
  Conditions: the bound on the bulk, and what the card prints (the listed variables hold what the program's text lays; tied to it).
-/
import Derived.Test.YtaipljdpkgdheaaDoorCards
import Derived.Test.YtaipljdpkgdheaaDoorTie
import Derived.Deep.DeepHandedRow
import Derived.Carry
import Derived.SizedLaws
import Derived.Test.YtaipljdpkgdheaaDoorMrgA
import Derived.Test.YtaipljdpkgdheaaDoorMrgB
import Derived.Test.YtaipljdpkgdheaaDoorMrgC
import Derived.Test.YtaipljdpkgdheaaDoorMrgD
import Derived.Test.YtaipljdpkgdheaaDoorMrgE
import Derived.Test.YtaipljdpkgdheaaDoorMrgF
import Derived.Test.YtaipljdpkgdheaaDoorMrgG
namespace Go.Proofs.YtaipljdpkgdheaaDoor.tokenFresh
open Go Go.ChangeShapes Go.WideShapes Go.ChangeAt Go.RowKit
open Go.ChangeMaps (open_string)

theorem bulk_pos {H : Type} (d : DataW H) : 1 ≤ Rows.uptoBulk d := by
  cases d with
  | lit l => cases l <;> simp [Rows.uptoBulk]
  | _ => simp [Rows.uptoBulk]
theorem bulk_all {H : Type} (l : List (DataW H)) : l.length ≤ Rows.uptoBulkAll l := by
  induction l with
  | nil => simp [Rows.uptoBulkAll]
  | cons d r ih =>
    have := bulk_pos d
    simp only [Rows.uptoBulkAll, List.length_cons]
    omega
theorem bulk_len {H : Type} {enc : TypeId × Value → H} {W : World} {base : Nat} {spare : Nat → Bool} {held : Bool} {fuel : Nat} {cs : List Value} {x : DataW H × List MemPlace} (h : DataW.trod enc Tryd.prog W base spare held fuel 38 cs = some x) (ao : Option Addr) (len cap : Nat) (e : cs = [.slice ao len cap]) : len ≤ Rows.uptoBulk x.1 := by
  rcases DataW.trod_slice Tryd.underlying38 h with ⟨h0, _⟩ | ⟨a, len', cap', elems, rest, m, _, h0, rfl, _, _, _, hlen, _⟩
  · rw [h0] at e
    cases e
    exact Nat.zero_le _
  · rw [h0] at e
    cases e
    have h1 := bulk_all (elems.map (·.1))
    rw [List.length_map] at h1
    simp only [Rows.uptoBulk]
    omega

set_option maxRecDepth 100000 in
theorem contract (H : Type) (enc : TypeId × Value → H) (W : World) (base : Nat) (args : Array Value) (ds gs : List (DataW H)) (before : List MemPlace)
    (hval : ∀ (j : Nat) t v, Tryd.f7.params[j]? = some t → args[j]? = some v → Value.okWide Tryd.prog W .any base t v)
    (hW : DataW.Whole enc Tryd.prog Tryd.f7.params.toList Rows.tokenFreshSpec.vars false W args.toList ds gs before) (ts : List TypeId)
    (hZ : (DataW.weightsEach Tryd.prog (Tryd.f7.params.toList ++ ts) (ds ++ gs)).all (· ≤ reachBytes) = true)
    (hk : Rows.uptoBulkAll ds ≤ 1048576) (hL : laidMetH Tryd.prog tokLaid6 W) :
    Calls Tryd.prog 7 args W fun e W' => ∃ v, e = .returned v ∧ Rows.tokenFreshSpec.post enc Tryd.prog Tryd.f7 false true false false W args v W' := by
  have hW' := hW
  obtain ⟨p, q, hA0, hV, rfl, hfz, hnd⟩ := hW
  obtain ⟨al⟩ := args
  have hA : DataW.TrodAll enc Tryd.prog W 0 (fun _ => true) true Tryd.f7.params.toList al ds p := hA0
  rw [Tryd.params7] at hA hval hZ
  obtain ⟨v0, _, d0, _, p0, _, rfl, rfl, rfl, h0, hA⟩ := trodAll_cons hA
  obtain ⟨rfl, rfl, rfl⟩ := trodAll_nil hA
  obtain ⟨rfl, rfl⟩ := trodVars_none hV
  have hlt0 : ∀ x ∈ p0, x.block < W.heap.size := fun x hx => by simpa using hW'.lt x (by simp [hx])
  have h0k := h0
  obtain ⟨a0, l0, k0, rfl⟩ := okWide_slice Tryd.underlying38 (hval 0 38 v0 rfl rfl)
  obtain ⟨f0, hf0⟩ := h0
  obtain ⟨l, lo, lc, e0, hl, _, hs⟩ := texts_trod hf0 (fun n hn => by
    have := List.all_eq_true.1 hZ n (DataW.weights_mem_each (j := 0) rfl rfl n hn)
    simpa using this)
  have hm : l.length ≤ 1048576 := by
    have h1 := bulk_len hf0 lo l.length lc e0
    simp only [Rows.uptoBulkAll] at hk
    simp only at h1
    omega
  have e0' : Value.slice a0 l0 k0 = .slice lo l.length lc := by simpa [Value.cells] using e0
  rw [e0'] at h0k hW' ⊢
  have hT := tabs6_of hL
  clear hA0
  refine (fresh_any l lo lc W hT.1 hT.2 hl hm hs).mono fun e W' ⟨he, hb⟩ => ?_
  subst he
  exact ⟨_, rfl, _, _, _, [], _, [], hW', trodAll_mk1 (shut_bool Tryd.underlying4 _),
    trodAll_cons_mk (Below.trod laidOut (by kernel_rfl) (of_decide_eq_true (by kernel_rfl)) h0k hb hlt0) trodAll_mk0, rfl, hb.frame _, fun h => by cases h⟩

def wargs : Array Value := #[.slice none 0 0]
theorem reads (os : Os) {H : Type} (enc : TypeId × Value → H) : ∃ places, DataW.whole enc Tryd.prog ((laidWorld6 os).forCall (fun _ _ => 0) ⟨#[], wargs, []⟩).memory Tryd.f7.params.toList Rows.tokenFreshSpec.vars false wargs.toList 8 = some ([.nil], [], places) :=
  ⟨[], by kernel_rfl⟩

set_option maxRecDepth 100000 in
theorem lifted (os : Os) (started : os.Started) (H : Type) (enc : TypeId × Value → H) (F : Stop.Interp) :
    ReturnsInHanded {} Tryd.checked os 7 .any ((Rows.OpenSpec.upto Rows.tokenFreshSpec).preRow enc Tryd.prog Tryd.f7 Rows.tokenFreshUptoRow.domain false Rows.tokenFreshUptoRow.laid) (((Rows.OpenSpec.upto Rows.tokenFreshSpec).at F).post enc Tryd.prog Tryd.f7 false true false false) := by
  obtain ⟨places, hx⟩ := reads os enc
  refine returnsInHanded_of_row (C := Tryd.checked) (s := Rows.OpenSpec.upto Rows.tokenFreshSpec) own started (by kernel_rfl) Tryd.func7
    (witness_row_at (enc := enc) (C := Tryd.checked) false (laidWorld6 os) wargs (World.laidAll_os _ _ _) (by kernel_rfl) (by kernel_rfl) (by kernel_rfl)
      (OpenSpec.preRow_of_cond 8 hx (by kernel_rfl) (fun k hk => by cases hk; kernel_rfl) (by kernel_rfl) (laid_met6 os wargs))) ?_
  intro W base args ds gs before hval hW _ hcond hZ hL _ _
  have hk := of_decide_eq_true (hcond _ rfl)
  exact contract H enc W base args ds gs before hval hW _ hZ (by
    have e : gs = [] := by
      obtain ⟨p, q, _, hV, _⟩ := hW
      exact (trodVars_none hV).1
    rw [e, List.append_nil] at hk
    exact hk) hL

theorem said : Rows.TokenFreshUptoSaid :=
  OpenClaim.holds_of_cond 7 Tryd.f7 rfl rfl rfl rfl rfl rfl rfl ⟨rfl, rfl, rfl, rfl, rfl⟩ rfl rfl rfl rfl rfl (by kernel_rfl) Tryd.func7 (by kernel_rfl)
    (of_decide_eq_true (by kernel_rfl)) (by unfold Func.isWrapper; first | (rw [if_pos (by decide +kernel)]; kernel_rfl) | (rw [if_neg (by decide +kernel)]; exact ⟨rfl, rfl⟩))
    (fun os started H enc _ F => by rw [OpenClaim.pre_eq_preRow]; exact lifted os started H enc F)

theorem plain (f : FuncId) (fn : Func) (hf : Tryd.pinned.checked.prog.funcNamed "refrain/refrainlaw5.TokenFresh" = some f) (hfn : Tryd.pinned.checked.prog.funcs[f]? = some fn) :
    true = Tryd.pinned.checked.prog.looks [] ∧ ∀ (j : Nat) t, fn.params[j]? = some t → Tryd.pinned.checked.prog.wantsStandIn t = false := by
  obtain rfl : f = 7 := Option.some.inj ((show Tryd.prog.funcNamed "refrain/refrainlaw5.TokenFresh" = some 7 by kernel_rfl).symm.trans hf) |>.symm
  obtain rfl : fn = Tryd.f7 := (Option.some.inj (Tryd.func7.symm.trans hfn)).symm
  refine ⟨by kernel_rfl, fun j t ht => ?_⟩
  rw [Tryd.params7] at ht
  have hm := Array.mem_of_getElem? ht
  simp at hm
  subst hm
  exact (show Tryd.prog.wantsStandIn 38 = false by kernel_rfl)

/-- The card. -/
theorem card : Rows.TokenFreshUptoCardSaid :=
  Claim7.holds_tied_plain_at .later [] _ _ _ _ said (fun _ h => by cases h) (by kernel_rfl) (fun _ h => by cases h) tokenFreshUpto_row_tie rfl ⟨rfl, rfl⟩ (by kernel_rfl) rfl plain (by kernel_rfl)
end Go.Proofs.YtaipljdpkgdheaaDoor.tokenFresh
