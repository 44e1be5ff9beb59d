/- Package schema: Declare of a type whose name is declared, and at a full catalog; List of an empty catalog. -/
import Derived.Test.YtepiegbmcaggdaaDoorCat
import Derived.Test.YtepiegbmcaggdaaDoorShelf2
import Derived.Laws.IdiomRangeMap
namespace Go.Proofs.YtepiegbmcaggdaaDoor
open Go Go.RowKit Go.Maps

set_option maxRecDepth 100000 in
set_option maxHeartbeats 2000000 in
theorem declare_dup (n : ByteArray) (l : List Attr) (ao : Option Addr) (cap cb mb sz : Nat) (D : DataW Value) (w : World) (hr : ResAt w) (hk : KindAt w) (hcap : l.length ≤ cap) (hc : AttrsAt w ao l) (hcat : CatAt w cb mb sz D) (hn : n.size ≤ 32)
    (hf : faultB n l = 0) (hh : Maps.has D (keyL n) = true) :
    Calls Tryd.prog 8 #[.pointer (some ⟨cb, 0, none⟩), .agg #[.string n, .slice ao l.length cap]] w fun e w' => e = .returned (.int .i64 5) ∧ Below w.heap.size w w' := by
  have hfb : (faultB n l == 0) = true := by simpa using hf
  have HR := Lib.hid (hr.alloc (Obj.cells #[Value.string n, Value.slice ao l.length cap] 27))
  have HK := Lib.hid (hk.alloc (Obj.cells #[Value.string n, Value.slice ao l.length cap] 27))
  have HC := Lib.hid (hc.below' (w' := w.alloc (Obj.cells #[Value.string n, Value.slice ao l.length cap] 27)) ((Below.refl _ _).alloc (Nat.le_refl _) _))
  have HCT := Lib.hid (hcat.below (w' := w.alloc (Obj.cells #[Value.string n, Value.slice ao l.length cap] 27)) ((Below.refl _ _).alloc (Nat.le_refl _) _))
  obtain ⟨hcb, hmb⟩ := hcat.lt
  have HH := Lib.hid hh
  clear hr hk hc hf hcat hh
  go_enter Tryd.func8, Tryd.ntmps8
  go_wp2_with (go_at_call 19; refine (fault_any n l ao cap _ HR.out HK.out hcap HC.out).mono ?_; rintro e w1 ⟨rfl, hb1⟩)
  have hct1 := HCT.out.below hb1
  obtain ⟨nm, a, ln, c, hlk, hat⟩ := hct1.look n (by unfold maxLen; omega)
  have HL := Lib.hid (fun (W : World) (hW : W.heap[mb]? = w1.heap[mb]?) => (show (Instr.lookup 56 (.map (some mb)) (.string n) true).run Tryd.prog W = .ok (.tuple #[.agg #[.string nm, .slice a ln c], .bool true]) W by
    have := hct1.look_at (by unfold maxLen; omega) hat W hW
    rwa [HH.out] at this))
  have g0 := hct1.cell
  have g1 := cell_new hb1 0 _ rfl
  have hs1 : w.heap.size + 1 ≤ w1.heap.size := by have := hb1.size; simpa using this
  clear hct1 hat
  rw [HH.out] at hlk
  go_region_held3 (fun w' => w'.cell? ⟨cb, 0, none⟩ = some (.map (some mb)) ∧ w'.cell? ⟨w.heap.size, 0, none⟩ = some (.string n) ∧ (Instr.lookup 56 (.map (some mb)) (.string n) true).run Tryd.prog w' = .ok (.tuple #[.agg #[.string nm, .slice a ln c], .bool true]) w')
    ((go_split_ands; refine ⟨by go_keep, by go_keep, ?_⟩; (first | exact HL.out _ rfl | exact HL.out _ (Below.heap_alloc _ _ mb (by omega)))))
    (fail)
  all_goals
    go_wp2
    go_ret
    exact ⟨rfl, ((below_new hb1).alloc (by omega) _).drew⟩

/-- An empty map's block. -/
theorem empty_block {w : World} {mb sz : Nat} (h : w.ownsMap Tryd.prog 9 exactR mb sz (.map [])) : ∃ clock, w.heap[mb]? = some (.map #[] clock) := by
  have h0 := h.len (P := Tryd.prog) Tryd.underlying56 3
  obtain ⟨es, clock, hb, F, hs, hD⟩ := h
  have hl : es.size = 0 := by
    have := congrArg Maps.size hD
    simpa [Maps.size, length_sorted] using this.symm
  have : es = #[] := Array.eq_empty_of_size_eq_zero hl
  subst this
  exact ⟨clock, hb⟩

theorem insertion_empty (a : Option Addr) (c : Nat) (f : Value) (w : World) : Calls Tryd.prog 57 #[.slice a 0 c, .int .i64 0, .int .i64 0, f] w fun e w' => e = .returned (.tuple #[]) ∧ w = w' := by
  go_enter Tryd.func57, Tryd.ntmps57
  go_wp2
  refine wp_loop_rounds 1 ?_
  rw [rounds_succ]
  go_wp2
  go_end0
  exact ⟨rfl, rfl⟩

theorem pdq_empty (a : Option Addr) (c : Nat) (lim : Int) (f : Value) (w : World) : Calls Tryd.prog 42 #[.slice a 0 c, .int .i64 0, .int .i64 0, .int .i64 lim, f] w fun e w' => e = .returned (.tuple #[]) ∧ w = w' := by
  go_enter Tryd.func42, Tryd.ntmps42
  go_wp2
  refine wp_loop_rounds 1 ?_
  rw [rounds_succ]
  go_wp2_with (go_at_call 57; refine (insertion_empty _ _ _ _).mono ?_; rintro e w' ⟨rfl, rfl⟩)
  exact bodyPost_ret (v := .tuple #[]) (by simp [results, Tryd.results42, go_sem]) rfl ⟨rfl, rfl⟩

theorem sort_empty (a : Option Addr) (c : Nat) (f : Value) (w : World) : Calls Tryd.prog 28 #[.slice a 0 c, f] w fun e w' => e = .returned (.tuple #[]) ∧ Below w.heap.size w w' := by
  go_enter Tryd.func28, Tryd.ntmps28
  go_wp2_with (first | (go_at_call 43; refine (Tryd.bits_Len 0 _ (by omega) (by omega)).mono ?_; rintro e w' ⟨rfl, rfl⟩) | (go_at_call 42; refine (pdq_empty _ _ _ _ _).mono ?_; rintro e w' ⟨rfl, rfl⟩))
  go_end0
  exact ⟨rfl, Below.refl _ _⟩

set_option maxRecDepth 100000 in
set_option maxHeartbeats 2000000 in
/-- List of an empty catalog. -/
theorem list_empty (cb mb sz : Nat) (w : World) (hcat : CatAt w cb mb sz (.map [])) :
    Calls Tryd.prog 17 #[.pointer (some ⟨cb, 0, none⟩)] w fun e w' => (∃ a c, e = .returned (.slice a 0 c)) ∧ Below w.heap.size w w' := by
  have g0 := hcat.cell
  have hlt := hcat.lt
  obtain ⟨clock, hbl⟩ := empty_block hcat.owns
  have HCT := Lib.hid hcat
  have hs0 : Maps.size (.map [] : DataW Value) = 0 := rfl
  have hmk : ∀ w, (Instr.makeSlice 54 (.int .i64 0) (.int .i64 0)).run Tryd.prog w = .ok (.slice (some ⟨w.heap.size, 0, none⟩) 0 0) (w.alloc (.cells #[] 27)) := fun _ => by kernel_rfl
  have hb1 : (w.alloc (.cells #[] 27)).heap[mb]? = some (.map #[] clock) := by rw [Below.heap_alloc _ _ _ hlt.2]; exact hbl
  have hrg := run_range_map (P := Tryd.prog) (w.alloc (.cells #[] 27)) 56 9 27 mb #[] clock Tryd.underlying56 hb1
  have hnx := fun ty => run_next_map (P := Tryd.prog) (w.alloc (.cells #[] 27)) ty mb clock clock #[] #[] clock hb1 (by simp) (Nat.le_refl _)
  have hnx2 : ∀ ty, (Instr.next (.pointer (some ⟨w.heap.size + 1, 0, none⟩)) false ty).run Tryd.prog ((w.alloc (.cells #[] 27)).alloc (.mapIter (some mb) clock #[] clock)) = .ok (.tuple #[.bool false]) ((w.alloc (.cells #[] 27)).alloc (.mapIter (some mb) clock #[] clock)) := by
    intro ty
    rcases hnx ty with ⟨_, h⟩ | ⟨e, he, _⟩
    · rwa [World.size_alloc] at h
    · simp [leftOf] at he
  clear hcat hnx hbl hb1
  go_enter Tryd.func17, Tryd.ntmps17
  go_wp2_with (first | (at_len; refine wpList_len_own _ rfl _ 56 rfl 9 27 Tryd.underlying56 exactR mb sz (.map []) rfl HCT.out.owns ?_))
  refine wp_loop_rounds 1 ?_
  rw [rounds_succ]
  go_wp2_with (go_at_call 28; refine (sort_empty _ _ _ _).mono ?_; rintro e w' ⟨rfl, hb⟩)
  go_ret
  exact ⟨⟨_, _, rfl⟩, (((Below.refl _ _).alloc (Nat.le_refl _) _).alloc (by simp) _).trans (hb.mono (by simp; omega))⟩
end Go.Proofs.YtepiegbmcaggdaaDoor
