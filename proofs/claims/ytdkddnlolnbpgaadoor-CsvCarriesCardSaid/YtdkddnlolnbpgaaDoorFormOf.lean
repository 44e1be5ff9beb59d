/- Package csv: the form of a kind. -/
import Derived.Test.YtdkddnlolnbpgaaDoorCarry
import Derived.Laws.Tables
import Derived.Laws.EntriesVeiled
import Derived.Deep.WholeRow
namespace Go.Proofs.YtdkddnlolnbpgaaDoor
open Go Go.RowKit

def fnV (f : FuncId) : Value := .func (.func f) #[] #[]
def formCells : Array Value := #[.nilFunc, .nilFunc, .func (.func 21) #[] #[], .func (.func 13) #[] #[], .func (.func 22) #[] #[], .func (.func 23) #[] #[], .func (.func 21) #[] #[], .func (.func 13) #[] #[]]
set_option maxHeartbeats 8000000 in
set_option maxRecDepth 100000 in
theorem formOf_at (k : Nat) (r s : FuncId) (hk : k < 4) (hr : formCells[k * 2]? = some (.func (.func r) #[] #[])) (hs : formCells[k * 2 + 1]? = some (.func (.func s) #[] #[])) (K : Int) (hK : K = (k : Int)) (w : World) : Calls Tryd.prog 14 #[.int .i64 K] w fun e w' => e = .returned (.agg #[.func (.func r) #[] #[], .func (.func s) #[] #[]]) ∧ Below w.heap.size w w' := by
  subst hK
  obtain ⟨W1, hW1⟩ : ∃ W, W = w.alloc (Obj.cells #[.nilFunc, .nilFunc] 52) := ⟨_, rfl⟩
  obtain ⟨W2, hW2⟩ : ∃ W, W = W1.alloc (Obj.cells formCells 66) := ⟨_, rfl⟩
  have HB := Lib.hid (show Below w.heap.size w W2 by rw [hW2, hW1]; exact ((Below.refl _ _).alloc (Nat.le_refl _) _).alloc (by rw [World.size_alloc]; omega) _)
  have hF : W2.heap[W1.heap.size]? = some (Obj.cells formCells 66 (0, 0)) := by rw [hW2]; exact heap_alloc_new _ _
  have d0 : W2.cell? ⟨W1.heap.size, k * 2, none⟩ = some (.func (.func r) #[] #[]) := by rw [cell_of_row _ _ _ _ _ _ hF]; exact hr
  have d1 : W2.cell? ⟨W1.heap.size, k * 2 + 1, none⟩ = some (.func (.func s) #[] #[]) := by rw [cell_of_row _ _ _ _ _ _ hF]; exact hs
  have hR : W2.heap[w.heap.size]? = some (Obj.cells #[.nilFunc, .nilFunc] 52 (0, 0)) := by rw [hW2, heap_alloc_old _ _ (by rw [hW1, World.size_alloc]; omega), hW1]; exact heap_alloc_new _ _
  obtain ⟨p, hp⟩ : ∃ p, p = w.heap.size := ⟨_, rfl⟩
  rw [← hp] at hR
  have e0 : W2.cell? ⟨p, 0, none⟩ = some .nilFunc := by rw [cell_of_row _ _ _ _ _ _ hR]; rfl
  have e1 : W2.cell? ⟨p, 1, none⟩ = some .nilFunc := by rw [cell_of_row _ _ _ _ _ _ hR]; rfl
  have f0 := frozen_of_row _ p 0 _ _ hR
  have f1 := frozen_of_row _ p 1 _ _ hR
  have HP := Lib.hid hp
  have HW1 := Lib.hid hW1
  have HW2 := Lib.hid hW2
  have k0 : (0 : Int) ≤ (k : Int) := by omega
  have k1 : (k : Int) < 4 := by omega
  clear hW1 hW2 hF hr hs hR hp
  go_enter Tryd.func14, Tryd.ntmps14
  go_upto_region 1 with fail
  rw [← HW1.out]
  go_upto_region 2 with (refine wpList_store_row rfl 66 _ _ rfl _ formCells rfl rfl 66 _ (heap_alloc_new _ _) (by kernel_rfl) rfl (by kernel_rfl) ?_)
  rw [World.setRow_alloc_new, ← HW2.out, ← HP.out]
  go_wp2_with fail
  refine bodyPost_ret (v := .agg #[.func (.func r) #[] #[], .func (.func s) #[] #[]]) (by simp [results, Tryd.results14, go_sem, e0, e1]) rfl ⟨rfl, ?_⟩
  exact (HB.out.setCell (by rw [HP.out]; exact Nat.le_refl _) _).setCell (by rw [HP.out]; exact Nat.le_refl _) _
set_option maxHeartbeats 8000000 in
set_option maxRecDepth 100000 in
theorem formOf_nil (k : Nat) (hk : k < 4) (hr : formCells[k * 2]? = some .nilFunc) (hs : formCells[k * 2 + 1]? = some .nilFunc) (K : Int) (hK : K = (k : Int)) (w : World) : Calls Tryd.prog 14 #[.int .i64 K] w fun e w' => e = .returned (.agg #[.nilFunc, .nilFunc]) ∧ Below w.heap.size w w' := by
  subst hK
  obtain ⟨W1, hW1⟩ : ∃ W, W = w.alloc (Obj.cells #[.nilFunc, .nilFunc] 52) := ⟨_, rfl⟩
  obtain ⟨W2, hW2⟩ : ∃ W, W = W1.alloc (Obj.cells formCells 66) := ⟨_, rfl⟩
  have HB := Lib.hid (show Below w.heap.size w W2 by rw [hW2, hW1]; exact ((Below.refl _ _).alloc (Nat.le_refl _) _).alloc (by rw [World.size_alloc]; omega) _)
  have hF : W2.heap[W1.heap.size]? = some (Obj.cells formCells 66 (0, 0)) := by rw [hW2]; exact heap_alloc_new _ _
  have d0 : W2.cell? ⟨W1.heap.size, k * 2, none⟩ = some .nilFunc := by rw [cell_of_row _ _ _ _ _ _ hF]; exact hr
  have d1 : W2.cell? ⟨W1.heap.size, k * 2 + 1, none⟩ = some .nilFunc := by rw [cell_of_row _ _ _ _ _ _ hF]; exact hs
  have hR : W2.heap[w.heap.size]? = some (Obj.cells #[.nilFunc, .nilFunc] 52 (0, 0)) := by rw [hW2, heap_alloc_old _ _ (by rw [hW1, World.size_alloc]; omega), hW1]; exact heap_alloc_new _ _
  obtain ⟨p, hp⟩ : ∃ p, p = w.heap.size := ⟨_, rfl⟩
  rw [← hp] at hR
  have e0 : W2.cell? ⟨p, 0, none⟩ = some .nilFunc := by rw [cell_of_row _ _ _ _ _ _ hR]; rfl
  have e1 : W2.cell? ⟨p, 1, none⟩ = some .nilFunc := by rw [cell_of_row _ _ _ _ _ _ hR]; rfl
  have f0 := frozen_of_row _ p 0 _ _ hR
  have f1 := frozen_of_row _ p 1 _ _ hR
  have HP := Lib.hid hp
  have HW1 := Lib.hid hW1
  have HW2 := Lib.hid hW2
  have k0 : (0 : Int) ≤ (k : Int) := by omega
  have k1 : (k : Int) < 4 := by omega
  clear hW1 hW2 hF hr hs hR hp
  go_enter Tryd.func14, Tryd.ntmps14
  go_upto_region 1 with fail
  rw [← HW1.out]
  go_upto_region 2 with (refine wpList_store_row rfl 66 _ _ rfl _ formCells rfl rfl 66 _ (heap_alloc_new _ _) (by kernel_rfl) rfl (by kernel_rfl) ?_)
  rw [World.setRow_alloc_new, ← HW2.out, ← HP.out]
  go_wp2_with fail
  refine bodyPost_ret (v := .agg #[.nilFunc, .nilFunc]) (by simp [results, Tryd.results14, go_sem, e0, e1]) rfl ⟨rfl, ?_⟩
  exact (HB.out.setCell (by rw [HP.out]; exact Nat.le_refl _) _).setCell (by rw [HP.out]; exact Nat.le_refl _) _
theorem field_fn (a b : FuncId) : (∀ w, (Instr.field 52 (.agg #[.func (.func a) #[] #[], .func (.func b) #[] #[]]) 0).run Tryd.prog w = .ok (.func (.func a) #[] #[]) w) ∧ (∀ w, (Instr.field 52 (.agg #[.func (.func a) #[] #[], .func (.func b) #[] #[]]) 1).run Tryd.prog w = .ok (.func (.func b) #[] #[]) w) :=
  ⟨fun _ => by kernel_rfl, fun _ => by kernel_rfl⟩
theorem field_nil : (∀ w, (Instr.field 52 (.agg #[.nilFunc, .nilFunc]) 0).run Tryd.prog w = .ok .nilFunc w) :=
  fun _ => by kernel_rfl
theorem formOf_one (w : World) : Calls Tryd.prog 14 #[.int .i64 1] w fun e w' => e = .returned (.agg #[fnV 21, fnV 13]) ∧ Below w.heap.size w w' := formOf_at 1 _ _ (by omega) rfl rfl 1 rfl w
theorem formOf_two (w : World) : Calls Tryd.prog 14 #[.int .i64 2] w fun e w' => e = .returned (.agg #[fnV 22, fnV 23]) ∧ Below w.heap.size w w' := formOf_at 2 _ _ (by omega) rfl rfl 2 rfl w
theorem formOf_three (w : World) : Calls Tryd.prog 14 #[.int .i64 3] w fun e w' => e = .returned (.agg #[fnV 21, fnV 13]) ∧ Below w.heap.size w w' := formOf_at 3 _ _ (by omega) rfl rfl 3 rfl w
set_option maxHeartbeats 8000000 in
set_option maxRecDepth 100000 in
theorem formOf_no (k : Int) (hk : ¬ KindOk k) (w : World) : Calls Tryd.prog 14 #[.int .i64 k] w fun e w' => e = .returned (.agg #[.nilFunc, .nilFunc]) ∧ Below w.heap.size w w' := by
  by_cases h0 : k = 0
  · exact formOf_nil 0 (by omega) rfl rfl k h0 w
  have hk2 : k < 0 ∨ 4 ≤ k := by
    unfold KindOk at hk
    omega
  clear hk h0
  obtain ⟨W1, hW1⟩ : ∃ W, W = w.alloc (Obj.cells #[.nilFunc, .nilFunc] 52) := ⟨_, rfl⟩
  obtain ⟨W2, hW2⟩ : ∃ W, W = W1.alloc (Obj.cells formCells 66) := ⟨_, rfl⟩
  have HB := Lib.hid (show Below w.heap.size w W2 by rw [hW2, hW1]; exact ((Below.refl _ _).alloc (Nat.le_refl _) _).alloc (by rw [World.size_alloc]; omega) _)
  have hR : W2.heap[w.heap.size]? = some (Obj.cells #[.nilFunc, .nilFunc] 52 (0, 0)) := by rw [hW2, heap_alloc_old _ _ (by rw [hW1, World.size_alloc]; omega), hW1]; exact heap_alloc_new _ _
  obtain ⟨p, hp⟩ : ∃ p, p = w.heap.size := ⟨_, rfl⟩
  rw [← hp] at hR
  have e0 : W2.cell? ⟨p, 0, none⟩ = some .nilFunc := by rw [cell_of_row _ _ _ _ _ _ hR]; rfl
  have e1 : W2.cell? ⟨p, 1, none⟩ = some .nilFunc := by rw [cell_of_row _ _ _ _ _ _ hR]; rfl
  have f0 := frozen_of_row _ p 0 _ _ hR
  have f1 := frozen_of_row _ p 1 _ _ hR
  have HP := Lib.hid hp
  have HW1 := Lib.hid hW1
  have HW2 := Lib.hid hW2
  clear hW1 hW2 hR hp
  rcases hk2 with h | h
  · have h1 : k < (0 : Int) := h
    go_enter Tryd.func14, Tryd.ntmps14
    go_upto_region 1 with fail
    rw [← HW1.out]
    go_upto_region 2 with (refine wpList_store_row rfl 66 _ _ rfl _ formCells rfl rfl 66 _ (heap_alloc_new _ _) (by kernel_rfl) rfl (by kernel_rfl) ?_)
    rw [World.setRow_alloc_new, ← HW2.out, ← HP.out]
    go_wp2_with fail
    refine bodyPost_ret (v := .agg #[.nilFunc, .nilFunc]) (by simp [results, Tryd.results14, go_sem, e0, e1]) rfl ⟨rfl, ?_⟩
    exact (HB.out.setCell (by rw [HP.out]; exact Nat.le_refl _) _).setCell (by rw [HP.out]; exact Nat.le_refl _) _
  · have h1 : ¬ k < (0 : Int) := by omega
    have h2 : (4 : Int) ≤ k := h
    go_enter Tryd.func14, Tryd.ntmps14
    go_upto_region 1 with fail
    rw [← HW1.out]
    go_upto_region 2 with (refine wpList_store_row rfl 66 _ _ rfl _ formCells rfl rfl 66 _ (heap_alloc_new _ _) (by kernel_rfl) rfl (by kernel_rfl) ?_)
    rw [World.setRow_alloc_new, ← HW2.out, ← HP.out]
    go_wp2_with fail
    refine bodyPost_ret (v := .agg #[.nilFunc, .nilFunc]) (by simp [results, Tryd.results14, go_sem, e0, e1]) rfl ⟨rfl, ?_⟩
    exact (HB.out.setCell (by rw [HP.out]; exact Nat.le_refl _) _).setCell (by rw [HP.out]; exact Nat.le_refl _) _
end Go.Proofs.YtdkddnlolnbpgaaDoor
