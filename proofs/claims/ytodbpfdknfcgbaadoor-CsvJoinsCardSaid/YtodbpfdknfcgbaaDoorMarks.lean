/- The laws' marks. -/
import Derived.Test.YtodbpfdknfcgbaaDoorRefJoin
namespace Go.Proofs.YtodbpfdknfcgbaaDoor
open Go Go.RowKit

def markB (k : Nat) : List UInt8 := [114, UInt8.ofNat (65 + k)]
def markS (k : Nat) : ByteArray := ⟨#[114, UInt8.ofNat (65 + k)]⟩
def marksB (n : Nat) : List (List UInt8) := (List.range n).map markB
theorem marks_len (n : Nat) : (marksB n).length = n := by simp [marksB]
theorem marks_snoc (n : Nat) : marksB (n + 1) = marksB n ++ [markB n] := by simp [marksB, List.range_succ]
theorem conv_mark (w : World) (k : Nat) (h : k < 20) : (convert 58 9 (.slice (some ⟨w.heap.size, 0, none⟩) 2 2)).run Tryd.prog (w.alloc (Obj.cells #[Value.int IntKind.u8 114, Value.int IntKind.u8 (65 + (k : Int))] 5)) = .ok (.string (markS k)) (w.alloc (Obj.cells #[Value.int IntKind.u8 114, Value.int IntKind.u8 (65 + (k : Int))] 5)) :=
  run_convert_bytes_back (P := Tryd.prog) (w.alloc (Obj.cells #[Value.int IntKind.u8 114, Value.int IntKind.u8 (65 + (k : Int))] 5)) 58 9 5 ⟨w.heap.size, 0, none⟩ 2 (markB k) Tryd.underlying58 Tryd.underlying5 Tryd.underlying9
    (fun j hj => by
      have hj2 : j < 2 := hj
      rcases (show j = 0 ∨ j = 1 by omega) with rfl | rfl
      · simp [Addr.add, markB]
      · simp [Addr.add, markB]
        omega)

set_option maxHeartbeats 8000000 in
set_option maxRecDepth 100000 in
theorem word_any (k : Nat) (w : World) (h : k < 20) : Calls Tryd.prog 26 #[.int .i64 k] w fun e w' => e = .returned (.string (markS k)) ∧ Below w.heap.size w w' := by
  have hcv := conv_mark w k h
  have hw : IntKind.u8.wrap (65 + (k : Int)) = 65 + (k : Int) := by
    have h1 : IntKind.u8.wrap (65 + (k : Int)) = (65 + (k : Int)) % 256 := by simp [IntKind.wrap, IntKind.bits, IntKind.signed]
    rw [h1]
    omega
  go_enter Tryd.func26, Tryd.ntmps26
  go_wp2_with fail
  go_ret
  exact ⟨rfl, (Below.refl _ _).alloc (Nat.le_refl _) _⟩
end Go.Proofs.YtodbpfdknfcgbaaDoor
