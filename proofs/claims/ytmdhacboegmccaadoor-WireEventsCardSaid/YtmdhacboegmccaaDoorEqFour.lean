/- Two arrays of four bytes, held against each other. -/
import Derived.Test.YtmdhacboegmccaaDoorEvents
import Derived.DeepKeys
namespace Go.Proofs.YtmdhacboegmccaaDoor
open Go Go.RowKit

theorem wf_u8 (x : UInt8) : (Lit.int .u8 (x.toNat : Int)).wf = true := by
  have := x.toNat_lt
  have h1 : IntKind.u8.min = 0 := by decide
  have h2 : IntKind.u8.max = 255 := by decide
  simp only [Lit.wf, h1, h2, Bool.and_eq_true, decide_eq_true_eq]
  omega
theorem cells4u : Tryd.prog.cellsOf 91 = 4 := by kernel_rfl
theorem cells1u : Tryd.prog.cellsOf 5 = 1 := by kernel_rfl
theorem lits4 (a b c d : UInt8) : Tryd.prog.keyLits 2 91 [.int .u8 (a.toNat : Int), .int .u8 (b.toNat : Int), .int .u8 (c.toNat : Int), .int .u8 (d.toNat : Int)] = some [.int .u8 (a.toNat : Int), .int .u8 (b.toNat : Int), .int .u8 (c.toNat : Int), .int .u8 (d.toNat : Int)] := by
  simp [Program.keyLits, Tryd.underlying91, Tryd.underlying5, cells4u, cells1u, wf_u8, List.range, List.range.loop]
theorem eq4 (s0 s1 s2 s3 t0 t1 t2 t3 : UInt8) (W : World) :
    (Op.equalIn 10000 91 (.agg #[.int .u8 (s0.toNat : Int), .int .u8 (s1.toNat : Int), .int .u8 (s2.toNat : Int), .int .u8 (s3.toNat : Int)]) (.agg #[.int .u8 (t0.toNat : Int), .int .u8 (t1.toNat : Int), .int .u8 (t2.toNat : Int), .int .u8 (t3.toNat : Int)])).run Tryd.prog W = .ok (decide ([s0, s1, s2, s3] = [t0, t1, t2, t3])) W := by
  obtain ⟨r, hr, he⟩ := run_equalIn_deep (P := Tryd.prog) 9998 2 91 (by kernel_rfl) W 2 2 (.agg #[.int .u8 (s0.toNat : Int), .int .u8 (s1.toNat : Int), .int .u8 (s2.toNat : Int), .int .u8 (s3.toNat : Int)]) (.agg #[.int .u8 (t0.toNat : Int), .int .u8 (t1.toNat : Int), .int .u8 (t2.toNat : Int), .int .u8 (t3.toNat : Int)]) _ _ (by simp [Value.formed, Tryd.underlying91, cells4u]) (by simp [Value.formed, Tryd.underlying91, cells4u]) (lits4 s0 s1 s2 s3) (lits4 t0 t1 t2 t3)
  have e : r = decide ([s0, s1, s2, s3] = [t0, t1, t2, t3]) := by
    rw [Bool.eq_iff_iff, he]
    have hu : ∀ a b : UInt8, ((a.toNat : Int) = (b.toNat : Int)) ↔ a = b := fun a b => by
      rw [Int.ofNat_inj]; exact UInt8.toNat_inj
    simp [hu]
  rw [← e]
  exact hr
end Go.Proofs.YtmdhacboegmccaaDoor
