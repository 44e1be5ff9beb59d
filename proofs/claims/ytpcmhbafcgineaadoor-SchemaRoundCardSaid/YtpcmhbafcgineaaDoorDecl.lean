/- Package schema, the reader's declaration at a text that spells one. -/
import Derived.Test.YtpcmhbafcgineaaDoorAttribs
namespace Go.Proofs.YtpcmhbafcgineaaDoor
open Go Go.RowKit

theorem below_drewN {B : Nat} {a w : World} (h : Below B a w) (n : Nat) : Below B a (w.drewN n) := ⟨h.os, h.tape, h.output, h.size, h.block⟩
theorem owns_drewN {w : World} {base : Nat} {e : TypeId} {size : Nat} {v : Value} {n : Nat} {xs : List Value} (h : w.ownsRow base e size v n xs) (k : Nat) : (w.drewN k).ownsRow base e size v n xs := h
set_option maxHeartbeats 8000000 in
set_option maxRecDepth 100000 in
theorem declaration_ok (t : ByteArray) (p rb : Nat) (n : ByteArray) (l : List SpA) (g0 g1 g2 ge : List UInt8) (w : World) (hres : ResAt w) (hkd : KindAt w) (hrk : 1 ≠ rb) (hrr : 0 ≠ rb) (hr : ReadAt w rb t p) (ht : t.size ≤ maxLen)
    (hl : l.length ≤ 16) (hgood : ∀ x ∈ l, x.Good) (hn : nameB n = true) (hnew : ∀ k (h : k < l.length), hasB ((l.map SpA.attr).take k) l[k].n = false)
    (hL : GoodL (declToks g0 g1 g2 ge n l)) (hat : AtL t p (declToks g0 g1 g2 ge n l)) :
    Calls Tryd.prog 25 #[.pointer (some ⟨rb, 0, none⟩)] w fun e w' => (∃ va cap, e = .returned (.tuple #[.agg #[.string n, .slice va l.length cap], .int .i64 0]) ∧ w'.ownsRow w.heap.size 38 2 (.slice va l.length cap) l.length (attrCells (l.map SpA.attr))) ∧ ∃ q, ReadTo rb w w' q := by
  have hrl := hr.lt
  obtain ⟨a1, _, a3⟩ := hat.step hL
  have hL1 := hL.2.2.2
  obtain ⟨p1, hp1⟩ : ∃ p1, p1 = skipB t (p + [(84 : UInt8), 89, 80, 69].length) := ⟨_, rfl⟩
  rw [← hp1] at a3
  obtain ⟨b1, _, b3⟩ := a3.step hL1
  have hL2 := hL1.2.2.2
  obtain ⟨p2, hp2⟩ : ∃ p2, p2 = skipB t (p1 + n.data.toList.length) := ⟨_, rfl⟩
  rw [← hp2] at b3
  have hp := hat.1
  have hp1l := a3.1
  have HR := Lib.hid hr
  have HRes := Lib.hid hres
  have HKD := Lib.hid hkd
  have HA := Lib.hid a1
  have HB := Lib.hid (show aheadB t p1 = n from b1)
  have HN := Lib.hid (show nameB (aheadB t p1) = true by rw [HB.out]; exact hn)
  have HP1 := Lib.hid hp1
  have HP2 := Lib.hid hp2
  obtain ⟨W0, hW0⟩ : ∃ W0, W0 = w.alloc (Obj.cells #[Value.string ⟨#[]⟩, Value.slice none 0 0] 27) := ⟨_, rfl⟩
  have HB0 := Lib.hid (show Below w.heap.size w W0 by rw [hW0]; exact (Below.refl _ _).alloc (Nat.le_refl _) _)
  have HR0 := Lib.hid (hr.below HB0.out)
  have HRes0 := Lib.hid (hres.below HB0.out)
  have HKD0 := Lib.hid (hkd.below HB0.out (Nat.le_refl _))
  have hz0 : w.heap.size < W0.heap.size := by rw [hW0]; simp
  have hrl0 : rb < W0.heap.size := by omega
  have z0 : W0.cell? ⟨w.heap.size, 0, none⟩ = some (.string ⟨#[]⟩) := by rw [hW0]; simp
  have z1 : W0.cell? ⟨w.heap.size, 1, none⟩ = some (.slice none 0 0) := by rw [hW0]; simp
  have y0 : W0.frozen? ⟨w.heap.size, 0, none⟩ = false := by rw [hW0]; exact World.frozen?_alloc_new _ _ _ _
  have y1 : W0.frozen? ⟨w.heap.size, 1, none⟩ = false := by rw [hW0]; exact World.frozen?_alloc_new _ _ _ _
  have HW0 := Lib.hid hW0
  have HATT := Lib.hid (fun (W : World) (h1 : ReadTo rb W0 W p2) => attributes_ok t p2 rb l g2 ge W (res_to h1 HRes0.out hrr) (kind_to h1 HKD0.out hrk) hrk hrr (h1.place HR0.out) ht hl hgood hnew hL2 b3)
  clear hr hres hkd hgood hn hnew hL hat hL1 hL2 a1 a3 b1 b3 hp1 hp2 hW0
  go_enter Tryd.func25, Tryd.ntmps25
  go_wp2_with fail
  rw [← HW0.out]
  refine (pass_yes t ⟨#[84, 89, 80, 69]⟩ p rb _ HR0.out hp ht HA.out).mono ?_; rintro e w2 ⟨rfl, w1, hb1, rfl⟩
  have e1 : skipB t (p + (⟨#[84, 89, 80, 69]⟩ : ByteArray).size) = p1 := HP1.out.symm
  rw [e1]
  have HT := Lib.hid (ReadTo.of (rb := rb) (q := p1) hb1)
  obtain ⟨w2, hw2⟩ : ∃ w2, w2 = w1.setCell ⟨rb, 1, none⟩ (.int .i64 (p1 : Nat)) := ⟨_, rfl⟩
  rw [← hw2] at HT ⊢
  clear hw2 hb1 e1
  go_wp2_with fail
  refine (typeName_ok t p1 rb _ (res_to HT.out HRes0.out hrr) (HT.out.place HR0.out) hp1l ht HN.out).mono ?_; rintro e w3 ⟨rfl, w4, hb4, rfl⟩
  rw [HB.out]
  have e2 : skipB t (p1 + n.size) = p2 := HP2.out.symm
  rw [e2]
  have HT5 := Lib.hid (HT.out.trans (ReadTo.of (rb := rb) (q := p2) hb4))
  obtain ⟨w5, hw5⟩ : ∃ w5, w5 = w4.setCell ⟨rb, 1, none⟩ (.int .i64 (p2 : Nat)) := ⟨_, rfl⟩
  rw [← hw5] at HT5 ⊢
  clear hw5 hb4 e2
  go_wp2_with fail
  refine (HATT.out w5 HT5.out).mono ?_; rintro e w6 ⟨⟨va, cap, rfl, hown⟩, q, hto, hend⟩
  have HQ := Lib.hid hend.done
  have HT6 := Lib.hid (HT5.out.trans hto)
  have HOWN := Lib.hid hown
  have z5 := HT5.out.size
  have z6 := hto.size
  clear hto hown hend
  have c0 := (HT6.out.place HR0.out).c0
  have c1 := (HT6.out.place HR0.out).c1
  rw [HQ.out] at c1
  have hne : rb ≠ w.heap.size := by omega
  have z0' := (HT6.out.cell (o := 0) hz0 hne).trans z0
  have z1' := (HT6.out.cell (o := 1) hz0 hne).trans z1
  have y0' := (HT6.out.frozen (o := 0) hz0).trans y0
  have y1' := (HT6.out.frozen (o := 1) hz0).trans y1
  clear z0 z1 y0 y1
  have q0 : ((t.size : Int) != (t.size : Int)) = false := by simp
  go_wp2_with fail
  go_quiet (fail)
  go_wp2_with fail
  refine bodyPost_ret (v := .tuple #[.agg #[.string n, .slice va l.length cap], .int .i64 0]) (by simp [results, Tryd.results25, go_sem, z0', z1']) rfl ⟨⟨va, cap, rfl, ?_⟩, q, ?_⟩
  · exact owns_drewN (ownsRow_base (ownsRow_setCell_below (ownsRow_setCell_below HOWN.out (by simp; omega) _) (by simp; omega) _) (by omega)) _
  · exact below_drewN (Below.setCell (Below.setCell (ReadTo.pre HB0.out HT6.out) (Nat.le_refl _) _) (Nat.le_refl _) _) _
end Go.Proofs.YtpcmhbafcgineaaDoor
