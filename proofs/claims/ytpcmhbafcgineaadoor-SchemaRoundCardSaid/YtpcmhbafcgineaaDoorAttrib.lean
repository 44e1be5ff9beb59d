/- Package schema, the reader's attribute at a name and a kind. -/
import Derived.Test.YtpcmhbafcgineaaDoorAttr
namespace Go.Proofs.YtpcmhbafcgineaaDoor
open Go Go.RowKit

set_option maxHeartbeats 8000000 in
set_option maxRecDepth 100000 in
theorem attribute_ok (t : ByteArray) (p rb : Nat) (l : List Attr) (ao : Option Addr) (cap : Nat) (w : World) (hres : ResAt w) (hkd : KindAt w) (hrk : 1 ≠ rb) (hr : ReadAt w rb t p) (hk : p ≤ t.size) (ht : t.size ≤ maxLen) (hc : AttrsAt w ao l) (hl : l.length < 16)
    (nm wd : ByteArray) (hnm : aheadB t p = nm) (hn : attrNameB nm = true) (hh : hasB l nm = false) (q : Nat) (hq : skipB t (p + nm.size) = q) (hwd : aheadB t q = wd) (hw : (wordKindB wd == 0) = false) :
    Calls Tryd.prog 55 #[.pointer (some ⟨rb, 0, none⟩), .slice ao l.length cap] w fun e w' => e = .returned (.tuple #[.agg #[.string nm, .int .i64 (wordKindB wd)], .int .i64 0]) ∧ ReadTo rb w w' (skipB t (q + wd.size)) := by
  have hs := aheadB_le t p
  rw [hnm] at hs
  have hq2 : q ≤ t.size := by rw [← hq]; exact skipB_le _ _
  have hs2 := aheadB_le t q
  rw [hwd] at hs2
  have HM := Lib.hid hnm
  have HD := Lib.hid hwd
  have HQ := Lib.hid hq
  have HK := Lib.hid (show p + nm.size ≤ t.size by omega)
  have HK2 := Lib.hid (show q + wd.size ≤ t.size by omega)
  have HW := Lib.hid (word_of_name (show nameB nm = true by unfold attrNameB at hn; simp only [Bool.and_eq_true] at hn; exact hn.1))
  have HN := Lib.hid hn
  have HH := Lib.hid hh
  have hrl := hr.lt
  obtain ⟨W0, hW0⟩ : ∃ W0, W0 = w.alloc (Obj.cells #[Value.string ⟨#[]⟩, Value.int IntKind.i64 0] 38) := ⟨_, rfl⟩
  have HB0 := Lib.hid (show Below w.heap.size w W0 by rw [hW0]; exact (Below.refl _ _).alloc (Nat.le_refl _) _)
  have HR := Lib.hid (hr.below HB0.out)
  have HRes := Lib.hid (hres.below HB0.out)
  have HKD := Lib.hid (hkd.below HB0.out (Nat.le_refl _))
  have HC := Lib.hid (hc.below' HB0.out)
  have hz0 : w.heap.size < W0.heap.size := by rw [hW0]; simp
  have z0 : W0.cell? ⟨w.heap.size, 0, none⟩ = some (.string ⟨#[]⟩) := by rw [hW0]; simp
  have z1 : W0.cell? ⟨w.heap.size, 1, none⟩ = some (.int .i64 0) := by rw [hW0]; simp
  have y0 : W0.frozen? ⟨w.heap.size, 0, none⟩ = false := by rw [hW0]; exact World.frozen?_alloc_new _ _ _ _
  have y1 : W0.frozen? ⟨w.heap.size, 1, none⟩ = false := by rw [hW0]; exact World.frozen?_alloc_new _ _ _ _
  have HW0 := Lib.hid hW0
  clear hW0
  have hl16 : ((l.length : Int) == 16) = false := beq_eq_false_iff_ne.2 (by omega)
  have hl16' : ¬ l.length = 16 := by omega
  clear hr hs hs2 hn hh hnm hwd hq hres hkd hc
  go_enter Tryd.func55, Tryd.ntmps55
  go_wp2_with fail
  rw [← HW0.out]
  refine (ahead_any t p rb _ HR.out hk ht).mono ?_; rintro e w2 ⟨rfl, hb2⟩; rw [HM.out]; have HB2 := Lib.hid hb2; clear hb2
  go_wp2_with fail
  refine (isWord_any nm _).mono ?_; rintro e w3 ⟨rfl, hb3⟩; rw [HW.out]; have HB3 := Lib.hid (HB2.out.trans (hb3.mono HB2.out.size)); clear hb3
  go_wp2_with fail
  refine (attrName_any nm _ (HRes.out.below HB3.out)).mono ?_; rintro e w4 ⟨rfl, hb4⟩; rw [HN.out]; have HB4 := Lib.hid (HB3.out.trans (hb4.mono HB3.out.size)); clear hb4
  go_wp2_with fail
  refine (has_any l ao cap nm _ (by omega) (HC.out.below' HB4.out)).mono ?_; rintro e w5 ⟨rfl, hb5⟩; rw [HH.out]; have HB5 := Lib.hid (HB4.out.trans (hb5.mono HB4.out.size)); clear hb5
  go_wp2_with fail
  refine (move_any t p nm.size rb _ (HR.out.below HB5.out) HK.out ht).mono ?_; rintro e w6 ⟨rfl, w7, hb7, rfl⟩; rw [HQ.out]; have HT := Lib.hid (ReadTo.pre HB5.out (ReadTo.of (rb := rb) (q := q) hb7)); clear hb7
  obtain ⟨w8, hw8⟩ : ∃ w8, w8 = w7.setCell ⟨rb, 1, none⟩ (.int .i64 q) := ⟨_, rfl⟩
  rw [← hw8] at HT ⊢
  clear hw8
  go_wp2_with fail
  refine (ahead_any t q rb _ (HT.out.place HR.out) hq2 ht).mono ?_; rintro e w9 ⟨rfl, hb9⟩; rw [HD.out]; have HT9 := Lib.hid (HT.out.below hb9); clear hb9
  go_wp2_with fail
  refine (wordKind_any wd _ (kind_to HT9.out HKD.out hrk)).mono ?_; rintro e w10 ⟨rfl, rfl⟩
  go_wp2_with fail
  refine (move_any t q wd.size rb _ (HT9.out.place HR.out) HK2.out ht).mono ?_; rintro e w10 ⟨rfl, w11, hb11, rfl⟩; have HT11 := Lib.hid (HT9.out.trans (ReadTo.of (rb := rb) (q := skipB t (q + wd.size)) hb11)); clear hb11
  obtain ⟨w12, hw12⟩ : ∃ w12, w12 = w11.setCell ⟨rb, 1, none⟩ (.int .i64 (skipB t (q + wd.size) : Nat)) := ⟨_, rfl⟩
  rw [← hw12] at HT11 ⊢
  clear hw12
  have z0' := (HT11.out.cell (o := 0) hz0 (by omega)).trans z0
  have z1' := (HT11.out.cell (o := 1) hz0 (by omega)).trans z1
  have y0' := (HT11.out.frozen (o := 0) hz0).trans y0
  have y1' := (HT11.out.frozen (o := 1) hz0).trans y1
  clear z0 z1 y0 y1
  go_wp2_with fail
  refine bodyPost_ret (v := .tuple #[.agg #[.string nm, .int .i64 (wordKindB wd)], .int .i64 0]) (by simp [results, Tryd.results55, go_sem, z0', z1']) rfl ⟨rfl, ?_⟩
  exact Below.setCell (Below.setCell (ReadTo.pre HB0.out HT11.out) (Nat.le_refl _) _) (Nat.le_refl _) _
end Go.Proofs.YtpcmhbafcgineaaDoor
