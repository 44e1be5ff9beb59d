/- Package schema: what is wrong with a type, for every name and every list of attributes. -/
import Derived.Test.YtpcmhbafcgineaaDoorHas
import Derived.Test.YtpcmhbafcgineaaDoorSpec2
import Derived.Deep.RegionWith
import Derived.RegionTactic
import Derived.ChangeAlike
import Derived.Deep.Cut
import Derived.Deep.DeepCutAuto
namespace Go.Proofs.YtpcmhbafcgineaaDoor
open Go Go.RowKit

/-- The table of the kinds' words lies in its variable. -/
def KindAt (w : World) : Prop := ∃ t fr, w.heap[1]? = some (.cells kindCells t fr)
theorem KindAt.lt {w : World} (h : KindAt w) : 1 < w.heap.size := by
  obtain ⟨t, fr, h⟩ := h
  exact (Array.getElem?_eq_some_iff.1 h).1
theorem KindAt.below {B : Nat} {w w' : World} (h : KindAt w) (hb : Below B w w') (hB : w.heap.size ≤ B) : KindAt w' := by
  have hl := h.lt
  obtain ⟨t, fr, h⟩ := h
  exact ⟨t, fr, (hb.block _ (by omega)).trans h⟩
theorem ResAt.below2 {B : Nat} {w w' : World} (h : ResAt w) (hb : Below B w w') (hB : w.heap.size ≤ B) : ResAt w' := by
  have hl := h.lt
  obtain ⟨t, fr, h⟩ := h
  exact ⟨t, fr, (hb.block _ (by omega)).trans h⟩
theorem KindAt.cells {w : World} (h : KindAt w) : w.cell? ⟨1, 0, none⟩ = some (.string ⟨#[]⟩) ∧ w.cell? ⟨1, 1, none⟩ = some (.string ⟨#[73, 78, 84]⟩) ∧ w.cell? ⟨1, 2, none⟩ = some (.string ⟨#[83, 84, 82]⟩) ∧ w.cell? ⟨1, 3, none⟩ = some (.string ⟨#[66, 79, 79, 76]⟩) := by
  obtain ⟨t, fr, h⟩ := h
  simp [World.cell?, h, kindCells]

theorem kindWord_any (k : Int) (w : World) (hk : KindAt w) : Calls Tryd.prog 22 #[.int .i64 k] w fun e w' => e = .returned (.string (kindWordB k)) ∧ w = w' := by
  obtain ⟨c0, c1, c2, c3⟩ := hk.cells
  by_cases h0 : k < 0
  · have HE := Lib.hid (show kindWordB k = ⟨#[]⟩ by unfold kindWordB; rw [if_neg (by omega), if_neg (by omega), if_neg (by omega)])
    go_enter Tryd.func22, Tryd.ntmps22
    go_wp2
    go_ret
    exact ⟨by rw [HE.out]; rfl, rfl⟩
  by_cases h4 : 4 ≤ k
  · have HE := Lib.hid (show kindWordB k = ⟨#[]⟩ by unfold kindWordB; rw [if_neg (by omega), if_neg (by omega), if_neg (by omega)])
    go_enter Tryd.func22, Tryd.ntmps22
    go_wp2
    go_ret
    exact ⟨by rw [HE.out]; rfl, rfl⟩
  have h : k = 0 ∨ k = 1 ∨ k = 2 ∨ k = 3 := by omega
  rcases h with rfl | rfl | rfl | rfl
  all_goals
    go_enter Tryd.func22, Tryd.ntmps22
    go_wp2
    go_ret
    exact ⟨rfl, rfl⟩
theorem kindWordB_none (k : Int) : ((kindWordB k).toList == []) = !(decide (1 ≤ k) && decide (k ≤ 3)) := by
  by_cases h1 : k = 1
  · subst h1; decide +kernel
  by_cases h2 : k = 2
  · subst h2; decide +kernel
  by_cases h3 : k = 3
  · subst h3; decide +kernel
  have e : kindWordB k = ⟨#[]⟩ := by unfold kindWordB; rw [if_neg h1, if_neg h2, if_neg h3]
  have e2 : (!(decide (1 ≤ k) && decide (k ≤ 3))) = true := by simp; omega
  rw [e, e2]
  decide +kernel

theorem ret_err {a b : Int} (h : a = b) : Ending.returned (.int .i64 a) = .returned (.int .i64 b) := by rw [h]

/-- has, over the first k of a list. -/
theorem has_pre (l : List Attr) (k : Nat) (ao : Option Addr) (cap : Nat) (n : ByteArray) (w : World) (hl : l.length ≤ 1000000) (hk : k ≤ l.length) (hc : AttrsAt w ao l) :
    Calls Tryd.prog 32 #[.slice ao k cap, .string n] w fun e w' => e = .returned (.bool (hasB (l.take k) n)) ∧ Below w.heap.size w w' := by
  have h := has_any (l.take k) ao cap n w (by simp; omega) (hc.take k)
  have e : (l.take k).length = k := by simp; omega
  rw [e] at h
  exact h

theorem below_new {w : World} {o : Obj} {w' : World} (h : Below (w.alloc o).heap.size (w.alloc o) w') : Below w.heap.size w w' :=
  ((Below.refl _ _).alloc (Nat.le_refl _) _).trans (h.mono (by simp))
theorem cell_new {w w' : World} {cs : Array Value} {t : TypeId} (h : Below (w.alloc (.cells cs t)).heap.size (w.alloc (.cells cs t)) w') (i : Nat) (v : Value) (hv : cs[i]? = some v) : w'.cell? ⟨w.heap.size, i, none⟩ = some v := by
  rw [h.cell (p := ⟨w.heap.size, i, none⟩) (by simp)]
  simp [hv]
theorem below_step {B : Nat} {w wr w2 : World} {o : Obj} (h : Below B w wr) (hB : B ≤ wr.heap.size) (hb : Below (wr.alloc o).heap.size (wr.alloc o) w2) : Below B w w2 :=
  h.trans ((below_new hb).mono hB)
theorem fault_hit {l : List Attr} {k : Nat} (hk : k < l.length) {a : Attr} (ha : a = l[k]) {f : Int} (hf : attrsFault (l.take k) (l.drop k) = attrsFault [] l) (h : attrFault (l.take k) a = f) (h0 : f ≠ 0) : attrsFault [] l = f := by
  subst ha
  rw [← hf, attrsFault_step l k hk, h, if_neg h0]
theorem fault_next {l : List Attr} {k : Nat} (hk : k < l.length) {a : Attr} (ha : a = l[k]) (hf : attrsFault (l.take k) (l.drop k) = attrsFault [] l) (h : attrFault (l.take k) a = 0) : attrsFault (l.take (k + 1)) (l.drop (k + 1)) = attrsFault [] l := by
  subst ha
  rw [← hf, attrsFault_step l k hk, h, if_pos rfl]
theorem ResAt.alloc {w : World} (h : ResAt w) (o : Obj) : ResAt (w.alloc o) := h.below ((Below.refl _ _).alloc (Nat.le_refl _) _)
theorem KindAt.alloc {w : World} (h : KindAt w) (o : Obj) : KindAt (w.alloc o) := h.below ((Below.refl _ _).alloc (Nat.le_refl _) _) (Nat.le_refl _)

set_option maxRecDepth 100000 in
set_option maxHeartbeats 1000000 in
theorem fault_attrs (n : ByteArray) (l : List Attr) (ao : Option Addr) (cap : Nat) (w : World) (hr : ResAt w) (hk : KindAt w) (hcap : l.length ≤ cap) (hc : AttrsAt w ao l) (h1 : nameB n = true) (h2 : l.length ≤ 16) :
    Calls Tryd.prog 19 #[.agg #[.string n, .slice ao l.length cap]] w fun e w' => e = .returned (.int .i64 (attrsFault [] l)) ∧ Below w.heap.size w w' := by
  obtain ⟨b, o, hcell⟩ : ∃ b o, ∀ i (h : i < l.length), ao = some ⟨b, o, none⟩ ∧ w.cell? ⟨b, o + i * 2, none⟩ = some (.string l[i].1) ∧ w.cell? ⟨b, o + i * 2 + 1, none⟩ = some (.int .i64 l[i].2) := by
    rcases hc with h | ⟨b, o, rfl, h⟩
    · exact ⟨0, 0, fun i hi => absurd hi (by simp [h])⟩
    · exact ⟨b, o, fun i hi => ⟨rfl, h i hi⟩⟩
  have HC := Lib.hid hcell
  have HCA := Lib.hid hc
  clear hcell hc
  have HR := Lib.hid (hr.alloc (Obj.cells #[Value.string n, Value.slice ao l.length cap] 27))
  have HK := Lib.hid (hk.alloc (Obj.cells #[Value.string n, Value.slice ao l.length cap] 27))
  clear hr hk
  go_enter Tryd.func19, Tryd.ntmps19
  go_wp2_with (go_at_call 16; refine (name_any n _ HR.out).mono ?_; rintro e w1 ⟨rfl, hb1⟩; have c1 := cell_new hb1 1 _ rfl)
  have HB1 := Lib.hid hb1
  clear hb1 c1
  go_loopw [16] (fun i wr => ∃ k : Nat, k ≤ l.length ∧ i = .int .i64 k ∧ Below (w.alloc (Obj.cells #[Value.string n, Value.slice ao l.length cap] 27)).heap.size (w.alloc (Obj.cells #[Value.string n, Value.slice ao l.length cap] 27)) wr ∧ attrsFault (l.take k) (l.drop k) = attrsFault [] l) (fun i _ => l.length - (intOf i).toNat)
  case atStart => exact ⟨0, Nat.zero_le _, rfl, HB1.out, rfl⟩
  case round =>
    obtain ⟨k, hk, rfl, hbel, hf⟩ := hrel
    have HF := Lib.hid hf
    have HB := Lib.hid hbel
    clear hf
    by_cases hlt : k < l.length
    · have HS := Lib.hid (attrsFault_step l k hlt)
      obtain ⟨hao, g1, g2⟩ := HC.out k hlt
      subst hao
      have hbl := World.block_lt_of_cell? w _ g1
      simp only at hbl
      have d1 := ((below_new hbel).cell (p := ⟨b, o + k * 2, none⟩) hbl).trans g1
      have d2 := ((below_new hbel).cell (p := ⟨b, o + k * 2 + 1, none⟩) hbl).trans g2
      have c1 := cell_new hbel 1 _ rfl
      have HRr := Lib.hid (HR.out.below hbel)
      have HKr := Lib.hid (HK.out.below hbel (Nat.le_refl _))
      clear g1 g2 hbel
      obtain ⟨⟨m, kd⟩, hm⟩ : ∃ a : Attr, a = l[k] := ⟨_, rfl⟩
      rw [← hm] at d1 d2
      have HM := Lib.hid hm
      clear hm
      have hwz : w.heap.size + 1 ≤ wr.heap.size := by have := HB.out.size; simpa using this
      cases ha : attrNameB m
      · have HT := Lib.hid (fault_hit hlt HM.out HF.out (show attrFault (l.take k) (m, kd) = 20 by simp [attrFault, ha]) (by decide))
        go_wp2_with (go_at_call 31; refine (attrName_any m _ (HRr.out.alloc _)).mono ?_; rintro e w2 ⟨rfl, hb2⟩)
        go_ret
        exact ⟨ret_err HT.out.symm, below_step (below_new HB.out) (by omega) hb2⟩
      · by_cases hkd : 1 ≤ kd ∧ kd ≤ 3
        · have hkw : ((kindWordB kd).toList == []) = false := by rw [kindWordB_none]; simp [hkd]
          cases hh : hasB (l.take k) m
          · have HT := Lib.hid (fault_next hlt HM.out HF.out (show attrFault (l.take k) (m, kd) = 0 by simp [attrFault, ha, hkd, hh]))
            have HKD := Lib.hid hkd
            clear hkd
            go_wp2_with (first | (go_at_call 31; refine (attrName_any m _ (HRr.out.alloc _)).mono ?_; rintro e w2 ⟨rfl, hb2⟩; have e1 := cell_new hb2 0 _ rfl; have e2 := cell_new hb2 1 _ rfl; have HK2 := Lib.hid ((HKr.out.alloc _).below hb2 (Nat.le_refl _)); have c2 := ((below_new hb2).cell (p := ⟨w.heap.size, 1, none⟩) (by simp; omega)).trans c1) | (go_at_call 22; refine (kindWord_any kd _ HK2.out).mono ?_; rintro e w3 ⟨rfl, rfl⟩))
            have HB2 := Lib.hid (below_step (below_new HB.out) (by omega) hb2)
            have HB3 := Lib.hid (below_step HB.out (by simpa using hwz) hb2)
            have hwz2 := hb2.size
            simp only [World.size_alloc] at hwz2
            clear hb2 c1
            go_region_with (go_at_call 32; refine (has_pre l k _ cap m _ (by omega) (by omega) (HCA.out.below' HB2.out.drew)).mono ?_; rintro e w4 ⟨rfl, hb4⟩)
            all_goals
              go_wp2
              go_roundw
              case rel => exact ⟨k + 1, by omega, by go_num, HB3.out.drew.trans (hb4.mono (by simp; omega)), HT.out⟩
              case measure => simp [intOf]; omega
          · have HT := Lib.hid (fault_hit hlt HM.out HF.out (show attrFault (l.take k) (m, kd) = 5 by simp [attrFault, ha, hkd, hh]) (by decide))
            have HKD := Lib.hid hkd
            clear hkd
            go_wp2_with (first | (go_at_call 31; refine (attrName_any m _ (HRr.out.alloc _)).mono ?_; rintro e w2 ⟨rfl, hb2⟩; have e1 := cell_new hb2 0 _ rfl; have e2 := cell_new hb2 1 _ rfl; have HK2 := Lib.hid ((HKr.out.alloc _).below hb2 (Nat.le_refl _)); have c2 := ((below_new hb2).cell (p := ⟨w.heap.size, 1, none⟩) (by simp; omega)).trans c1) | (go_at_call 22; refine (kindWord_any kd _ HK2.out).mono ?_; rintro e w3 ⟨rfl, rfl⟩))
            have HB2 := Lib.hid (below_step (below_new HB.out) (by omega) hb2)
            have HB3 := Lib.hid (below_step HB.out (by simpa using hwz) hb2)
            have hwz2 := hb2.size
            simp only [World.size_alloc] at hwz2
            clear hb2 c1
            go_region_with (go_at_call 32; refine (has_pre l k _ cap m _ (by omega) (by omega) (HCA.out.below' HB2.out.drew)).mono ?_; rintro e w4 ⟨rfl, hb4⟩)
            all_goals
              go_wp2
              go_ret
              exact ⟨ret_err HT.out.symm, HB2.out.drew.trans (hb4.mono (by simp; omega))⟩
        · have hkw : ((kindWordB kd).toList == []) = true := by rw [kindWordB_none]; simp; omega
          have HT := Lib.hid (fault_hit hlt HM.out HF.out (show attrFault (l.take k) (m, kd) = 24 by simp [attrFault, ha, hkd]) (by decide))
          clear hkd
          go_wp2_with (first | (go_at_call 31; refine (attrName_any m _ (HRr.out.alloc _)).mono ?_; rintro e w2 ⟨rfl, hb2⟩; have e1 := cell_new hb2 0 _ rfl; have e2 := cell_new hb2 1 _ rfl; have HK2 := Lib.hid ((HKr.out.alloc _).below hb2 (Nat.le_refl _))) | (go_at_call 22; refine (kindWord_any kd _ HK2.out).mono ?_; rintro e w3 ⟨rfl, rfl⟩))
          go_ret
          exact ⟨ret_err HT.out.symm, below_step (below_new HB.out) (by omega) hb2⟩
    · have HT := Lib.hid (show attrsFault [] l = 0 by rw [← HF.out, List.drop_of_length_le (by omega)]; rfl)
      go_wp2
      go_ret
      exact ⟨ret_err HT.out.symm, below_new HB.out⟩

set_option maxRecDepth 100000 in
/-- What is wrong with a type. -/
theorem fault_any (n : ByteArray) (l : List Attr) (ao : Option Addr) (cap : Nat) (w : World) (hr : ResAt w) (hk : KindAt w) (hcap : l.length ≤ cap) (hc : AttrsAt w ao l) :
    Calls Tryd.prog 19 #[.agg #[.string n, .slice ao l.length cap]] w fun e w' => e = .returned (.int .i64 (faultB n l)) ∧ Below w.heap.size w w' := by
  cases h1 : nameB n
  · have HE := Lib.hid (show faultB n l = 20 by simp [faultB, h1])
    have HR := Lib.hid (hr.alloc (Obj.cells #[Value.string n, Value.slice ao l.length cap] 27))
    clear hr hk
    go_enter Tryd.func19, Tryd.ntmps19
    go_wp2_with (go_at_call 16; refine (name_any n _ HR.out).mono ?_; rintro e w1 ⟨rfl, hb1⟩)
    go_ret
    exact ⟨ret_err HE.out.symm, below_new hb1⟩
  · by_cases h2 : l.length ≤ 16
    · have e : faultB n l = attrsFault [] l := by simp [faultB, h1, h2]
      rw [e]
      exact fault_attrs n l ao cap w hr hk hcap hc h1 h2
    · have HE := Lib.hid (show faultB n l = 2 by simp [faultB, h1, h2])
      have HR := Lib.hid (hr.alloc (Obj.cells #[Value.string n, Value.slice ao l.length cap] 27))
      clear hr hk
      go_enter Tryd.func19, Tryd.ntmps19
      go_wp2_with (go_at_call 16; refine (name_any n _ HR.out).mono ?_; rintro e w1 ⟨rfl, hb1⟩; have c1 := cell_new hb1 1 _ rfl)
      go_ret
      exact ⟨ret_err HE.out.symm, below_new hb1⟩
end Go.Proofs.YtpcmhbafcgineaaDoor
