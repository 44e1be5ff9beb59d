/- The walk of CsvCarries. -/
import Derived.Test.YtdkddnlolnbpgaaDoorCarriesPure
import Derived.Test.YtdkddnlolnbpgaaDoorSameEvent
import Derived.Test.YtdkddnlolnbpgaaDoorBegun
import Derived.Deep.CutBlock
namespace Go.Proofs.YtdkddnlolnbpgaaDoor
open Go Go.RowKit

/-- All but the values. -/
def Head (t : TyX) (e : EvX) : Prop := e.ty = t.name ∧ Timely e.time ∧ e.vals.length = t.attrs.length
def GoodTo (t : TyX) (e : EvX) (i : Nat) : Prop := Head t e ∧ ∀ j (h : j < e.vals.length) (h2 : j < t.attrs.length), j < i → validB e.vals[j] = true ∧ e.vals[j].kind = t.attrs[j].kind
def IsB (b : Bool) (P : Prop) : Prop := b = true ↔ P
theorem IsB.t {P : Prop} (h : P) : IsB true P := ⟨fun _ => h, fun _ => rfl⟩
theorem IsB.f {P : Prop} (h : ¬ P) : IsB false P := ⟨(fun e => by cases e), fun e => absurd e h⟩
theorem good_all {t : TyX} {e : EvX} : GoodTo t e e.vals.length ↔ Good t e :=
  ⟨fun ⟨⟨h1, h2, h3⟩, h⟩ => ⟨h1, h2, h3, fun i hi hi2 => h i hi hi2 hi⟩, fun ⟨h1, h2, h3, h⟩ => ⟨⟨h1, h2, h3⟩, fun j hj hj2 _ => h j hj hj2⟩⟩
def set3 (w : World) (q : Nat) (a : ByteArray) (b : Int) (c : Value) : World := ((w.setCell ⟨q, 0, none⟩ (.string a)).setCell ⟨q, 1, none⟩ (.int .i64 b)).setCell ⟨q, 2, none⟩ c
theorem EvBox.set {w : World} {q : Nat} {a a' : ByteArray} {b b' : Int} {c c' : Value} (h : EvBox w q a b c) : EvBox (set3 w q a' b' c') q a' b' c' :=
  (heap_setCell_same _ q 2 _ _ c' (heap_setCell_same _ q 1 _ _ (.int .i64 b') (heap_setCell_same w q 0 _ _ (.string a') h))).trans rfl
theorem EvBox.lt {w : World} {q : Nat} {a : ByteArray} {b : Int} {c : Value} (h : EvBox w q a b c) : q < w.heap.size := (Array.getElem?_eq_some_iff.1 h).1
theorem EvBox.below {w w' : World} {q : Nat} {a : ByteArray} {b : Int} {c : Value} (h : EvBox w q a b c) (hb : Below w.heap.size w w') : EvBox w' q a b c := (hb.block q h.lt).trans h
theorem EvBox.f {w : World} {q : Nat} {a : ByteArray} {b : Int} {c : Value} (h : EvBox w q a b c) (j : Nat) : w.frozen? ⟨q, j, none⟩ = false := frozen_of_row _ q j _ _ h
theorem set3_below {B : Nat} {a w : World} {q : Nat} {x : ByteArray} {y : Int} {z : Value} (h : Below B a w) (hB : B ≤ q) : Below B a (set3 w q x y z) := ((h.setCell hB _).setCell hB _).setCell hB _
theorem set3_size (w : World) (q : Nat) (x : ByteArray) (y : Int) (z : Value) : (set3 w q x y z).heap.size = w.heap.size := by simp [set3, World.setCell]
theorem evbox_new (w : World) (a : ByteArray) (b : Int) (c : Value) : EvBox (w.alloc (Obj.cells #[.string a, .int .i64 b, c] 27)) w.heap.size a b c := heap_alloc_new _ _
/-- An event that was read lies in a box of its own. -/
def CopyBox (ty : ByteArray) (tm : Int) (vs : List Val) (B : Nat) (w7 : World) (s18 s19 : Value) (wx : World) : Prop := ∃ (q g cap : Nat), s18 = .pointer (some ⟨q, 0, none⟩) ∧ s19 = .int .i64 0 ∧ EvBox wx q ty tm (.slice (some ⟨g, 0, none⟩) vs.length cap) ∧ ValsIn wx.heap.size wx (some ⟨g, 0, none⟩) vs ∧ Below B w7 wx
theorem vals_set3 {w8 : World} {q g : Nat} {vs : List Val} {x : ByteArray} {y : Int} {z : Value} (h : ValsIn w8.heap.size w8 (some ⟨g, 0, none⟩) vs) (hq : g ≠ q) : ValsIn (set3 w8 q x y z).heap.size (set3 w8 q x y z) (some ⟨g, 0, none⟩) vs := by
  rcases h with h | ⟨b, o, e, hb, h⟩
  · exact Or.inl h
  · cases e
    refine Or.inr ⟨g, 0, rfl, by rw [set3_size]; exact hb, fun i hi => ?_⟩
    have e : ∀ j : Nat, (set3 w8 q x y z).cell? ⟨g, j, none⟩ = w8.cell? ⟨g, j, none⟩ := fun j => World.cell?_of_block (by
      unfold set3
      rw [heap_setCell_other _ _ _ _ hq, heap_setCell_other _ _ _ _ hq, heap_setCell_other _ _ _ _ hq])
    rw [e, e, e, e]
    exact h i hi
theorem valid_size {v : Val} (h : validB v = true) : v.str.size ≤ maxLen := by
  rcases val_forms h with ⟨_, e⟩ | ⟨_, _, e⟩ | ⟨_, e⟩
  · rw [e]; exact Nat.zero_le _
  · unfold maxLen; omega
  · rw [e]; exact Nat.zero_le _
theorem good_zero {t : TyX} {e : EvX} : GoodTo t e 0 ↔ Head t e := ⟨fun h => h.1, fun h => ⟨h, fun _ _ _ h => absurd h (Nat.not_lt_zero _)⟩⟩

set_option maxHeartbeats 16000000 in
set_option maxRecDepth 100000 in
theorem carries_any (nm ty : ByteArray) (tm : Int) (ats : List AttrX) (vs : List Val) (cs : List (List UInt8)) (ta va ra : Option Addr) (tc vc rc : Nat) (w : World) (hT : Tabs w) (hM : MaxAt w) (hA : AttrsIn w.heap.size w ta ats) (hV : ValsIn w.heap.size w va vs) (hR : StrsIn w.heap.size w ra cs)
    (hn : ats.length ≤ 5864062014805) (hm : vs.length ≤ 5864062014805) (hc : cs.length ≤ 8796093022208) (hs : ∀ v ∈ vs, v.str.size ≤ maxLen ∧ -9223372036854775808 ≤ v.int ∧ v.int ≤ 9223372036854775807) (hcs : ∀ y ∈ cs, y.length ≤ 140737488351232) (hnm : nm.size ≤ 281474976710656) :
    Calls Tryd.prog 3 #[.agg #[.string nm, .slice ta ats.length tc], .agg #[.string ty, .int .i64 tm, .slice va vs.length vc], .slice ra cs.length rc] w fun en w' => en = .returned (.bool true) ∧ Below w.heap.size w w' := by
  obtain ⟨p, hp⟩ : ∃ p, p = w.heap.size := ⟨_, rfl⟩
  obtain ⟨W1, hW1⟩ : ∃ W, W = w.alloc (Obj.cells #[.string nm, .slice ta ats.length tc] 24) := ⟨_, rfl⟩
  obtain ⟨W2, hW2⟩ : ∃ W, W = W1.alloc (Obj.cells #[.string ty, .int .i64 tm, .slice va vs.length vc] 27) := ⟨_, rfl⟩
  have hz1 : W1.heap.size = p + 1 := by rw [hW1, World.size_alloc, hp]
  have hz2 : W2.heap.size = p + 2 := by rw [hW2, World.size_alloc, hz1]
  have HB2 := Lib.hid (show Below w.heap.size w W2 by rw [hW2, hW1]; exact ((Below.refl _ _).alloc (Nat.le_refl _) _).alloc (by rw [World.size_alloc]; omega) _)
  have hT2 : TyBox W2 p nm (.slice ta ats.length tc) := by unfold TyBox; rw [hW2, heap_alloc_old _ _ (by omega), hW1, hp]; exact heap_alloc_new _ _
  have hE2 : EvBox W2 (p + 1) ty tm (.slice va vs.length vc) := by unfold EvBox; rw [hW2, ← hz1]; exact heap_alloc_new _ _
  have HBX := Lib.hid (show ∀ W, Below (p + 2) W2 W → (TyBox W p nm (.slice ta ats.length tc) ∧ EvBox W (p + 1) ty tm (.slice va vs.length vc)) ∧ (AttrsIn w.heap.size W ta ats ∧ ValsIn w.heap.size W va vs ∧ StrsIn w.heap.size W ra cs) ∧ Below w.heap.size w W ∧ Tabs W ∧ MaxAt W ∧ p + 2 ≤ W.heap.size ∧ w.heap.size ≤ W.heap.size from fun W hW => by
    have hb : Below w.heap.size w W := HB2.out.trans (hW.mono (by omega))
    have hz := hW.size
    exact ⟨⟨(hW.block p (by omega)).trans hT2, (hW.block (p + 1) (by omega)).trans hE2⟩, ⟨(hA.below HB2.out (Nat.le_refl _)).below hW (by omega), (hV.below HB2.out (Nat.le_refl _)).below hW (by omega), (hR.below HB2.out (Nat.le_refl _)).below hW (by omega)⟩, hb, hT.below hb, hM.below hb, by omega, by omega⟩)
  have HSV := Lib.hid hs
  have HCS := Lib.hid hcs
  have HBG := Lib.hid (begun_any W2 (hM.below HB2.out))
  have HW1 := Lib.hid hW1
  have HW2 := Lib.hid hW2
  have HP := Lib.hid hp
  have HZ2 := Lib.hid hz2
  have hz22 : p + 2 ≤ W2.heap.size := by omega
  clear hW1 hW2 hp hz1 hz2 hT2 hE2 hA hV hR hs hcs hT hM
  go_enter Tryd.func3, Tryd.ntmps3
  go_upto_region 1 with fail
  rw [← HW1.out, ← HW2.out, ← HP.out]
  go_wp2_with fail
  (with_reducible refine HBG.out.mono ?_); rintro e w3 ⟨rfl, hb3⟩
  have HB3 := Lib.hid (show Below (p + 2) W2 w3 from hb3.mono hz22)
  clear hb3
  obtain ⟨⟨hTB, hEB⟩, _⟩ := HBX.out w3 HB3.out
  obtain ⟨c0, c1⟩ := hTB.c
  obtain ⟨d0, d1, d2⟩ := hEB.c
  go_upto_region 4 with fail
  clear hTB hEB
  go_cut [8] from 26 to 49 (fun s8 wx => ∃ b : Bool, s8 = .bool b ∧ IsB b (Head ⟨nm, ats⟩ ⟨ty, tm, vs⟩) ∧ wx = w3)
  case first =>
    rename_i J1 K1 hJ1 hK1
    cases h1 : (ty.toList == nm.toList)
    · have HD := Lib.hid (show ¬ Head ⟨nm, ats⟩ ⟨ty, tm, vs⟩ from fun h => by
        have e : ty = nm := h.1
        rw [e] at h1
        simp at h1)
      go_wp2_with fail
      go_meet
      case rel => exact ⟨false, rfl, IsB.f HD.out, rfl⟩
    have HTY := Lib.hid (show ty = nm from bytes_same (by simpa using h1))
    by_cases h2 : 0 ≤ tm
    rotate_left
    · have HD := Lib.hid (show ¬ Head ⟨nm, ats⟩ ⟨ty, tm, vs⟩ from fun h => h2 h.2.1.1)
      go_wp2_with fail
      go_meet
      case rel => exact ⟨false, rfl, IsB.f HD.out, rfl⟩
    by_cases h3 : tm ≤ 4611686018427387904
    rotate_left
    · have HD := Lib.hid (show ¬ Head ⟨nm, ats⟩ ⟨ty, tm, vs⟩ from fun h => h3 h.2.1.2)
      go_wp2_with fail
      go_meet
      case rel => exact ⟨false, rfl, IsB.f HD.out, rfl⟩
    by_cases h4 : vs.length = ats.length
    · have HD := Lib.hid (show Head ⟨nm, ats⟩ ⟨ty, tm, vs⟩ from ⟨HTY.out, ⟨h2, h3⟩, h4⟩)
      have h5 : ((vs.length : Int) == (ats.length : Int)) = true := by rw [h4]; simp
      clear h4
      go_wp2_with fail
      go_meet
      case rel => exact ⟨true, rfl, IsB.t HD.out, rfl⟩
    · have HD := Lib.hid (show ¬ Head ⟨nm, ats⟩ ⟨ty, tm, vs⟩ from fun h => h4 h.2.2)
      have h5 : ((vs.length : Int) == (ats.length : Int)) = false := by
        rw [beq_eq_false_iff_ne]
        omega
      clear h4
      go_wp2_with fail
      go_meet
      case rel => exact ⟨false, rfl, IsB.f HD.out, rfl⟩
  case rest =>
    obtain ⟨b, rfl, hbh, hwx⟩ := hcut
    subst hwx
    have HBH := Lib.hid (show IsB b (GoodTo ⟨nm, ats⟩ ⟨ty, tm, vs⟩ 0) from hbh.trans good_zero.symm)
    clear hbh c0 c1 d0 d1 d2
    go_upto_block 0 with fail
    go_cut [8] from 50 to 81 (fun s8 wx => ∃ b : Bool, s8 = .bool b ∧ IsB b (Good ⟨nm, ats⟩ ⟨ty, tm, vs⟩) ∧ Below (p + 2) W2 wx)
    case first =>
      rename_i J1 K1 hJ1 hK1
      go_wp2_with fail
      go_loopg [8, 9] (vs.length + 1) (fun g v8 v9 wr => ∃ (i : Nat) (b : Bool), i ≤ vs.length ∧ v9 = .int .i64 (i : Int) ∧ v8 = .bool b ∧ IsB b (GoodTo ⟨nm, ats⟩ ⟨ty, tm, vs⟩ i) ∧ Below (p + 2) W2 wr ∧ vs.length - i < g)
      case atStart => exact ⟨0, b, Nat.zero_le _, rfl, rfl, HBH.out, HB3.out, by omega⟩
      case round =>
        obtain ⟨i, b, hi, rfl, rfl, hib, hbel, hg⟩ := hrel
        obtain ⟨g, rfl⟩ : ∃ g, gk = g + 1 := ⟨gk - 1, by omega⟩
        obtain ⟨⟨hTB, hEB⟩, ⟨hA, hV, _⟩, _, _, _, hzr, hzw⟩ := HBX.out wr hbel
        obtain ⟨_, c1⟩ := hTB.c
        obtain ⟨_, _, d2⟩ := hEB.c
        have HBE := Lib.hid hbel
        have HIB := Lib.hid hib
        have HTB := Lib.hid hTB
        have HEB := Lib.hid hEB
        have i0 : (0 : Int) ≤ (i : Int) := by omega
        by_cases hlt : i < vs.length
        · have i1 : (i : Int) < (vs.length : Int) := by omega
          cases b
          · have HG := Lib.hid (show IsB false (Good ⟨nm, ats⟩ ⟨ty, tm, vs⟩) from IsB.f fun h => by
              have := HIB.out.2 ⟨(good_all.2 h).1, fun j h1 h2 _ => (good_all.2 h).2 j h1 h2 h1⟩
              cases this)
            clear hA hV hTB hEB hbel hib c1
            go_wp2_with fail
            go_meet
            case rel => exact ⟨false, rfl, HG.out, HBE.out⟩
          · have hhd := (HIB.out.1 rfl).1
            have hlt2 : i < ats.length := by have := hhd.2.2; simp only at this; omega
            obtain ⟨bb, bo, rfl, hbb, e0, e1, e2, e3⟩ := vals_cell hV i hlt
            obtain ⟨b2, o2, rfl, hbb2, f0, f1⟩ := attrs_cell hA i hlt2
            have hvs := (HSV.out _ (List.getElem_mem hlt)).1
            have HNX := Lib.hid (show ∀ c : Bool, IsB c (validB vs[i] = true ∧ vs[i].kind = ats[i].kind) → IsB c (GoodTo ⟨nm, ats⟩ ⟨ty, tm, vs⟩ (i + 1)) from fun c hcc => ⟨fun e => ⟨hhd, fun j h1 h2 h3 => by
              rcases Nat.lt_or_ge j i with h | h
              · exact (HIB.out.1 rfl).2 j h1 h2 h
              · obtain rfl : j = i := by omega
                exact hcc.1 e⟩, fun h => hcc.2 (h.2 i hlt hlt2 (by omega))⟩)
            obtain ⟨v, hv⟩ : ∃ v, v = vs[i] := ⟨_, rfl⟩
            obtain ⟨a, ha⟩ : ∃ a, a = ats[i] := ⟨_, rfl⟩
            rw [← hv, ← ha] at HNX
            rw [← hv] at e0 e1 e2 e3 hvs
            rw [← ha] at f0 f1
            obtain ⟨vk, vn, vstr, vb⟩ := v
            obtain ⟨an, ak⟩ := a
            simp only at e0 e1 e2 e3 f0 f1 hvs
            have HVA := Lib.hid (valid_any ⟨vk, vn, vstr, vb⟩ wr hvs)
            simp only [Val.v] at HVA
            obtain ⟨hb, hhb⟩ : ∃ hb, hb = validB ⟨vk, vn, vstr, vb⟩ := ⟨_, rfl⟩
            rw [← hhb] at HVA
            have HHB := Lib.hid hhb
            clear hA hV hTB hEB hbel hib hv ha hhd hhb
            go_upto_region 9 with (go_at_call 5; (with_reducible refine HVA.out.mono ?_); rintro e w5 ⟨rfl, hb5⟩; have HW5 := Lib.hid hb5; clear hb5)
            have HB5 := Lib.hid (HBE.out.trans (HW5.out.mono hzr))
            have hbz : bb < wr.heap.size := by omega
            have hbz2 : b2 < wr.heap.size := by omega
            have x0 := (HW5.out.cell (p := ⟨bb, bo + i * 4, none⟩) hbz).trans e0
            have x1 := (HW5.out.cell (p := ⟨b2, o2 + i * 2 + 1, none⟩) hbz2).trans f1
            have x2 := (HW5.out.cell (p := ⟨p, 1, none⟩) (by show p < _; omega)).trans c1
            have x3 := (HW5.out.cell (p := ⟨p + 1, 2, none⟩) (by show p + 1 < _; omega)).trans d2
            clear e0 e1 e2 e3 f0 f1 c1 d2
            cases hb
            · have HG := Lib.hid (HNX.out false (IsB.f fun h => by have := HHB.out.trans h.1; cases this))
              go_quiet (fail)
              go_wp2_with fail
              go_roundg g
              case rel => exact ⟨i + 1, false, by omega, by go_num, rfl, HG.out, below_drewN2 HB5.out _, by omega⟩
              case measure => omega
            · by_cases hk : vk = ak
              · have HG := Lib.hid (HNX.out true (IsB.t ⟨HHB.out.symm, hk⟩))
                have hk2 : (vk == ak) = true := by rw [hk]; simp
                clear hk
                go_quiet (fail)
                go_wp2_with fail
                go_roundg g
                case rel => exact ⟨i + 1, true, by omega, by go_num, rfl, HG.out, below_drewN2 HB5.out _, by omega⟩
                case measure => omega
              · have HG := Lib.hid (HNX.out false (IsB.f fun h => hk h.2))
                have hk2 : (vk == ak) = false := by rw [beq_eq_false_iff_ne]; exact hk
                clear hk
                go_quiet (fail)
                go_wp2_with fail
                go_roundg g
                case rel => exact ⟨i + 1, false, by omega, by go_num, rfl, HG.out, below_drewN2 HB5.out _, by omega⟩
                case measure => omega
        · have i1 : ¬ (i : Int) < (vs.length : Int) := by omega
          have HG := Lib.hid (show IsB b (Good ⟨nm, ats⟩ ⟨ty, tm, vs⟩) from by
            obtain rfl : i = vs.length := by omega
            exact HIB.out.trans good_all)
          clear hA hV hTB hEB hbel hib c1
          go_wp2_with fail
          go_meet
          case rel => exact ⟨b, rfl, HG.out, HBE.out⟩
    case rest =>
      obtain ⟨b, rfl, hgd, hbel⟩ := hcut
      obtain ⟨⟨hTB, hEB⟩, ⟨hA, hV, _⟩, _, hT, hM, hzr, hzw⟩ := HBX.out wc hbel
      obtain ⟨c0, c1⟩ := hTB.c
      obtain ⟨d0, d1, d2⟩ := hEB.c
      have HRW := Lib.hid (csvRow_any nm ty tm ats vs ta va tc vc wc hT (hA.mono hzw) (hV.mono hzw) (by omega) hm HSV.out)
      have HBE := Lib.hid hbel
      have HGD := Lib.hid hgd
      have HINT := Lib.hid (show IntsIn ⟨ty, tm, vs⟩ from fun v hv => (HSV.out v hv).2)
      clear hTB hEB hA hV hT hM hbel hgd
      obtain ⟨E, hE⟩ : ∃ E, E = rowErr ⟨nm, ats⟩ ⟨ty, tm, vs⟩ := ⟨_, rfl⟩
      have HE := Lib.hid hE
      have hEb : (E == 0) = b := by
        have h1 := rowErr_good ⟨nm, ats⟩ ⟨ty, tm, vs⟩
        rw [← hE] at h1
        cases b
        · rw [beq_eq_false_iff_ne]
          intro h
          have := HGD.out.2 (h1.1 h)
          cases this
        · rw [h1.2 (HGD.out.1 rfl)]
          rfl
      clear hE
      go_upto_region 11 with (go_at_call 6; (with_reducible refine HRW.out.mono ?_); rintro e w4 ⟨⟨r, rfl, hr0, hr1⟩, hb4⟩; have HR1 := Lib.hid hr1; have HB4 := Lib.hid (HBE.out.trans (hb4.mono hzr)); clear hb4 hr0 hr1)
      rw [← HE.out]
      clear c0 c1 d0 d1 d2
      go_upto_if 92 with fail
      go_cut [] from 93 to 145 (fun wx => Below (p + 2) W2 wx)
      case first =>
        rename_i J1 K1 hJ1 hK1
        cases b
        · clear hEb
          go_wp2_with fail
          go_meet
          case rel => exact HB4.out
        · have hE0 : E = 0 := by simpa using hEb
          obtain ⟨rg, rcap, hrr, hro⟩ := HR1.out (by rw [← HE.out]; exact hE0)
          obtain ⟨L, hL⟩ : ∃ L, L = evB ⟨ty, tm, vs⟩ := ⟨_, rfl⟩
          rw [← hL] at hrr hro
          subst hrr
          have HGO := Lib.hid (HGD.out.1 rfl)
          have hS := strs_own hro
          have hgz := own_lt_size hro rg rfl
          have HL := Lib.hid hL
          have hLl : L.length ≤ 5864062014806 := by rw [hL, evB_len]; show vs.length + 1 ≤ _; omega
          have HC := Lib.hid (show ∀ y ∈ L, y.length ≤ 256 by rw [hL]; exact good_cells HGO.out HINT.out)
          obtain ⟨V, hVV⟩ : ∃ V, V = w4.alloc (Obj.cells #[.slice (some ⟨rg, 0, none⟩) L.length rcap] 28) := ⟨_, rfl⟩
          obtain ⟨qv, hqv⟩ : ∃ qv, qv = w4.heap.size := ⟨_, rfl⟩
          have hbV : Below w4.heap.size w4 V := by rw [hVV]; exact (Below.refl _ _).alloc (Nat.le_refl _) _
          have hAB : V.heap[qv]? = some (Obj.cells #[.slice (some ⟨rg, 0, none⟩) L.length rcap] 28 (0, 0)) := by rw [hVV, hqv]; exact heap_alloc_new _ _
          have hzw4 : p + 2 ≤ w4.heap.size := (HBX.out w4 HB4.out).2.2.2.2.2.1
          have HBV := Lib.hid (show Below (p + 2) W2 V from HB4.out.trans (hbV.mono hzw4))
          have HRI := Lib.hid (show RowsIn V.heap.size V (some ⟨qv, 0, none⟩) [⟨L, some ⟨rg, 0, none⟩, rcap⟩] from Or.inr ⟨qv, 0, rfl, (Array.getElem?_eq_some_iff.1 hAB).1, fun i hi => by
            obtain rfl : i = 0 := by have : i < 1 := hi; omega
            refine ⟨by rw [cell_of_row _ _ _ _ _ _ hAB]; rfl, ?_⟩
            exact (hS.below hbV (Nat.le_refl _)).mono hbV.size⟩)
          have HFIT := Lib.hid (show ∀ x ∈ [(⟨L, some ⟨rg, 0, none⟩, rcap⟩ : RowX)], Fit x from fun x hx => by
            simp only [List.mem_cons, List.not_mem_nil, or_false] at hx
            subst hx
            exact ⟨by show L.length ≤ _; omega, fun y hy => by have := HC.out y hy; omega⟩)
          have hJ := join_any [⟨L, some ⟨rg, 0, none⟩, rcap⟩] (some ⟨qv, 0, none⟩) 1 V (HBX.out V HBV.out).2.2.2.2.1 HRI.out (by simp) HFIT.out
          rw [show cellsOf [(⟨L, some ⟨rg, 0, none⟩, rcap⟩ : RowX)] = [L] from rfl, show [(⟨L, some ⟨rg, 0, none⟩, rcap⟩ : RowX)].length = 1 from rfl] at hJ
          have HSL := Lib.hid (show StrsIn w4.heap.size w4 (some ⟨rg, 0, none⟩) L from hS)
          have HVV := Lib.hid hVV
          have HQV := Lib.hid hqv
          have HJE := Lib.hid (join_err ⟨ty, tm, vs⟩)
          rw [← HL.out] at HJE
          obtain ⟨JE, hJE⟩ : ∃ x, x = joinE [L] := ⟨_, rfl⟩
          obtain ⟨JO, hJO⟩ : ∃ x, x = joinOut [L] := ⟨_, rfl⟩
          rw [← hJE, ← hJO] at hJ
          have HJ := Lib.hid hJ
          have HJ1 := Lib.hid hJE
          have HJ2 := Lib.hid hJO
          clear hro hS hVV hqv hbV hAB hJ hL hJE hJO
          subst hE0
          clear hEb
          go_upto_region 15 with (go_at_call 7; (try rw [← HVV.out]); (try rw [← HQV.out]); (with_reducible refine HJ.out.mono ?_); rintro e w5 ⟨rfl, hb5⟩; have HW5 := Lib.hid hb5; clear hb5)
          have hzV : p + 2 ≤ V.heap.size := (HBX.out V HBV.out).2.2.2.2.2.1
          have HB5 := Lib.hid (HBV.out.trans (HW5.out.mono hzV))
          by_cases hbig : 65536 < (joinB [L]).length
          · have hje : JE = 2 := by rw [HJ1.out]; exact HJE.out.1 hbig
            have h16 : (16 : Int) < (vs.length : Int) := by
              rcases Nat.lt_or_ge 16 vs.length with h | h
              · omega
              · exact absurd (by rw [← HL.out]; exact hbig) (small_join HGO.out HINT.out h)
            obtain ⟨⟨_, hEB⟩, _⟩ := HBX.out w5 HB5.out
            obtain ⟨_, _, d2⟩ := hEB.c
            subst hje
            clear hEB hbig
            go_wp2_with fail
            go_ret
            exact ⟨rfl, (HBX.out w5 HB5.out).2.2.1⟩
          · have hje : JE = 0 := by rw [HJ1.out]; exact HJE.out.2 hbig
            have hjo : JO = joinB [L] := by
              rw [HJ2.out]
              unfold joinOut
              rw [if_pos (HJE.out.2 hbig)]
            have hsp : SplitR JO = ([L], [], 0) := by
              rw [hjo, SplitR_short hbig]
              exact split_join _ (by rw [HL.out]; exact evB_ne _)
            have hS6 := split_all ⟨JO.toArray⟩ w5 (by show JO.toArray.size ≤ _; simp; rw [hjo]; omega)
            rw [show (⟨JO.toArray⟩ : ByteArray).data.toList = JO by simp, hsp] at hS6
            obtain ⟨P, hP⟩ : ∃ x, x = AtR JO := ⟨_, rfl⟩
            rw [← hP] at hS6
            have HSX := Lib.hid (hS6.mono (R' := fun e w' => (∃ (xa : Option Addr) (xc b o cap : Nat), e = .returned (.tuple #[.slice (some ⟨b, o, none⟩) 1 cap, .int .i64 P, .int .i64 0]) ∧ b < w'.heap.size ∧ w'.cell? ⟨b, o, none⟩ = some (.slice xa L.length xc) ∧ StrsIn w'.heap.size w' xa L) ∧ Below w5.heap.size w5 w') (by
              rintro e w' ⟨⟨l, va', cap, rfl, hcl, hown, hrow⟩, hb⟩
              have hri := rows_in hown hrow
              have h1 : l.length = 1 := by have := congrArg List.length hcl; simpa [cellsOf] using this
              match l, h1 with
              | [x], _ =>
                obtain ⟨c, xa, xc⟩ := x
                have hc : c = L := by simpa [cellsOf] using hcl
                subst hc
                rcases hri.1 with h | ⟨b, o, rfl, hb', h⟩
                · cases h
                · have h2 := h 0 (by simp)
                  exact ⟨⟨xa, xc, b, o, cap, rfl, hb', h2.1, h2.2⟩, hb⟩))
            subst hje
            clear hjo hsp hS6 hP hbig
            go_upto_region 18 with (go_at_call 8; (with_reducible refine HSX.out.mono ?_); rintro e w6 ⟨⟨xa, xc, xb, xo, xcap, rfl, hxb, hx0, hxs⟩, hb6⟩; have HW6 := Lib.hid hb6; clear hb6)
            have hzw5 : p + 2 ≤ w5.heap.size := (HBX.out w5 HB5.out).2.2.2.2.2.1
            have HB6 := Lib.hid (HB5.out.trans (HW6.out.mono hzw5))
            have HXS := Lib.hid hxs
            have hbw : Below w4.heap.size w4 w6 := (show Below w4.heap.size w4 V by rw [HVV.out]; exact (Below.refl _ _).alloc (Nat.le_refl _) _).trans ((HW5.out.mono (by rw [HVV.out, World.size_alloc]; omega)).trans (HW6.out.mono (by have := HW5.out.size; rw [HVV.out, World.size_alloc] at this; omega)))
            have HSR := Lib.hid (sameRow_same L xa (some ⟨rg, 0, none⟩) xc rcap w6.heap.size w6.heap.size w6 hxs ((HSL.out.below hbw (Nat.le_refl _)).mono hbw.size) (Nat.le_refl _) (Nat.le_refl _) (by omega))
            clear hxs hbw
            go_upto_region 20 with (first | (go_at_call 9; (with_reducible refine HSR.out.mono ?_); rintro e w7 ⟨rfl, hb7⟩; have HW7 := Lib.hid hb7; have hx1 := (hb7.cell (p := ⟨xb, xo, none⟩) hxb).trans hx0; clear hb7))
            have hzw6 : p + 2 ≤ w6.heap.size := (HBX.out w6 HB6.out).2.2.2.2.2.1
            have HB7 := Lib.hid (HB6.out.trans (HW7.out.mono hzw6))
            have HXS7 := Lib.hid (HXS.out.below HW7.out (Nat.le_refl _))
            obtain ⟨⟨hTB, hEB⟩, _, _, _, _, hzr7, hzw7⟩ := HBX.out w7 HB7.out
            obtain ⟨c0, c1⟩ := hTB.c
            have HEV := Lib.hid (show ∀ X, Below w7.heap.size w7 X → Calls Tryd.prog 10 #[.agg #[.string nm, .slice ta ats.length tc], .slice xa L.length xc] X fun e w' => (∃ g cap, e = .returned (.tuple #[.agg #[.string ty, .int .i64 tm, .slice (some ⟨g, 0, none⟩) vs.length cap], .int .i64 0]) ∧ X.heap.size ≤ g ∧ ValsIn w'.heap.size w' (some ⟨g, 0, none⟩) vs) ∧ Below X.heap.size X w' from fun X hX => by
              have hb := HB7.out.trans (hX.mono hzr7)
              obtain ⟨_, ⟨hA', _, _⟩, _, hT', _, _, hzx⟩ := HBX.out X hb
              refine (csvEvent_any nm ats L ta xa tc xc X hT' (hA'.mono hzx) ((HXS7.out.below hX HW7.out.size).mono (by have := HW7.out.size; have := hX.size; omega)) hn (by omega) (fun y hy => by have := HC.out y hy; omega) hnm).mono ?_
              rintro e w' ⟨h | ⟨x, g, cap, he, hgood, hown⟩, hb'⟩
              · obtain ⟨er, _, _, hbad⟩ := h
                exact absurd ⟨⟨ty, tm, vs⟩, HGO.out, HL.out.symm, HINT.out⟩ (event_bad hbad)
              · rw [HL.out] at hgood
                have hx := event_one hgood HGO.out HINT.out
                subst hx
                exact ⟨⟨g, cap, he, ownBlock_lo hown g rfl, vals_in hown⟩, hb'⟩)
            have hpz : p < w7.heap.size := by omega
            have hxbz : xb < w7.heap.size := Nat.lt_of_lt_of_le hxb HW7.out.size
            clear hTB hEB hx0
            go_cut [18, 19] from 130 to 137 (fun s18 s19 wx => CopyBox ty tm vs w7.heap.size w7 s18 s19 wx)
            case first =>
              rename_i J2 K2 hJ2 hK2
              have HJ2 := Lib.hid hJ2
              have HK2 := Lib.hid hK2
              clear hJ2 hK2
              go_region_law (first
                | (go_simp; go_at_call 10; (with_reducible refine (HEV.out _ (by first | exact (Below.refl _ _).drew | exact ((Below.refl _ _).alloc (Nat.le_refl _) _).drew)).mono ?_); rintro e w8 ⟨⟨g8, cap8, rfl, hg8, hv8⟩, hb8⟩
                   have HV8 := Lib.hid hv8
                   have HG8 := Lib.hid hg8
                   have HB8 := Lib.hid (show Below w7.heap.size w7 w8 by first | exact (Below.refl _ w7).drew.trans hb8 | exact ((Below.refl _ w7).alloc (Nat.le_refl _) _).drew.trans (hb8.mono (by show w7.heap.size ≤ (w7.alloc _).heap.size; rw [World.size_alloc]; omega)))
                   try (have z3 := EvBox.below (w := (w7.alloc (Obj.cells #[.string ⟨#[]⟩, .int .i64 0, .slice none 0 0] 27)).drew) (evbox_new w7 ⟨#[]⟩ 0 (.slice none 0 0)) hb8; obtain ⟨z0, z1, z2⟩ := z3.c; have y0 := z3.f 0; have y1 := z3.f 1; have y2 := z3.f 2)
                   clear hb8 hv8 hg8))
              all_goals
                refine HK2.out _ _ (Met.intro (HJ2.out _ _ ?_))
                (repeat apply Exists.intro)
                refine ⟨?rel, rfl⟩
                case rel =>
                  first
                    | exact ⟨_, g8, cap8, rfl, rfl, z3.set, vals_set3 HV8.out (by have h : (w7.alloc _).heap.size ≤ g8 := HG8.out; rw [World.size_alloc] at h; omega), set3_below HB8.out (Nat.le_refl _)⟩
                    | exact ⟨_, g8, cap8, rfl, rfl, evbox_new w8 _ _ _, (HV8.out.below ((Below.refl w8.heap.size w8).alloc (Nat.le_refl _) _) (Nat.le_refl _)).mono (by rw [World.size_alloc]; omega), HB8.out.alloc HB8.out.size _⟩
            case rest =>
              obtain ⟨q, g8, cap8, rfl, rfl, hbx, hv8, hb8⟩ := hcut
              have HB9 := Lib.hid (HB7.out.trans (hb8.mono hzr7))
              obtain ⟨⟨_, hEB⟩, ⟨_, hV, _⟩, _, _, _, hzr9, hzw9⟩ := HBX.out wc HB9.out
              obtain ⟨e0, e1, e2⟩ := hbx.c
              obtain ⟨d0, d1, d2⟩ := hEB.c
              have HSE := Lib.hid (sameEvent_same ty tm vs (some ⟨g8, 0, none⟩) va cap8 vc wc hv8 (hV.mono hzw9) (by omega))
              clear hbx hv8 hb8 hEB hV c0 c1 hx1
              go_wp2_with (go_at_call 11; (with_reducible refine HSE.out.mono ?_); rintro e w9 ⟨rfl, hb9⟩; have HBZ := Lib.hid (HB9.out.trans (hb9.mono hzr9)); clear hb9)
              go_meet
              case rel => exact HBZ.out
      case rest =>
        obtain ⟨⟨hTB, _⟩, ⟨hA, _, hR⟩, _, hT, _, hzr2, hzw2⟩ := HBX.out wc hcut
        obtain ⟨c0, c1⟩ := hTB.c
        have HBC := Lib.hid hcut
        have HEV := Lib.hid (csvEvent_any nm ats cs ta ra tc rc wc hT (hA.mono hzw2) (hR.mono hzw2) hn (by omega) HCS.out hnm)
        clear hTB hA hR hT hcut hEb
        go_wp2_with fail
        (with_reducible refine HEV.out.mono ?_); rintro e w5 ⟨⟨er, hne, rfl, _⟩ | ⟨x, g, cap, rfl, hgood, hown⟩, hb5⟩
        · have hne2 : (er != 0) = true := by rw [bne_iff_ne]; exact hne
          have HB5 := Lib.hid (HBC.out.trans (hb5.mono hzr2))
          simp only [zeroEvV]
          clear hb5 hne
          go_wp2_with fail
          go_ret
          exact ⟨rfl, (HBX.out _ HB5.out).2.2.1.alloc (HBX.out _ HB5.out).2.2.2.2.2.2 _⟩
        · obtain ⟨xt, xm, xv⟩ := x
          simp only at hown ⊢
          have HB5 := Lib.hid (HBC.out.trans (hb5.mono hzr2))
          obtain ⟨V, hVV⟩ : ∃ V, V = w5.alloc (Obj.cells #[.string xt, .int .i64 xm, .slice (some ⟨g, 0, none⟩) xv.length cap] 27) := ⟨_, rfl⟩
          obtain ⟨qv, hqv⟩ : ∃ qv, qv = w5.heap.size := ⟨_, rfl⟩
          have hbV : Below w5.heap.size w5 V := by rw [hVV]; exact (Below.refl _ _).alloc (Nat.le_refl _) _
          have hEX : EvBox V qv xt xm (.slice (some ⟨g, 0, none⟩) xv.length cap) := by rw [hVV, hqv]; exact evbox_new _ _ _ _
          have hzw5 : p + 2 ≤ w5.heap.size := (HBX.out w5 HB5.out).2.2.2.2.2.1
          have HBV := Lib.hid (show Below (p + 2) W2 V from HB5.out.trans (hbV.mono hzw5))
          obtain ⟨⟨hTB, _⟩, ⟨hA, _, hR⟩, _, hT, _, hzrV, hzwV⟩ := HBX.out V HBV.out
          obtain ⟨k0, k1⟩ := hTB.c
          obtain ⟨e0, e1, e2⟩ := hEX.c
          have hxl : xv.length = ats.length := hgood.1.2.2.1
          have HRW2 := Lib.hid (csvRow_any nm xt xm ats xv ta (some ⟨g, 0, none⟩) tc cap V hT (hA.mono hzwV) ((vals_in hown).below hbV (Nat.le_refl _) |>.mono hbV.size) (by omega) (by omega) (fun v hv => by
            obtain ⟨i, hi, rfl⟩ := List.mem_iff_getElem.1 hv
            exact ⟨valid_size (hgood.1.2.2.2 i hi (by show i < ats.length; have hi2 : i < xv.length := hi; omega)).1, hgood.2.2 _ hv⟩))
          have HE0 := Lib.hid ((rowErr_good _ _).2 hgood.1)
          have HEB := Lib.hid hgood.2.1
          have HVV := Lib.hid hVV
          have HQV := Lib.hid hqv
          have HRS := Lib.hid (show StrsIn V.heap.size V ra cs from hR.mono hzwV)
          clear hgood hown hb5 hVV hqv hbV hEX hTB hA hR hT hxl c0 c1
          go_upto_region 26 with fail
          rw [← HVV.out, ← HQV.out]
          go_wp2_with fail
          (with_reducible refine HRW2.out.mono ?_); rintro e w6 ⟨⟨r2, rfl, _, hr2⟩, hb6⟩
          obtain ⟨rg2, rcap2, rfl, hro2⟩ := hr2 HE0.out
          rw [HEB.out] at hro2
          have HB6 := Lib.hid (HBV.out.trans (hb6.mono hzrV))
          have hss := strs_own hro2
          have HSR := Lib.hid (sameRow_same cs (some ⟨rg2, 0, none⟩) ra rcap2 rc w6.heap.size w6.heap.size w6 hss ((HRS.out.below hb6 (Nat.le_refl _)).mono hb6.size) (Nat.le_refl _) (Nat.le_refl _) (by omega))
          rw [HEB.out, HE0.out]
          clear hr2 hro2 hss hb6 k0 k1 e0 e1 e2
          go_wp2_with (go_at_call 9; (with_reducible refine HSR.out.mono ?_); rintro e w7 ⟨rfl, hb7⟩; have HB7 := Lib.hid (HB6.out.trans (hb7.mono (HBX.out w6 HB6.out).2.2.2.2.2.1)); clear hb7)
          go_ret
          exact ⟨rfl, (HBX.out w7 HB7.out).2.2.1⟩
end Go.Proofs.YtdkddnlolnbpgaaDoor
