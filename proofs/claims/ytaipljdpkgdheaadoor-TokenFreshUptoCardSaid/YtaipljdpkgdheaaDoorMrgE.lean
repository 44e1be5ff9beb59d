/- Texts put together: HandList, HandKept, Plays, ScanLen, Scanned, Over, Whole. -/
import Derived.BigQuiet
import Derived.Deep.CutRange
import Derived.Test.YtaipljdpkgdheaaDoorScanSpec
import Derived.Test.YtaipljdpkgdheaaDoorMrgA
import Derived.Test.YtaipljdpkgdheaaDoorMrgB
import Derived.Test.YtaipljdpkgdheaaDoorMrgC
import Derived.Test.YtaipljdpkgdheaaDoorMrgD
/- The law's Hand: list. -/
namespace Go.Proofs.YtaipljdpkgdheaaDoor
open Go Go.RowKit

/-- The box of the memory, and what it holds. -/
structure HandAt (w : World) (hb : Nat) (v : Value) : Prop where
  box : w.heap[hb]? = some (Obj.cells #[v] 51 (0, 0))
  row : v = .slice none 0 0 ∨ ∃ g cap, v = .slice (some ⟨g, 0, none⟩) cap cap ∧ HRow w (hb + 1) g cap (fun _ => False) (handF [])
theorem HandAt.lt {w : World} {hb : Nat} {v : Value} (h : HandAt w hb v) : hb < w.heap.size := (Array.getElem?_eq_some_iff.1 h.box).1
theorem HandAt.below {w w' : World} {hb : Nat} {v : Value} (h : HandAt w hb v) (hb' : Below w.heap.size w w') : HandAt w' hb v :=
  ⟨(hb'.block hb h.lt).trans h.box, h.row.imp id fun ⟨g, cap, e, h⟩ => ⟨g, cap, e, h.below hb'⟩⟩
theorem box_cell {w : World} {hb : Nat} {v : Value} (h : w.heap[hb]? = some (Obj.cells #[v] 51 (0, 0))) : w.cell? ⟨hb, 0, none⟩ = some v ∧ w.frozen? ⟨hb, 0, none⟩ = false :=
  ⟨by rw [cell_of_row w hb 0 _ _ _ h]; rfl, frozen_of_row w hb 0 _ _ h⟩
theorem box_set {w : World} {hb : Nat} {v : Value} (h : w.heap[hb]? = some (Obj.cells #[v] 51 (0, 0))) (u : Value) : (w.setCell ⟨hb, 0, none⟩ u).heap[hb]? = some (Obj.cells #[u] 51 (0, 0)) :=
  (heap_setCell_same w hb 0 _ _ u h).trans rfl
theorem ToksAt.lower {w w' : World} {B : Nat} {ao : Option Addr} {l : List Tok} (h : ToksAt w ao l) (hlo : l ≠ [] → ∀ ad, ao = some ad → ad.block < B) (hb : Below B w w') : ToksAt w' ao l := by
  rcases h with h | ⟨b, o, e, h⟩
  · exact Or.inl h
  · by_cases hl : l = []
    · exact Or.inl hl
    have hB := hlo hl _ e
    refine Or.inr ⟨b, o, e, fun i hi => ?_⟩
    obtain ⟨a0, a1, a2⟩ := h i hi
    exact ⟨(hb.cell (p := ⟨b, o + i * 3, none⟩) hB).trans a0, (hb.cell (p := ⟨b, o + i * 3 + 1, none⟩) hB).trans a1, (hb.cell (p := ⟨b, o + i * 3 + 2, none⟩) hB).trans a2⟩
/-- What list answers. -/
def ListTo (l : List Tok) (hb : Nat) (v : Value) (w : World) (e : Ending) (w' : World) : Prop :=
  ∃ g cap, e = .returned (.slice (some ⟨g, 0, none⟩) l.length cap) ∧ l.length + 2 ≤ cap ∧ w'.heap[hb]? = some (Obj.cells #[.slice (some ⟨g, 0, none⟩) cap cap] 51 (0, 0)) ∧ HRow w' (hb + 1) g cap (fun i => i < cap) (handF l) ∧ Below hb w w' ∧ ∀ b, b < w.heap.size → b ≠ hb → v.ownBlock ≠ some b → w'.heap[b]? = w.heap[b]?

set_option maxHeartbeats 8000000 in
set_option maxRecDepth 100000 in
theorem list_any (l : List Tok) (ao : Option Addr) (cap0 hb : Nat) (v : Value) (w : World) (hh : HandAt w hb v) (ha : ToksAt w ao l) (hlo : l ≠ [] → ∀ ad, ao = some ad → ad.block < hb) (hnc : ao = none → cap0 = 0) (hn : l.length ≤ 4398046511000) :
    Calls Tryd.prog 30 #[.pointer (some ⟨hb, 0, none⟩), .slice ao l.length cap0] w (ListTo l hb v w) := by
  obtain ⟨i0, hi0, hz0, hz1, hz2⟩ := info_parts Tryd.infoTok
  have HA := Lib.hid ha
  have HLO := Lib.hid hlo
  have HNC := Lib.hid hnc
  have HBX := Lib.hid hh.box
  have hlt := hh.lt
  have hrow := hh.row
  obtain ⟨d0, f0⟩ := box_cell hh.box
  obtain ⟨n, hn0⟩ : ∃ n, n = l.length := ⟨_, rfl⟩
  rw [← hn0] at hn ⊢
  have HN := Lib.hid hn0
  have n0 : (0 : Int) ≤ (n : Int) := by omega
  clear ha hlo hnc hh hn0
  go_enter Tryd.func30, Tryd.ntmps30
  have HP : ∀ (X : World) (vv V : Value), X.heap[hb]? = some (Obj.cells #[vv] 51 (0, 0)) → Below hb w X → (V = .slice none 0 0 ∨ ∃ g cap, V = .slice (some ⟨g, 0, none⟩) 0 cap ∧ HRow X (hb + 1) g cap (fun _ => False) (handF [])) → X.ownsRow (hb + 1) 28 3 V 0 [] ∧ ToksArg X ao cap0 l ∧ hb < X.heap.size := by
    intro X vv V h1 h2 h3
    refine ⟨?_, toks_arg (HA.out.lower HLO.out h2) HNC.out, (Array.getElem?_eq_some_iff.1 h1).1⟩
    rcases h3 with rfl | ⟨g, cap, rfl, hr⟩
    · exact World.ownsRow_nil _ _ _ _
    · exact hr.own
  replace HP := Lib.hid HP
  obtain ⟨ob, hob⟩ : ∃ ob, ob = v.ownBlock := ⟨_, rfl⟩
  have HOB := Lib.hid hob
  clear hob
  rcases hrow with rfl | ⟨g0, c0, rfl, hr⟩
  focus
    obtain ⟨hP1, hP2, hP3⟩ := HP.out w _ _ HBX.out (Below.refl _ _) (Or.inl rfl)
    have HP1 := Lib.hid hP1
    have HP2 := Lib.hid hP2
    have k0 : ¬ (n : Int) + 70000 < 0 := by omega
    clear hP1 hP2
    go_upto_region 5 with (at_builtin; go_must (refine wpList_append_toks (by rfl) _ _ (by rfl) (hb + 1) (.slice none 0 0) (by rfl) HP1.out ao cap0 n l (by exact HN.out.symm) (by rfl) HP2.out (by omega) (by omega) ?_; intro v7 w7 hown7 hgrow7 hat7))
    have HB7 := Lib.hid ((Below.refl hb w).grown hgrow7 (by omega) (fun k h => by cases h))
    have HX7 := Lib.hid (show ∃ vv, w7.heap[hb]? = some (Obj.cells #[vv] 51 (0, 0)) from ⟨_, (hgrow7.block hb hP3 (by simp [Value.ownBlock])).trans HBX.out⟩)
    have hz7 : hb < w7.heap.size := Nat.lt_of_lt_of_le hP3 hgrow7.size
    have HK7 := Lib.hid (show ∀ b, b < w.heap.size → b ≠ hb → ob ≠ some b → w7.heap[b]? = w.heap[b]? ∧ v7.ownBlock ≠ some b from fun b h1 h2 h3 => ⟨hgrow7.block b h1 (by simp [Value.ownBlock]), by
      rcases hat7 with e | e
      · rw [e]; simp [Value.ownBlock]
      · rw [e]; intro e2; injection e2 with e2; omega⟩)
    have HO7 := Lib.hid hown7
    clear hown7 hgrow7 hat7 HP1 HP2 HP d0 f0 k0 hP3
  rotate_left
  have HR := Lib.hid hr
  have hg0 := hr.lo
  by_cases hc : n + 70000 < c0
  focus
    have k0 : (n : Int) + 70000 < (c0 : Int) := by omega
    clear hr
    go_upto_region 4 with fail
    obtain ⟨X, hX⟩ : ∃ X, X = w.setCell ⟨hb, 0, none⟩ (.slice none 0 0) := ⟨_, rfl⟩
    rw [← hX]
    have HBX2 := Lib.hid (show X.heap[hb]? = some (Obj.cells #[.slice none 0 0] 51 (0, 0)) by rw [hX]; exact box_set HBX.out _)
    have HBE := Lib.hid (show Below hb w X by rw [hX]; exact (Below.refl hb w).setCell (show hb ≤ (⟨hb, 0, none⟩ : Addr).block from Nat.le_refl _) _)
    obtain ⟨x0, xf⟩ := box_cell HBX2.out
    have hXs : X.heap.size = w.heap.size := by rw [hX]; simp [World.setCell]
    have HXK := Lib.hid (show ∀ b, b ≠ hb → X.heap[b]? = w.heap[b]? from fun b h => by rw [hX]; exact heap_setCell_other _ _ _ _ h)
    obtain ⟨hP1, hP2, hP3⟩ := HP.out X _ _ HBX2.out HBE.out (Or.inl rfl)
    have HP1 := Lib.hid hP1
    have HP2 := Lib.hid hP2
    clear hP1 hP2 d0 f0 hX
    go_upto_region 5 with (at_builtin; go_must (refine wpList_append_toks (by rfl) _ _ (by rfl) (hb + 1) (.slice none 0 0) (by rfl) HP1.out ao cap0 n l (by exact HN.out.symm) (by rfl) HP2.out (by omega) (by omega) ?_; intro v7 w7 hown7 hgrow7 hat7))
    have HB7 := Lib.hid (HBE.out.grown hgrow7 (by omega) (fun k h => by cases h))
    have HX7 := Lib.hid (show ∃ vv, w7.heap[hb]? = some (Obj.cells #[vv] 51 (0, 0)) from ⟨_, (hgrow7.block hb hP3 (by simp [Value.ownBlock])).trans HBX2.out⟩)
    have hz7 : hb < w7.heap.size := Nat.lt_of_lt_of_le hP3 hgrow7.size
    have HK7 := Lib.hid (show ∀ b, b < w.heap.size → b ≠ hb → ob ≠ some b → w7.heap[b]? = w.heap[b]? ∧ v7.ownBlock ≠ some b from fun b h1 h2 h3 => ⟨(hgrow7.block b (by rw [hXs]; exact h1) (by simp [Value.ownBlock])).trans (HXK.out b h2), by
      rcases hat7 with e | e
      · rw [e]; simp [Value.ownBlock]
      · rw [e]; intro e2; injection e2 with e2; omega⟩)
    have HO7 := Lib.hid hown7
    clear hown7 hgrow7 hat7 HP1 HP2 HP x0 xf k0 hP3 hc HR HBX2 HBE hXs HXK
  rotate_left
  focus
    have k0 : ¬ (n : Int) + 70000 < (c0 : Int) := by omega
    obtain ⟨hP1, hP2, hP3⟩ := HP.out w _ (.slice (some ⟨g0, 0, none⟩) 0 c0) HBX.out (Below.refl _ _) (Or.inr ⟨g0, c0, rfl, HR.out⟩)
    have HP1 := Lib.hid hP1
    have HP2 := Lib.hid hP2
    clear hr hP1 hP2
    go_upto_region 5 with (at_builtin; go_must (refine wpList_append_toks (by rfl) _ _ (by rfl) (hb + 1) (.slice (some ⟨g0, 0, none⟩) 0 c0) (by rfl) HP1.out ao cap0 n l (by exact HN.out.symm) (by rfl) HP2.out (by omega) (by omega) ?_; intro v7 w7 hown7 hgrow7 hat7))
    have HB7 := Lib.hid ((Below.refl hb w).grown hgrow7 (by omega) (fun k h => by cases h; exact (show hb ≤ g0 by omega)))
    have HX7 := Lib.hid (show ∃ vv, w7.heap[hb]? = some (Obj.cells #[vv] 51 (0, 0)) from ⟨_, (hgrow7.block hb hP3 (by simp [Value.ownBlock]; omega)).trans HBX.out⟩)
    have hz7 : hb < w7.heap.size := Nat.lt_of_lt_of_le hP3 hgrow7.size
    have HK7 := Lib.hid (show ∀ b, b < w.heap.size → b ≠ hb → ob ≠ some b → w7.heap[b]? = w.heap[b]? ∧ v7.ownBlock ≠ some b from fun b h1 h2 h3 => by
      rw [HOB.out] at h3
      refine ⟨hgrow7.block b h1 (fun e => h3 e.symm), ?_⟩
      rcases hat7 with e | e
      · rw [e]; exact h3
      · rw [e]; intro e2; injection e2 with e2; omega)
    have HO7 := Lib.hid hown7
    clear hown7 hgrow7 hat7 HP1 HP2 HP k0 hP3 hc HR d0 f0
  all_goals
    go_upto_region 6 with (at_builtin; go_must (refine wpList_append_lies _ (by rfl) _ _ _ (by rfl) (hb + 1) 28 i0 _ 3 32 Tryd.underlying23 hi0 hz0 hz1 hz2 rfl (by omega) v7 n (tokC l) (by rfl) (HO7.out.alloc _) ⟨_, 0, none⟩ 2 2 [.int .i64 0, .string ⟨#[]⟩, .int .i64 0, .int .i64 0, .string ⟨#[]⟩, .int .i64 0] (by rfl) (by rfl) (World.news_of_block (cs := #[.int .i64 0, .string ⟨#[]⟩, .int .i64 0, .int .i64 0, .string ⟨#[]⟩, .int .i64 0]) (t := 28) (fr := (0, 0)) (heap_alloc_new _ _)) (by simp [Value.oneCell']) (by omega) (by unfold maxLen; omega) (by omega) (by simp; omega) _ rfl ?_; intro g8 c8 w8 hown8 hgrow8 hat8 hlt8))
    obtain ⟨g', c', e, hcap, hr8⟩ := hrow_of (l := l) hown8 (by omega)
    cases e
    have HR8 := Lib.hid (show HRow w8 (hb + 1) g8 c8 (fun i => i < n) (handF l) from hr8.weak (fun i hi => ⟨by have := HN.out; show i < l.length; omega, rfl⟩))
    have HB8 := Lib.hid (show Below hb w w8 from (HB7.out.trans (((Below.refl _ w7).alloc (Nat.le_refl _) _).mono (by omega))).grown hgrow8 (by simp; omega) (fun k h => Nat.le_trans (Nat.le_succ _) (ownBlock_lo HO7.out k h)))
    have HX8 := Lib.hid (show ∃ vv, w8.heap[hb]? = some (Obj.cells #[vv] 51 (0, 0)) by
      obtain ⟨vv, h⟩ := HX7.out
      exact ⟨vv, (hgrow8.block hb (by rw [World.size_alloc]; omega) (by
        intro e
        have := ownBlock_lo HO7.out hb e.symm
        omega)).trans ((heap_alloc_old _ _ hz7).trans h)⟩)
    have HK8 := Lib.hid (show ∀ b, b < w.heap.size → b ≠ hb → ob ≠ some b → w8.heap[b]? = w.heap[b]? ∧ b ≠ g8 from fun b h1 h2 h3 => by
      obtain ⟨k1, k2⟩ := HK7.out b h1 h2 h3
      have hbz : b < w7.heap.size := Nat.lt_of_lt_of_le h1 HB7.out.size
      refine ⟨(hgrow8.block b (by rw [World.size_alloc]; omega) (fun e => k2 e.symm)).trans ((heap_alloc_old _ _ hbz).trans k1), fun e => ?_⟩
      rcases hat8 with e2 | e2
      · exact k2 (by rw [e2, e])
      · rw [World.size_alloc] at e2; omega)
    have hcm := hr8.le
    unfold maxLen at hcm
    have hgl := hr8.lo
    have cc0 : (0 : Int) ≤ (c8 : Int) := by omega
    have cc1 : (n : Int) ≤ (c8 : Int) := by omega
    clear hown8 hgrow8 hat8 hlt8 hr8
    go_wp2_with fail
    go_loopg [7] (c8 + 1) (fun g v7 wr => ∃ k : Nat, n ≤ k ∧ k ≤ c8 ∧ v7 = .int .i64 (k : Int) ∧ HRow wr (hb + 1) g8 c8 (fun i => i < k) (handF l) ∧ (∃ vv, wr.heap[hb]? = some (Obj.cells #[vv] 51 (0, 0))) ∧ Below hb w wr ∧ (∀ b, b < w.heap.size → b ≠ hb → ob ≠ some b → wr.heap[b]? = w.heap[b]?) ∧ c8 - k < g)
    case atStart => exact ⟨n, Nat.le_refl _, by omega, rfl, HR8.out, HX8.out, HB8.out, fun b h1 h2 h3 => (HK8.out b h1 h2 h3).1, by omega⟩
    case round =>
      obtain ⟨k, hkn, hkc, rfl, hrw, hbx, hbel, hkp, hg⟩ := hrel
      obtain ⟨g, rfl⟩ : ∃ g, gk = g + 1 := ⟨gk - 1, by omega⟩
      have HRW := Lib.hid hrw
      have HBX3 := Lib.hid hbx
      have HBE := Lib.hid hbel
      have HKP := Lib.hid hkp
      clear hrw hbx hbel hkp
      have kk0 : (0 : Int) ≤ (k : Int) := by omega
      by_cases hlt : k < c8
      · have kk1 : (k : Int) < (c8 : Int) := by omega
        obtain ⟨y0, q0⟩ := HRW.out.some' (k * 3) (by omega)
        obtain ⟨y1, q1⟩ := HRW.out.some' (k * 3 + 1) (by omega)
        obtain ⟨y2, q2⟩ := HRW.out.some' (k * 3 + 2) (by omega)
        have p0 := HRW.out.free (k * 3)
        have p1 := HRW.out.free (k * 3 + 1)
        have p2 := HRW.out.free (k * 3 + 2)
        have HS := Lib.hid (show HRow (storeT wr g8 k (markT k)) (hb + 1) g8 c8 (fun i => i < k + 1) (handF l) from HRW.out.set k hlt _ (fun j hj => by
          rcases Nat.lt_or_ge j k with h | h
          · exact Or.inr ⟨by omega, h, rfl⟩
          · left
            obtain rfl : j = k := by have : j < k + 1 := hj; omega
            refine ⟨rfl, ?_⟩
            unfold handF
            rw [dif_neg (by have := HN.out; omega)]))
        have HSB := Lib.hid (show Below hb w (storeT wr g8 k (markT k)) from storeT_below HBE.out (by omega))
        have HSX := Lib.hid (show ∃ vv, (storeT wr g8 k (markT k)).heap[hb]? = some (Obj.cells #[vv] 51 (0, 0)) by
          obtain ⟨vv, h⟩ := HBX3.out
          exact ⟨vv, (storeT_other _ _ _ _ _ (by omega)).trans h⟩)
        have HSK := Lib.hid (show ∀ b, b < w.heap.size → b ≠ hb → ob ≠ some b → (storeT wr g8 k (markT k)).heap[b]? = w.heap[b]? from fun b h1 h2 h3 => (storeT_other _ _ _ _ _ (HK8.out b h1 h2 h3).2).trans (HKP.out b h1 h2 h3))
        go_upto_region 9 with fail
        obtain ⟨V, hV⟩ : ∃ V, V = storeT wr g8 k (markT k) := ⟨_, rfl⟩
        rw [← hV] at HS HSB HSX HSK
        simp only [storeT, markT] at hV
        rw [← hV]
        clear hV q0 q1 q2 p0 p1 p2
        go_wp2_with fail
        go_roundg g
        case rel => exact ⟨k + 1, by omega, by omega, by go_num, HS.out, HSX.out, HSB.out, HSK.out, by omega⟩
        case measure => omega
      · have kk1 : ¬ (k : Int) < (c8 : Int) := by omega
        have hk8 : k = c8 := by omega
        have HRE := Lib.hid (show HRow wr (hb + 1) g8 c8 (fun i => i < c8) (handF l) by rw [hk8] at HRW; exact HRW.out)
        obtain ⟨vv, hvv⟩ := HBX3.out
        have HVV := Lib.hid hvv
        obtain ⟨b0, bf⟩ := box_cell hvv
        have HNL := HN
        clear hvv hk8
        go_wp2_with fail
        go_ret
        refine ⟨g8, c8, by rw [HNL.out]; rfl, by rw [← HNL.out]; exact hcap, box_set HVV.out _, HRE.out.keep (heap_setCell_other _ _ _ _ (by show g8 ≠ hb; omega)), HBE.out.setCell (show hb ≤ (⟨hb, 0, none⟩ : Addr).block from Nat.le_refl _) _, fun b h1 h2 h3 => (heap_setCell_other _ _ _ _ h2).trans (HKP.out b h1 h2 (by rw [HOB.out]; exact h3))⟩
end Go.Proofs.YtaipljdpkgdheaaDoor
/- The law's Hand: kept. -/
namespace Go.Proofs.YtaipljdpkgdheaaDoor
open Go Go.RowKit

/-- What the memory is written over with. -/
def keptT : Tok := ⟨99, ⟨#[107, 101, 112, 116]⟩, 0⟩
theorem handF_in {l : List Tok} {i : Nat} (h : i < l.length) : handF l i = l[i] := by unfold handF; rw [dif_pos h]
theorem handF_out {l : List Tok} {i : Nat} (h : ¬ i < l.length) : handF l i = markT i := by unfold handF; rw [dif_neg h]

set_option maxHeartbeats 8000000 in
set_option maxRecDepth 100000 in
theorem kept_any (l : List Tok) (ao : Option Addr) (cap0 hb g cap : Nat) (w : World) (hx : w.heap[hb]? = some (Obj.cells #[.slice (some ⟨g, 0, none⟩) cap cap] 51 (0, 0))) (hr : HRow w (hb + 1) g cap (fun i => i < cap) (handF l)) (ha : ToksAt w ao l) (hlo : l ≠ [] → ∀ ad, ao = some ad → ad.block < hb) (hcap : l.length + 2 ≤ cap) :
    Calls Tryd.prog 32 #[.pointer (some ⟨hb, 0, none⟩), .slice ao l.length cap0] w fun e w' => e = .returned (.bool true) ∧ HandAt w' hb (.slice (some ⟨g, 0, none⟩) cap cap) ∧ Below hb w w' := by
  have HA := Lib.hid ha
  have HLO := Lib.hid hlo
  have HX := Lib.hid hx
  have HR := Lib.hid hr
  have hlt : hb < w.heap.size := (Array.getElem?_eq_some_iff.1 hx).1
  have hgl := hr.lo
  have hcm := hr.le
  unfold maxLen at hcm
  obtain ⟨n, hn0⟩ : ∃ n, n = l.length := ⟨_, rfl⟩
  rw [← hn0] at hcap ⊢
  have HN := Lib.hid hn0
  have n0 : (0 : Int) ≤ (n : Int) := by omega
  clear ha hlo hx hr hn0
  go_enter Tryd.func32, Tryd.ntmps32
  go_wp2_with fail
  go_loopg [5, 6] (cap + 1) (fun gg v5 v6 wr => ∃ i : Nat, i ≤ cap ∧ v5 = .bool true ∧ v6 = .int .i64 (i : Int) ∧ HRow wr (hb + 1) g cap (fun j => i ≤ j ∧ j < cap) (handF l) ∧ wr.heap[hb]? = some (Obj.cells #[.slice (some ⟨g, 0, none⟩) cap cap] 51 (0, 0)) ∧ Below hb w wr ∧ cap - i < gg)
  case atStart => exact ⟨0, Nat.zero_le _, rfl, rfl, HR.out.weak (fun i hi => ⟨hi.2, rfl⟩), HX.out, Below.refl _ _, by omega⟩
  case round =>
    obtain ⟨i, hi, rfl, rfl, hrw, hbx, hbel, hg⟩ := hrel
    obtain ⟨gg, rfl⟩ : ∃ g, gk = g + 1 := ⟨gk - 1, by omega⟩
    have HRW := Lib.hid hrw
    have HBX := Lib.hid hbx
    have HBE := Lib.hid hbel
    have hzw := hbel.size
    have hgw := hrw.lt
    obtain ⟨b0, bf⟩ := box_cell hbx
    clear hrw hbx hbel
    have i0 : (0 : Int) ≤ (i : Int) := by omega
    by_cases hlti : i < cap
    · have i1 : (i : Int) < (cap : Int) := by omega
      obtain ⟨V, hV⟩ : ∃ V, V = wr.alloc (Obj.cells #[.int .i64 (wrap64 (77 + (i : Int))), .string ⟨#[]⟩, .int .i64 0] 28) := ⟨_, rfl⟩
      obtain ⟨q, hq⟩ : ∃ q, q = wr.heap.size := ⟨_, rfl⟩
      have hbV : Below wr.heap.size wr V := by rw [hV]; exact (Below.refl _ _).alloc (Nat.le_refl _) _
      have HOB := Lib.hid (show V.heap[q]? = some (Obj.cells #[.int .i64 (wrap64 (77 + (i : Int))), .string ⟨#[]⟩, .int .i64 0] 28 (0, 0)) by rw [hV, hq]; exact heap_alloc_new _ _)
      have HQR := Lib.hid (show HRow V q q 1 (fun j => j < 1) (fun _ => markT i) from ⟨⟨_, HOB.out, rfl⟩, fun j hj => by
        obtain rfl : j = 0 := by omega
        exact ⟨by rw [cell_of_row _ _ _ _ _ _ HOB.out]; rfl, by rw [cell_of_row _ _ _ _ _ _ HOB.out]; rfl, by rw [cell_of_row _ _ _ _ _ _ HOB.out]; rfl⟩, Nat.le_refl _, by unfold maxLen; omega⟩)
      have HRV := Lib.hid (HRW.out.below hbV)
      have HBXV := Lib.hid ((hbV.block hb (by omega)).trans HBX.out)
      have HBV := Lib.hid (show Below hb w V from HBE.out.trans (hbV.mono (by omega)))
      have hvz := HBV.out.size
      have hqg : g < q := by omega
      have hqb : hb < q := by omega
      have HV := Lib.hid hV
      have HQ := Lib.hid hq
      clear hV hbV hq
      go_upto_region 6 with fail
      rw [← HV.out, ← HQ.out]
      clear b0 bf
      by_cases hin : i < n
      focus
        have hin1 : (i : Int) < (n : Int) := by omega
        have hil : i < l.length := by rw [← HN.out]; exact hin
        obtain ⟨b, o, rfl, d0, d1, d2⟩ := toks_cell (HA.out.lower HLO.out HBV.out) i hil
        have HF := Lib.hid (handF_in hil)
        obtain ⟨x, hxx⟩ : ∃ x, x = l[i] := ⟨_, rfl⟩
        rw [← hxx] at d0 d1 d2 HF
        obtain ⟨v0, v1, v2⟩ := HQR.out.c 0 (by omega)
        rw [Nat.zero_mul] at v0 v1 v2
        rw [Nat.zero_add] at v1 v2
        have w0 := HQR.out.free 0
        have w1 := HQR.out.free 1
        have w2 := HQR.out.free 2
        clear hxx
        go_upto_region 8 with fail
        obtain ⟨X, hX⟩ : ∃ X, X = storeT V q 0 x := ⟨_, rfl⟩
        have HQ2 := Lib.hid (show HRow X q q 1 (fun j => j < 1) (fun _ => handF l i) by
          rw [hX, HF.out]
          exact HQR.out.set 0 (by omega) x (fun j hj => Or.inl ⟨by have : j < 1 := hj; omega, rfl⟩))
        have HRX := Lib.hid (show HRow X (hb + 1) g cap (fun j => i ≤ j ∧ j < cap) (handF l) by rw [hX]; exact HRV.out.keep (storeT_other _ _ _ _ _ (by omega)))
        have HBXX := Lib.hid (show X.heap[hb]? = some (Obj.cells #[.slice (some ⟨g, 0, none⟩) cap cap] 51 (0, 0)) by rw [hX]; exact (storeT_other _ _ _ _ _ (by omega)).trans HBXV.out)
        have HBX2 := Lib.hid (show Below hb w X by rw [hX]; exact storeT_below HBV.out (by omega))
        simp only [storeT, Nat.zero_mul, Nat.zero_add] at hX
        rw [← hX]
        clear hX d0 d1 d2 v0 v1 v2 w0 w1 w2 HF hin hin1 HBV HBXV HRV HQR HOB HV hvz
      rotate_left
      focus
        have hin1 : ¬ (i : Int) < (n : Int) := by omega
        have HF := Lib.hid (handF_out (l := l) (i := i) (by have := HN.out; omega))
        go_upto_region 8 with fail
        obtain ⟨X, rfl⟩ : ∃ X, X = V := ⟨_, rfl⟩
        have HQ2 := Lib.hid (show HRow X q q 1 (fun j => j < 1) (fun _ => handF l i) by rw [HF.out]; exact HQR.out)
        have HRX := HRV
        have HBXX := HBXV
        have HBX2 := HBV
        clear HF hin hin1 HBV HBXV HRV HQR HOB HV hvz
      all_goals
        obtain ⟨x, hxx⟩ : ∃ x, x = handF l i := ⟨_, rfl⟩
        obtain ⟨v0, v1, v2⟩ := HQ2.out.c 0 (by omega)
        obtain ⟨r0, r1, r2⟩ := HRX.out.c i ⟨Nat.le_refl _, hlti⟩
        rw [← hxx] at v0 v1 v2 r0 r1 r2
        rw [Nat.zero_mul] at v0 v1 v2
        rw [Nat.zero_add] at v1 v2
        have p0 := HRX.out.free (i * 3)
        have p1 := HRX.out.free (i * 3 + 1)
        have p2 := HRX.out.free (i * 3 + 2)
        obtain ⟨b0, bf⟩ := box_cell HBXX.out
        clear hxx
        go_quiet (fail)
        go_upto_region 4 with fail
        have hbd := below_drewN2 (Below.refl X.heap.size X) nq
        have HRD := Lib.hid (HRX.out.below hbd)
        have HBD := Lib.hid ((hbd.block hb (by have := HBX2.out.size; omega)).trans HBXX.out)
        have HDD := Lib.hid (below_drewN2 HBX2.out nq)
        obtain ⟨Y, hY⟩ : ∃ Y, Y = storeT (X.drewN nq) g i keptT := ⟨_, rfl⟩
        have HRY := Lib.hid (show HRow Y (hb + 1) g cap (fun j => i + 1 ≤ j ∧ j < cap) (handF l) by
          rw [hY]
          exact HRD.out.set i hlti keptT (fun j hj => Or.inr ⟨by have : i + 1 ≤ j := hj.1; omega, ⟨by have : i + 1 ≤ j := hj.1; omega, hj.2⟩, rfl⟩))
        have HBXY := Lib.hid (show Y.heap[hb]? = some (Obj.cells #[.slice (some ⟨g, 0, none⟩) cap cap] 51 (0, 0)) by rw [hY]; exact (storeT_other _ _ _ _ _ (by omega)).trans HBD.out)
        have HBY := Lib.hid (show Below hb w Y by rw [hY]; exact storeT_below HDD.out (by omega))
        simp only [storeT, keptT] at hY
        rw [← hY]
        clear hY hbd HDD HBD HRD v0 v1 v2 r0 r1 r2 p0 p1 p2 b0 bf
        go_wp2_with fail
        go_roundg gg
        case rel => exact ⟨i + 1, by omega, rfl, by go_num, HRY.out, HBXY.out, HBY.out, by omega⟩
        case measure => omega
    · have i1 : ¬ (i : Int) < (cap : Int) := by omega
      go_wp2_with fail
      go_ret
      exact ⟨rfl, ⟨HBX.out, Or.inr ⟨g, cap, rfl, HRW.out.weak (fun _ h => h.elim)⟩⟩, HBE.out⟩
end Go.Proofs.YtaipljdpkgdheaaDoor
/- The law's plays. -/
namespace Go.Proofs.YtaipljdpkgdheaaDoor
open Go Go.RowKit

/-- What Scan answers, in either package. -/
def Scanned (w : World) (l : List Tok) (p er : Int) (e : Ending) (w' : World) : Prop :=
  (∃ (va : Option Addr) (cap : Nat), e = .returned (.tuple #[.slice va l.length cap, .int .i64 p, .int .i64 er]) ∧ ToksAt w' va l) ∧ Below w.heap.size w w'
theorem scan_both (t : ByteArray) (ht : t.size ≤ 140737488351232) : ∃ (l : List Tok) (p er : Int), l.length ≤ 9223372036854775807 ∧
    (∀ w, Tabs w → Calls Tryd.prog 9 #[.string t] w (Scanned w l p er)) ∧ (∀ w, Calls Tryd.prog 29 #[.string t] w (Scanned w l p er)) := by
  by_cases h : t.size ≤ 4096
  · obtain ⟨R, hR⟩ : ∃ R, R = scanR t.size [] t.data.toList := ⟨_, rfl⟩
    have h1 := fun w => scan_any t w h
    have h2 := fun w => refScan_any t w h
    rw [← hR] at h1 h2
    by_cases hm : R.1.length ≤ 9223372036854775807
    · refine ⟨R.1.map Tk.asTok, scanAt t.size R, R.2.2, by rw [List.length_map]; exact hm, fun w hT => (h1 w hT).mono ?_, fun w => (h2 w).mono ?_⟩
      · rintro e w' ⟨⟨va, cap, rfl, ho⟩, hb⟩
        exact ⟨⟨va, cap, by rw [List.length_map], toks_row ho rfl⟩, hb⟩
      · rintro e w' ⟨⟨va, cap, rfl, ho⟩, hb⟩
        exact ⟨⟨va, cap, by rw [List.length_map], toks_row ho rfl⟩, hb⟩
    · refine ⟨[], 0, 0, Nat.zero_le _, fun w hT => (h1 w hT).mono ?_, fun w => (h2 w).mono ?_⟩
      all_goals
        rintro e w' ⟨⟨va, cap, rfl, ho⟩, hb⟩
        exfalso
        rcases ho.2 with ⟨_, h0⟩ | ⟨g, cap', cur, e, _, _, hn, hc, _⟩
        · omega
        · unfold maxLen at hc; omega
  · have hq : (4096 : Int) < (t.size : Int) := by omega
    refine ⟨[], 0, 2, Nat.zero_le _, fun w hT => ?_, fun w => ?_⟩
    · go_enter Tryd.func9, Tryd.ntmps9
      go_wp2_with fail
      go_ret3
      exact ⟨⟨none, 0, rfl, Or.inl rfl⟩, Below.refl _ _⟩
    · go_enter Tryd.func29, Tryd.ntmps29
      go_wp2_with fail
      go_ret3
      exact ⟨⟨none, 0, rfl, Or.inl rfl⟩, Below.refl _ _⟩

/-- A call that came in. -/
structure OpT where
  kind : Int
  text : ByteArray
  ao : Option Addr
  toks : List Tok
  cap : Nat
def OpT.v (x : OpT) : Value := .agg #[.int .i64 x.kind, .string x.text, .slice x.ao x.toks.length x.cap]
structure OpIn (w : World) (hb : Nat) (x : OpT) : Prop where
  at' : ToksAt w x.ao x.toks
  lo : x.toks ≠ [] → ∀ ad, x.ao = some ad → ad.block < hb
  nc : x.ao = none → x.cap = 0
  n : x.toks.length ≤ 4398046511000
  s : ∀ t ∈ x.toks, t.str.size ≤ 140737488351232
  tx : x.text.size ≤ 140737488351232

set_option maxHeartbeats 8000000 in
set_option maxRecDepth 100000 in
theorem plays_any (x : OpT) (hb : Nat) (v : Value) (w : World) (hh : HandAt w hb v) (hx : OpIn w hb x) (hT : ∀ w', Below hb w w' → Tabs w') (hW : ∀ w', Below hb w w' → WordsAt w') :
    Calls Tryd.prog 20 #[.pointer (some ⟨hb, 0, none⟩), x.v] w fun e w' => e = .returned (.bool true) ∧ (∃ v', HandAt w' hb v') ∧ Below hb w w' := by
  obtain ⟨k, s, ao, l, cap⟩ := x
  have HH := Lib.hid hh
  have HX := Lib.hid hx
  have HT := Lib.hid hT
  have HW := Lib.hid hW
  have hlt := hh.lt
  obtain ⟨E, hE⟩ : ∃ E, E = w.heap.size := ⟨_, rfl⟩
  obtain ⟨V, hV⟩ : ∃ V, V = w.alloc (Obj.cells #[.int .i64 k, .string s, .slice ao l.length cap] 54) := ⟨_, rfl⟩
  have hbV : Below w.heap.size w V := by rw [hV]; exact (Below.refl _ _).alloc (Nat.le_refl _) _
  have hoV : V.heap[E]? = some (Obj.cells #[.int .i64 k, .string s, .slice ao l.length cap] 54 (0, 0)) := by rw [hV, hE]; exact heap_alloc_new _ _
  have c0 : V.cell? ⟨E, 0, none⟩ = some (.int .i64 k) := by rw [cell_of_row _ _ _ _ _ _ hoV]; rfl
  have c1 : V.cell? ⟨E, 1, none⟩ = some (.string s) := by rw [cell_of_row _ _ _ _ _ _ hoV]; rfl
  have c2 : V.cell? ⟨E, 2, none⟩ = some (.slice ao l.length cap) := by rw [cell_of_row _ _ _ _ _ _ hoV]; rfl
  have hEV : E < V.heap.size := (Array.getElem?_eq_some_iff.1 hoV).1
  have hbE : hb < E := by omega
  have HRO := Lib.hid (show ∀ g0 c0, v = .slice (some ⟨g0, 0, none⟩) c0 c0 → g0 < E from fun g0 c0 h => by
    rcases hh.row with h2 | ⟨g1, c1, h2, hr1⟩
    · rw [h] at h2; cases h2
    · rw [h] at h2
      cases h2
      rw [hE]
      exact hr1.lt)
  have HC1 := Lib.hid c1
  have HC2 := Lib.hid c2
  have HBV := Lib.hid (show Below hb w V from hbV.mono (by omega))
  have HHV := Lib.hid (hh.below hbV)
  have HV := Lib.hid hV
  have HE := Lib.hid hE
  clear hh hx hT hW hbV hoV hV hE
  simp only [OpT.v]
  go_enter Tryd.func20, Tryd.ntmps20
  go_upto_region 1 with fail
  rw [← HV.out, ← HE.out]
  by_cases h1 : k = 1
  · subst h1
    obtain ⟨L, p, er, hL, hs1, hs2⟩ := scan_both s HX.out.tx
    have HS1 := Lib.hid (hs1 V (HT.out V HBV.out))
    have HS2 := Lib.hid hs2
    clear hs1 hs2
    go_wp2_with fail
    refine HS1.out.mono ?_; rintro e w2 ⟨⟨va, ca, rfl, ht1⟩, hb2⟩
    have HT1 := Lib.hid ht1
    have d1 := (hb2.cell (p := ⟨E, 1, none⟩) hEV).trans c1
    have HB2 := Lib.hid hb2
    have HHB := Lib.hid (HHV.out.below hb2)
    have HBB := Lib.hid (HBV.out.trans (hb2.mono (by omega)))
    have hz2 := hb2.size
    have HS3 := Lib.hid (HS2.out w2)
    clear ht1 hb2 c0 c1 c2 HS1 HS2
    go_wp2_with fail
    refine HS3.out.mono ?_; rintro e w3 ⟨⟨vb, cb, rfl, ht2⟩, hb3⟩
    have HEQ := Lib.hid (eqToks_any L va vb ca cb w3 (by unfold maxLen; omega) (HT1.out.below hb3) ht2)
    have HHC := Lib.hid (HHB.out.below hb3)
    have HBC := Lib.hid (HBB.out.trans (hb3.mono (by omega)))
    have hz3 := hb3.size
    clear ht2 hb3 d1
    go_wp2_with fail
    refine HEQ.out.mono ?_; rintro e w4 ⟨rfl, hb4⟩
    have HHD := Lib.hid (HHC.out.below hb4)
    have HBD := Lib.hid (HBC.out.trans (hb4.mono (by omega)))
    clear hb4
    go_wp2_with fail
    go_ret
    exact ⟨rfl, ⟨_, HHD.out⟩, HBD.out⟩
  have e1 : (k == 1) = false := beq_eq_false_iff_ne.2 h1
  by_cases h2 : k = 2
  · subst h2
    have HLI := Lib.hid (list_any l ao cap hb v V HHV.out (HX.out.at'.lower HX.out.lo HBV.out) HX.out.lo HX.out.nc HX.out.n)
    clear h1 e1
    go_wp2_with fail
    refine HLI.out.mono ?_; rintro e w2 ⟨g, c, rfl, hc, hbx2, hr2, hb2, hk2⟩
    have HBX2 := Lib.hid hbx2
    have HR2 := Lib.hid hr2
    have HB2 := Lib.hid hb2
    have HBB := Lib.hid (HBV.out.trans hb2)
    have hz2 := hb2.size
    have hgl := hr2.lo
    have HSP := Lib.hid (spell_all l (some ⟨g, 0, none⟩) c w2 (HT.out w2 HBB.out) (Or.inr ⟨g, 0, rfl, fun i hi => by
      have h := HR2.out.c i (by omega)
      rw [handF_in hi] at h
      simp only [Nat.zero_add]
      exact h⟩) HX.out.n HX.out.s)
    clear hbx2 hr2 hb2
    go_wp2_with fail
    refine HSP.out.mono ?_; rintro e w3 ⟨⟨t1, er1, rfl, hsp1⟩, hb3⟩
    have HBX3 := Lib.hid ((hb3.block hb (by omega)).trans HBX2.out)
    have HR3 := Lib.hid (HR2.out.below hb3)
    have HBC := Lib.hid (HBB.out.trans (hb3.mono (by omega)))
    have hz3 := hb3.size
    have HSQ := Lib.hid (refSpell_any l ao cap w3 (HX.out.at'.lower HX.out.lo HBC.out) HX.out.n HX.out.s)
    have HS1 := Lib.hid hsp1
    have hEo := hk2 E hEV (by omega) (by
      intro e
      rcases HHV.out.row with h | ⟨g0, c0, h, hr0⟩
      · rw [h] at e; cases e
      · have hr1 := HRO.out g0 c0 h
        rw [h] at e
        simp only [Value.ownBlock, Option.some.injEq] at e
        omega)
    have d2' : w2.cell? ⟨E, 2, none⟩ = some (.slice ao l.length cap) := (World.cell?_of_block (a := ⟨E, 2, none⟩) hEo).trans HC2.out
    have d2 : w3.cell? ⟨E, 2, none⟩ = some (.slice ao l.length cap) := (hb3.cell (p := ⟨E, 2, none⟩) (by show E < w2.heap.size; omega)).trans d2'
    clear hb3 hsp1 hk2 hEo d2' c0 c1 c2
    go_wp2_with fail
    refine HSQ.out.mono ?_; rintro e w4 ⟨⟨t2, er2, rfl, hsp2⟩, hb4⟩
    obtain ⟨rfl, rfl⟩ := HS1.out.one hsp2
    have HBX4 := Lib.hid ((hb4.block hb (by omega)).trans HBX3.out)
    have HR4 := Lib.hid (HR3.out.below hb4)
    have HBD := Lib.hid (HBC.out.trans (hb4.mono (by omega)))
    have hz4 := hb4.size
    have d3 : w4.cell? ⟨E, 2, none⟩ = some (.slice ao l.length cap) := (hb4.cell (p := ⟨E, 2, none⟩) (by show E < w3.heap.size; omega)).trans d2
    have HKE := Lib.hid (kept_any l ao cap hb g c w4 HBX4.out HR4.out (HX.out.at'.lower HX.out.lo HBD.out) HX.out.lo hc)
    clear hb4 d2 hsp2
    go_wp2_with fail
    refine HKE.out.mono ?_; rintro e w5 ⟨rfl, hh5, hb5⟩
    have HH5 := Lib.hid hh5
    have HB5 := Lib.hid (HBD.out.trans hb5)
    clear hh5 hb5
    go_wp2_with fail
    go_ret
    exact ⟨by simp, ⟨_, HH5.out⟩, HB5.out⟩
  have e2 : (k == 2) = false := beq_eq_false_iff_ne.2 h2
  by_cases h3 : k = 3
  · subst h3
    have HW1 := Lib.hid (word_any s V.drew (HW.out V.drew HBV.out.drew))
    have HW2 := Lib.hid (refWord_any s V.drew)
    obtain ⟨B, hB⟩ : ∃ B, B = isWrd s.data.toList := ⟨_, rfl⟩
    rw [← hB] at HW1 HW2
    clear h1 h2 e1 e2 hB
    go_upto_region 12 with fail
    go_region_held3 (fun w' => w'.cell? ⟨E, 1, none⟩ = some (.string s)) (first | go_keep | exact r1) (first
      | (go_at_call 28; (with_reducible refine HW1.out.mono ?_); rintro e w4 ⟨rfl, hw⟩; subst hw)
      | (go_at_call 33; (with_reducible refine HW2.out.mono ?_); rintro e w4 ⟨rfl, hb4⟩; have r1 := (hb4.cell (p := ⟨E, 1, none⟩) hEV).trans HC1.out))
    all_goals
      have HHD := Lib.hid ((HHV.out.below (Below.refl _ V).drew).below hb4)
      have HBD := Lib.hid (HBV.out.drew.trans (hb4.mono (by show hb ≤ V.heap.size; omega)))
      clear hb4
      go_wp2_with fail
      go_ret
      exact ⟨by simp, ⟨_, HHD.out⟩, HBD.out⟩
  have e3 : (k == 3) = false := beq_eq_false_iff_ne.2 h3
  clear h1 h2 h3
  go_wp2_with fail
  go_ret
  exact ⟨rfl, ⟨_, HHV.out⟩, HBV.out⟩
end Go.Proofs.YtaipljdpkgdheaaDoor
/- How many tokens a text has. -/
namespace Go.Proofs.YtaipljdpkgdheaaDoor
open Go Go.RowKit

theorem scanR_len (n : Nat) : ∀ (k : Nat) (l : List UInt8) (acc : List Tk), l.length ≤ k → (scanR n acc l).1.length ≤ acc.length + l.length + 1 := by
  intro k
  induction k with
  | zero =>
    intro l acc hk
    by_cases h : (nextR l).err = 0
    · by_cases h5 : (nextR l).kind = 5
      · rw [scanR_end h h5]; simp
      · have := next_rest l h h5
        omega
    · rw [scanR_bad h]; simp
  | succ k ih =>
    intro l acc hk
    by_cases h : (nextR l).err = 0
    · by_cases h5 : (nextR l).kind = 5
      · rw [scanR_end h h5]; simp
      · have hr := next_rest l h h5
        rw [scanR_more h h5]
        have := ih (nextR l).rest (acc ++ [tkOf n (nextR l)]) (by omega)
        simp only [List.length_append, List.length_singleton] at this
        omega
    · rw [scanR_bad h]; simp
/-- scan_own, and that no list is long. -/
theorem scan_len_most (t : ByteArray) (h : t.size ≤ 4096) : (scanR t.size [] t.data.toList).1.length ≤ 4097 := by
  have h2 := scanR_len t.size t.data.toList.length t.data.toList [] (Nat.le_refl _)
  rw [len_at, List.length_nil] at h2
  omega
end Go.Proofs.YtaipljdpkgdheaaDoor
/- The law's scanned; Book's over. -/
namespace Go.Proofs.YtaipljdpkgdheaaDoor
open Go Go.RowKit

/-- What Scan answers, with whose memory it is. -/
def ScanOwn (w : World) (acc : List Tk) (p er : Int) (e : Ending) (w' : World) : Prop :=
  (∃ (va : Option Addr) (cap : Nat), e = .returned (.tuple #[.slice va acc.length cap, .int .i64 p, .int .i64 er]) ∧ w'.ownsRow w.heap.size 28 3 (.slice va acc.length cap) acc.length (tkCells acc)) ∧ Below w.heap.size w w'
theorem scan_own (t : ByteArray) (ht : t.size ≤ 140737488351232) : ∃ (acc : List Tk) (p er : Int), acc.length ≤ 4097 ∧
    (∀ w, Tabs w → Calls Tryd.prog 9 #[.string t] w (ScanOwn w acc p er)) ∧ (∀ w, Calls Tryd.prog 29 #[.string t] w (ScanOwn w acc p er)) := by
  by_cases h : t.size ≤ 4096
  · exact ⟨_, _, _, scan_len_most t h, fun w hT => scan_any t w h hT, fun w => refScan_any t w h⟩
  · have hq : (4096 : Int) < (t.size : Int) := by omega
    refine ⟨[], 0, 2, by simp, fun w hT => ?_, fun w => ?_⟩
    · go_enter Tryd.func9, Tryd.ntmps9
      go_wp2_with fail
      go_ret3
      exact ⟨⟨none, 0, rfl, World.ownsRow_nil _ _ _ _⟩, Below.refl _ _⟩
    · go_enter Tryd.func29, Tryd.ntmps29
      go_wp2_with fail
      go_ret3
      exact ⟨⟨none, 0, rfl, World.ownsRow_nil _ _ _ _⟩, Below.refl _ _⟩
theorem own_cap {w : World} {B n cap : Nat} {va : Option Addr} {xs : List Value} (h : w.ownsRow B 28 3 (.slice va n cap) n xs) : n ≤ cap ∧ cap ≤ maxLen := by
  rcases h.2 with ⟨e, h0⟩ | ⟨g, cap', cur, e, _, _, hn, hc, _⟩
  · cases e
    exact ⟨Nat.le_refl _, by unfold maxLen; omega⟩
  · cases e
    exact ⟨hn, hc⟩
/-- What scanned answers. -/
def ScannedTo (w : World) (acc : List Tk) (e : Ending) (w' : World) : Prop :=
  (∃ (va vb : Option Addr) (ca cb B : Nat), e = .returned (.tuple #[.slice va acc.length ca, .slice vb acc.length cb, .bool true]) ∧ w'.ownsRow w.heap.size 28 3 (.slice va acc.length ca) acc.length (tkCells acc) ∧ w'.ownsRow B 28 3 (.slice vb acc.length cb) acc.length (tkCells acc) ∧ w.heap.size ≤ B ∧ (∀ ad, va = some ad → ad.block < B)) ∧ Below w.heap.size w w'
set_option maxHeartbeats 8000000 in
set_option maxRecDepth 100000 in
theorem scanned_any (t : ByteArray) (ht : t.size ≤ 140737488351232) : ∃ acc : List Tk, acc.length ≤ 4097 ∧ ∀ w, Tabs w → Calls Tryd.prog 15 #[.string t] w (ScannedTo w acc) := by
  obtain ⟨acc, p, er, hlen, hs1, hs2⟩ := scan_own t ht
  refine ⟨acc, hlen, fun w hT => ?_⟩
  have HS1 := Lib.hid (hs1 w hT)
  have HS2 := Lib.hid hs2
  clear hs1 hs2 hT
  go_enter Tryd.func15, Tryd.ntmps15
  go_wp2_with fail
  refine HS1.out.mono ?_; rintro e w2 ⟨⟨va, ca, rfl, ho1⟩, hb2⟩
  have HO1 := Lib.hid ho1
  have HB2 := Lib.hid hb2
  have hz2 := hb2.size
  have HS3 := Lib.hid (HS2.out w2)
  clear ho1 hb2 HS1 HS2
  go_wp2_with fail
  refine HS3.out.mono ?_; rintro e w3 ⟨⟨vb, cb, rfl, ho2⟩, hb3⟩
  have HO2 := Lib.hid ho2
  have HO3 := Lib.hid (owns_below HO1.out hb3)
  have HB3 := Lib.hid (HB2.out.trans (hb3.mono hz2))
  have hz3 := hb3.size
  have h1 := toks_row HO3.out rfl
  have h2 := toks_row HO2.out rfl
  have hcm := own_cap HO2.out
  have HEQ := Lib.hid (eqToks_any (acc.map Tk.asTok) va vb ca cb w3 (by rw [List.length_map]; omega) h1 h2)
  rw [List.length_map] at HEQ
  clear ho2 hb3 h1 h2 hcm
  go_wp2_with fail
  refine HEQ.out.mono ?_; rintro e w4 ⟨rfl, hb4⟩
  have HO4 := Lib.hid (owns_below HO3.out hb4)
  have HO5 := Lib.hid (owns_below HO2.out hb4)
  have HB4 := Lib.hid (HB3.out.trans (hb4.mono (by omega)))
  clear hb4
  go_wp2_with fail
  go_ret3
  exact ⟨⟨va, vb, ca, cb, w2.heap.size, rfl, HO4.out, HO5.out, hz2, fun ad e => own_lt_size HO1.out ad.block (by rw [e]; rfl)⟩, HB4.out⟩
end Go.Proofs.YtaipljdpkgdheaaDoor
/- The law's Book: over. -/
namespace Go.Proofs.YtaipljdpkgdheaaDoor
open Go Go.RowKit

/-- The box of a book. -/
def BookBox (w : World) (bb : Nat) (L : Value) (m : Int) : Prop := w.heap[bb]? = some (Obj.cells #[L, .int .i64 m] 43 (0, 0))
theorem BookBox.cells {w : World} {bb : Nat} {L : Value} {m : Int} (h : BookBox w bb L m) : w.cell? ⟨bb, 0, none⟩ = some L ∧ w.cell? ⟨bb, 1, none⟩ = some (.int .i64 m) ∧ w.frozen? ⟨bb, 0, none⟩ = false ∧ w.frozen? ⟨bb, 1, none⟩ = false :=
  ⟨by rw [cell_of_row _ _ _ _ _ _ h]; rfl, by rw [cell_of_row _ _ _ _ _ _ h]; rfl, frozen_of_row _ _ _ _ _ h, frozen_of_row _ _ _ _ _ h⟩
theorem BookBox.set1 {w : World} {bb : Nat} {L : Value} {m : Int} (h : BookBox w bb L m) (m' : Int) : BookBox (w.setCell ⟨bb, 1, none⟩ (.int .i64 m')) bb L m' :=
  (heap_setCell_same w bb 1 _ _ (.int .i64 m') h).trans rfl
theorem BookBox.set0 {w : World} {bb : Nat} {L : Value} {m : Int} (h : BookBox w bb L m) (L' : Value) : BookBox (w.setCell ⟨bb, 0, none⟩ L') bb L' m :=
  (heap_setCell_same w bb 0 _ _ L' h).trans rfl
set_option maxHeartbeats 8000000 in
set_option maxRecDepth 100000 in
theorem over_any (bb : Nat) (L : Value) (m n : Int) (w : World) (h : BookBox w bb L m) :
    Calls Tryd.prog 18 #[.pointer (some ⟨bb, 0, none⟩), .int .i64 n] w fun e w' => (∃ b, e = .returned (.bool b)) ∧ ∃ m', w' = w.setCell ⟨bb, 1, none⟩ (.int .i64 m') := by
  obtain ⟨c0, c1, f0, f1⟩ := h.cells
  have H := Lib.hid h
  clear h
  go_enter Tryd.func18, Tryd.ntmps18
  go_upto_region 2 with fail
  obtain ⟨M, hM⟩ : ∃ M : Int, M = wrap64 (wrap64 (m + 400) + n) := ⟨_, rfl⟩
  obtain ⟨X, hX⟩ : ∃ X, X = w.setCell ⟨bb, 1, none⟩ (.int .i64 M) := ⟨_, rfl⟩
  have x1 := (show BookBox X bb L M by rw [hX]; exact H.out.set1 M).cells.2.1
  rw [hM] at hX
  rw [← hX]
  have HX := Lib.hid hX
  clear hX hM c0 c1 f0 f1
  go_wp2_with fail
  go_ret
  exact ⟨⟨_, rfl⟩, _, HX.out⟩
end Go.Proofs.YtaipljdpkgdheaaDoor
/- The law's Book: whole. -/
namespace Go.Proofs.YtaipljdpkgdheaaDoor
open Go Go.RowKit

/-- A list that the book holds. -/
structure LstX where
  ao : Option Addr
  n : Nat
  cap : Nat
def markM (i : Nat) : Tok := ⟨1000 + (i : Int) / 2, ⟨#[]⟩, 0⟩
/-- The book's lists, each full of its mark. -/
def ListsAt (w : World) (la : Option Addr) (ls : List LstX) : Prop :=
  ls = [] ∨ ∃ g o, la = some ⟨g, o, none⟩ ∧ ∀ i (h : i < ls.length), w.cell? ⟨g, o + i, none⟩ = some (.slice ls[i].ao ls[i].n ls[i].cap) ∧ ls[i].n ≤ 9223372036854775807 ∧ ToksAt w ls[i].ao (List.replicate ls[i].n (markM i))
set_option maxHeartbeats 8000000 in
set_option maxRecDepth 100000 in
theorem whole_any (bb : Nat) (la : Option Addr) (ls : List LstX) (lc : Nat) (m : Int) (w : World) (hx : BookBox w bb (.slice la ls.length lc) m) (hl : ListsAt w la ls) (hn : ls.length ≤ 9223372036854775807) :
    Calls Tryd.prog 17 #[.pointer (some ⟨bb, 0, none⟩)] w fun e w' => e = .returned (.bool true) ∧ w' = w := by
  obtain ⟨c0, _, _, _⟩ := hx.cells
  have HL := Lib.hid hl
  obtain ⟨N, hN⟩ : ∃ N, N = ls.length := ⟨_, rfl⟩
  rw [← hN] at c0 hn
  have HN := Lib.hid hN
  clear hl hN hx
  go_enter Tryd.func17, Tryd.ntmps17
  go_wp2_with fail
  go_loopg [3] (N + 1) (fun g v3 wr => ∃ i : Nat, i ≤ N ∧ v3 = .int .i64 (i : Int) ∧ wr = w ∧ N - i < g)
  case atStart => exact ⟨0, Nat.zero_le _, rfl, rfl, by omega⟩
  case round =>
    obtain ⟨i, hi, rfl, hw, hg⟩ := hrel
    subst hw
    obtain ⟨g, rfl⟩ : ∃ g, gk = g + 1 := ⟨gk - 1, by omega⟩
    have i0 : (0 : Int) ≤ (i : Int) := by omega
    by_cases hlt : i < N
    · have i1 : (i : Int) < (N : Int) := by omega
      have hil : i < ls.length := by rw [← HN.out]; exact hlt
      obtain ⟨lg, lo, rfl, hc⟩ : ∃ g o, la = some ⟨g, o, none⟩ ∧ ∀ i (h : i < ls.length), wr.cell? ⟨g, o + i, none⟩ = some (.slice ls[i].ao ls[i].n ls[i].cap) ∧ ls[i].n ≤ 9223372036854775807 ∧ ToksAt wr ls[i].ao (List.replicate ls[i].n (markM i)) := by
        rcases HL.out with h | h
        · rw [h] at hil; simp at hil
        · exact h
      obtain ⟨d0, hcap, hat⟩ := hc i hil
      obtain ⟨⟨ao, n, cp⟩, hx⟩ : ∃ x, x = ls[i] := ⟨_, rfl⟩
      rw [← hx] at d0 hcap hat
      simp only at d0 hcap hat
      have HAT := Lib.hid hat
      clear hc hx hat
      go_wp2_with fail
      go_loopg [4] (n + 1) (fun g v4 wy => ∃ j : Nat, j ≤ n ∧ v4 = .int .i64 (j : Int) ∧ wy = wr ∧ n - j < g)
      case atStart => exact ⟨0, Nat.zero_le _, rfl, rfl, by omega⟩
      case round =>
        obtain ⟨j, hj, rfl, hw, hg2⟩ := hrel
        subst hw
        obtain ⟨g2, rfl⟩ : ∃ g, gk = g + 1 := ⟨gk - 1, by omega⟩
        have j0 : (0 : Int) ≤ (j : Int) := by omega
        by_cases hlt2 : j < n
        · have j1 : (j : Int) < (n : Int) := by omega
          obtain ⟨b, o, rfl, t0, t1, t2⟩ := toks_cell HAT.out j (by simpa using hlt2)
          simp only [List.getElem_replicate, markM] at t0 t1 t2
          go_wp2_with fail
          go_roundg g2
          case rel => exact ⟨j + 1, by omega, by go_num, rfl, by omega⟩
          case measure => omega
        · have j1 : ¬ (j : Int) < (n : Int) := by omega
          go_wp2_with fail
          go_roundg g
          case rel => exact ⟨i + 1, by omega, by go_num, rfl, by omega⟩
          case measure => omega
    · have i1 : ¬ (i : Int) < (N : Int) := by omega
      go_wp2_with fail
      go_ret
      exact ⟨rfl, rfl⟩
end Go.Proofs.YtaipljdpkgdheaaDoor
