/- Texts put together: HandList, HandKept, Plays, AllWalk, InOps, LaidT, Laid6. -/
import Derived.BigQuiet
import Derived.Deep.CutRange
import Derived.ChangeSlices
import Derived.Deep.Strs
import Derived.Lib.SmallJoins
import Derived.Carry
import Derived.SizedLaws
import Derived.Test.YtajdoicggmnanaaDoorValue
import Derived.Test.YtajdoicggmnanaaDoorRows
import Derived.ProofKit
import Derived.LaidMore
import Derived.LaidSub
import Derived.OpenShut
import Derived.Lay
import Derived.Lib.LaidTab
import Derived.Test.YtajdoicggmnanaaDoorMrgA
import Derived.Test.YtajdoicggmnanaaDoorMrgB
import Derived.Test.YtajdoicggmnanaaDoorMrgC
import Derived.Test.YtajdoicggmnanaaDoorMrgD
/- The law's Hand: list. -/
namespace Go.Proofs.YtajdoicggmnanaaDoor
open Go Go.RowKit

/-- The box of the memory, and what it holds. -/
structure HandAt (w : World) (hb : Nat) (v : Value) : Prop where
  box : w.heap[hb]? = some (Obj.cells #[v] 51 (0, 0))
  row : v = .slice none 0 0 ∨ ∃ g cap, v = .slice (some ⟨g, 0, none⟩) cap cap ∧ HRow w (hb + 1) g cap (fun _ => False) (handF [])
theorem HandAt.lt {w : World} {hb : Nat} {v : Value} (h : HandAt w hb v) : hb < w.heap.size := (Array.getElem?_eq_some_iff.1 h.box).1
theorem HandAt.below {w w' : World} {hb : Nat} {v : Value} (h : HandAt w hb v) (hb' : Below w.heap.size w w') : HandAt w' hb v :=
  ⟨(hb'.block hb h.lt).trans h.box, h.row.imp id fun ⟨g, cap, e, h⟩ => ⟨g, cap, e, h.below hb'⟩⟩
theorem box_cell {w : World} {hb : Nat} {v : Value} (h : w.heap[hb]? = some (Obj.cells #[v] 51 (0, 0))) : w.cell? ⟨hb, 0, none⟩ = some v ∧ w.frozen? ⟨hb, 0, none⟩ = false :=
  ⟨by rw [cell_of_row w hb 0 _ _ _ h]; rfl, frozen_of_row w hb 0 _ _ h⟩
theorem box_set {w : World} {hb : Nat} {v : Value} (h : w.heap[hb]? = some (Obj.cells #[v] 51 (0, 0))) (u : Value) : (w.setCell ⟨hb, 0, none⟩ u).heap[hb]? = some (Obj.cells #[u] 51 (0, 0)) :=
  (heap_setCell_same w hb 0 _ _ u h).trans rfl
theorem ToksAt.lower {w w' : World} {B : Nat} {ao : Option Addr} {l : List Tok} (h : ToksAt w ao l) (hlo : l ≠ [] → ∀ ad, ao = some ad → ad.block < B) (hb : Below B w w') : ToksAt w' ao l := by
  rcases h with h | ⟨b, o, e, h⟩
  · exact Or.inl h
  · by_cases hl : l = []
    · exact Or.inl hl
    have hB := hlo hl _ e
    refine Or.inr ⟨b, o, e, fun i hi => ?_⟩
    obtain ⟨a0, a1, a2⟩ := h i hi
    exact ⟨(hb.cell (p := ⟨b, o + i * 3, none⟩) hB).trans a0, (hb.cell (p := ⟨b, o + i * 3 + 1, none⟩) hB).trans a1, (hb.cell (p := ⟨b, o + i * 3 + 2, none⟩) hB).trans a2⟩
/-- What list answers. -/
def ListTo (l : List Tok) (hb : Nat) (v : Value) (w : World) (e : Ending) (w' : World) : Prop :=
  ∃ g cap, e = .returned (.slice (some ⟨g, 0, none⟩) l.length cap) ∧ l.length + 2 ≤ cap ∧ w'.heap[hb]? = some (Obj.cells #[.slice (some ⟨g, 0, none⟩) cap cap] 51 (0, 0)) ∧ HRow w' (hb + 1) g cap (fun i => i < cap) (handF l) ∧ Below hb w w' ∧ ∀ b, b < w.heap.size → b ≠ hb → v.ownBlock ≠ some b → w'.heap[b]? = w.heap[b]?

set_option maxHeartbeats 8000000 in
set_option maxRecDepth 100000 in
theorem list_any (l : List Tok) (ao : Option Addr) (cap0 hb : Nat) (v : Value) (w : World) (hh : HandAt w hb v) (ha : ToksAt w ao l) (hlo : l ≠ [] → ∀ ad, ao = some ad → ad.block < hb) (hnc : ao = none → cap0 = 0) (hn : l.length ≤ 4398046511000) :
    Calls Tryd.prog 30 #[.pointer (some ⟨hb, 0, none⟩), .slice ao l.length cap0] w (ListTo l hb v w) := by
  obtain ⟨i0, hi0, hz0, hz1, hz2⟩ := info_parts Tryd.infoTok
  have HA := Lib.hid ha
  have HLO := Lib.hid hlo
  have HNC := Lib.hid hnc
  have HBX := Lib.hid hh.box
  have hlt := hh.lt
  have hrow := hh.row
  obtain ⟨d0, f0⟩ := box_cell hh.box
  obtain ⟨n, hn0⟩ : ∃ n, n = l.length := ⟨_, rfl⟩
  rw [← hn0] at hn ⊢
  have HN := Lib.hid hn0
  have n0 : (0 : Int) ≤ (n : Int) := by omega
  clear ha hlo hnc hh hn0
  go_enter Tryd.func30, Tryd.ntmps30
  have HP : ∀ (X : World) (vv V : Value), X.heap[hb]? = some (Obj.cells #[vv] 51 (0, 0)) → Below hb w X → (V = .slice none 0 0 ∨ ∃ g cap, V = .slice (some ⟨g, 0, none⟩) 0 cap ∧ HRow X (hb + 1) g cap (fun _ => False) (handF [])) → X.ownsRow (hb + 1) 28 3 V 0 [] ∧ ToksArg X ao cap0 l ∧ hb < X.heap.size := by
    intro X vv V h1 h2 h3
    refine ⟨?_, toks_arg (HA.out.lower HLO.out h2) HNC.out, (Array.getElem?_eq_some_iff.1 h1).1⟩
    rcases h3 with rfl | ⟨g, cap, rfl, hr⟩
    · exact World.ownsRow_nil _ _ _ _
    · exact hr.own
  replace HP := Lib.hid HP
  obtain ⟨ob, hob⟩ : ∃ ob, ob = v.ownBlock := ⟨_, rfl⟩
  have HOB := Lib.hid hob
  clear hob
  rcases hrow with rfl | ⟨g0, c0, rfl, hr⟩
  focus
    obtain ⟨hP1, hP2, hP3⟩ := HP.out w _ _ HBX.out (Below.refl _ _) (Or.inl rfl)
    have HP1 := Lib.hid hP1
    have HP2 := Lib.hid hP2
    have k0 : ¬ (n : Int) + 70000 < 0 := by omega
    clear hP1 hP2
    go_upto_region 5 with (at_builtin; go_must (refine wpList_append_toks (by rfl) _ _ (by rfl) (hb + 1) (.slice none 0 0) (by rfl) HP1.out ao cap0 n l (by exact HN.out.symm) (by rfl) HP2.out (by omega) (by omega) ?_; intro v7 w7 hown7 hgrow7 hat7))
    have HB7 := Lib.hid ((Below.refl hb w).grown hgrow7 (by omega) (fun k h => by cases h))
    have HX7 := Lib.hid (show ∃ vv, w7.heap[hb]? = some (Obj.cells #[vv] 51 (0, 0)) from ⟨_, (hgrow7.block hb hP3 (by simp [Value.ownBlock])).trans HBX.out⟩)
    have hz7 : hb < w7.heap.size := Nat.lt_of_lt_of_le hP3 hgrow7.size
    have HK7 := Lib.hid (show ∀ b, b < w.heap.size → b ≠ hb → ob ≠ some b → w7.heap[b]? = w.heap[b]? ∧ v7.ownBlock ≠ some b from fun b h1 h2 h3 => ⟨hgrow7.block b h1 (by simp [Value.ownBlock]), by
      rcases hat7 with e | e
      · rw [e]; simp [Value.ownBlock]
      · rw [e]; intro e2; injection e2 with e2; omega⟩)
    have HO7 := Lib.hid hown7
    clear hown7 hgrow7 hat7 HP1 HP2 HP d0 f0 k0 hP3
  rotate_left
  have HR := Lib.hid hr
  have hg0 := hr.lo
  by_cases hc : n + 70000 < c0
  focus
    have k0 : (n : Int) + 70000 < (c0 : Int) := by omega
    clear hr
    go_upto_region 4 with fail
    obtain ⟨X, hX⟩ : ∃ X, X = w.setCell ⟨hb, 0, none⟩ (.slice none 0 0) := ⟨_, rfl⟩
    rw [← hX]
    have HBX2 := Lib.hid (show X.heap[hb]? = some (Obj.cells #[.slice none 0 0] 51 (0, 0)) by rw [hX]; exact box_set HBX.out _)
    have HBE := Lib.hid (show Below hb w X by rw [hX]; exact (Below.refl hb w).setCell (show hb ≤ (⟨hb, 0, none⟩ : Addr).block from Nat.le_refl _) _)
    obtain ⟨x0, xf⟩ := box_cell HBX2.out
    have hXs : X.heap.size = w.heap.size := by rw [hX]; simp [World.setCell]
    have HXK := Lib.hid (show ∀ b, b ≠ hb → X.heap[b]? = w.heap[b]? from fun b h => by rw [hX]; exact heap_setCell_other _ _ _ _ h)
    obtain ⟨hP1, hP2, hP3⟩ := HP.out X _ _ HBX2.out HBE.out (Or.inl rfl)
    have HP1 := Lib.hid hP1
    have HP2 := Lib.hid hP2
    clear hP1 hP2 d0 f0 hX
    go_upto_region 5 with (at_builtin; go_must (refine wpList_append_toks (by rfl) _ _ (by rfl) (hb + 1) (.slice none 0 0) (by rfl) HP1.out ao cap0 n l (by exact HN.out.symm) (by rfl) HP2.out (by omega) (by omega) ?_; intro v7 w7 hown7 hgrow7 hat7))
    have HB7 := Lib.hid (HBE.out.grown hgrow7 (by omega) (fun k h => by cases h))
    have HX7 := Lib.hid (show ∃ vv, w7.heap[hb]? = some (Obj.cells #[vv] 51 (0, 0)) from ⟨_, (hgrow7.block hb hP3 (by simp [Value.ownBlock])).trans HBX2.out⟩)
    have hz7 : hb < w7.heap.size := Nat.lt_of_lt_of_le hP3 hgrow7.size
    have HK7 := Lib.hid (show ∀ b, b < w.heap.size → b ≠ hb → ob ≠ some b → w7.heap[b]? = w.heap[b]? ∧ v7.ownBlock ≠ some b from fun b h1 h2 h3 => ⟨(hgrow7.block b (by rw [hXs]; exact h1) (by simp [Value.ownBlock])).trans (HXK.out b h2), by
      rcases hat7 with e | e
      · rw [e]; simp [Value.ownBlock]
      · rw [e]; intro e2; injection e2 with e2; omega⟩)
    have HO7 := Lib.hid hown7
    clear hown7 hgrow7 hat7 HP1 HP2 HP x0 xf k0 hP3 hc HR HBX2 HBE hXs HXK
  rotate_left
  focus
    have k0 : ¬ (n : Int) + 70000 < (c0 : Int) := by omega
    obtain ⟨hP1, hP2, hP3⟩ := HP.out w _ (.slice (some ⟨g0, 0, none⟩) 0 c0) HBX.out (Below.refl _ _) (Or.inr ⟨g0, c0, rfl, HR.out⟩)
    have HP1 := Lib.hid hP1
    have HP2 := Lib.hid hP2
    clear hr hP1 hP2
    go_upto_region 5 with (at_builtin; go_must (refine wpList_append_toks (by rfl) _ _ (by rfl) (hb + 1) (.slice (some ⟨g0, 0, none⟩) 0 c0) (by rfl) HP1.out ao cap0 n l (by exact HN.out.symm) (by rfl) HP2.out (by omega) (by omega) ?_; intro v7 w7 hown7 hgrow7 hat7))
    have HB7 := Lib.hid ((Below.refl hb w).grown hgrow7 (by omega) (fun k h => by cases h; exact (show hb ≤ g0 by omega)))
    have HX7 := Lib.hid (show ∃ vv, w7.heap[hb]? = some (Obj.cells #[vv] 51 (0, 0)) from ⟨_, (hgrow7.block hb hP3 (by simp [Value.ownBlock]; omega)).trans HBX.out⟩)
    have hz7 : hb < w7.heap.size := Nat.lt_of_lt_of_le hP3 hgrow7.size
    have HK7 := Lib.hid (show ∀ b, b < w.heap.size → b ≠ hb → ob ≠ some b → w7.heap[b]? = w.heap[b]? ∧ v7.ownBlock ≠ some b from fun b h1 h2 h3 => by
      rw [HOB.out] at h3
      refine ⟨hgrow7.block b h1 (fun e => h3 e.symm), ?_⟩
      rcases hat7 with e | e
      · rw [e]; exact h3
      · rw [e]; intro e2; injection e2 with e2; omega)
    have HO7 := Lib.hid hown7
    clear hown7 hgrow7 hat7 HP1 HP2 HP k0 hP3 hc HR d0 f0
  all_goals
    go_upto_region 6 with (at_builtin; go_must (refine wpList_append_lies _ (by rfl) _ _ _ (by rfl) (hb + 1) 28 i0 _ 3 32 Tryd.underlying23 hi0 hz0 hz1 hz2 rfl (by omega) v7 n (tokC l) (by rfl) (HO7.out.alloc _) ⟨_, 0, none⟩ 2 2 [.int .i64 0, .string ⟨#[]⟩, .int .i64 0, .int .i64 0, .string ⟨#[]⟩, .int .i64 0] (by rfl) (by rfl) (World.news_of_block (cs := #[.int .i64 0, .string ⟨#[]⟩, .int .i64 0, .int .i64 0, .string ⟨#[]⟩, .int .i64 0]) (t := 28) (fr := (0, 0)) (heap_alloc_new _ _)) (by simp [Value.oneCell']) (by omega) (by unfold maxLen; omega) (by omega) (by simp; omega) _ rfl ?_; intro g8 c8 w8 hown8 hgrow8 hat8 hlt8))
    obtain ⟨g', c', e, hcap, hr8⟩ := hrow_of (l := l) hown8 (by omega)
    cases e
    have HR8 := Lib.hid (show HRow w8 (hb + 1) g8 c8 (fun i => i < n) (handF l) from hr8.weak (fun i hi => ⟨by have := HN.out; show i < l.length; omega, rfl⟩))
    have HB8 := Lib.hid (show Below hb w w8 from (HB7.out.trans (((Below.refl _ w7).alloc (Nat.le_refl _) _).mono (by omega))).grown hgrow8 (by simp; omega) (fun k h => Nat.le_trans (Nat.le_succ _) (ownBlock_lo HO7.out k h)))
    have HX8 := Lib.hid (show ∃ vv, w8.heap[hb]? = some (Obj.cells #[vv] 51 (0, 0)) by
      obtain ⟨vv, h⟩ := HX7.out
      exact ⟨vv, (hgrow8.block hb (by rw [World.size_alloc]; omega) (by
        intro e
        have := ownBlock_lo HO7.out hb e.symm
        omega)).trans ((heap_alloc_old _ _ hz7).trans h)⟩)
    have HK8 := Lib.hid (show ∀ b, b < w.heap.size → b ≠ hb → ob ≠ some b → w8.heap[b]? = w.heap[b]? ∧ b ≠ g8 from fun b h1 h2 h3 => by
      obtain ⟨k1, k2⟩ := HK7.out b h1 h2 h3
      have hbz : b < w7.heap.size := Nat.lt_of_lt_of_le h1 HB7.out.size
      refine ⟨(hgrow8.block b (by rw [World.size_alloc]; omega) (fun e => k2 e.symm)).trans ((heap_alloc_old _ _ hbz).trans k1), fun e => ?_⟩
      rcases hat8 with e2 | e2
      · exact k2 (by rw [e2, e])
      · rw [World.size_alloc] at e2; omega)
    have hcm := hr8.le
    unfold maxLen at hcm
    have hgl := hr8.lo
    have cc0 : (0 : Int) ≤ (c8 : Int) := by omega
    have cc1 : (n : Int) ≤ (c8 : Int) := by omega
    clear hown8 hgrow8 hat8 hlt8 hr8
    go_wp2_with fail
    go_loopg [7] (c8 + 1) (fun g v7 wr => ∃ k : Nat, n ≤ k ∧ k ≤ c8 ∧ v7 = .int .i64 (k : Int) ∧ HRow wr (hb + 1) g8 c8 (fun i => i < k) (handF l) ∧ (∃ vv, wr.heap[hb]? = some (Obj.cells #[vv] 51 (0, 0))) ∧ Below hb w wr ∧ (∀ b, b < w.heap.size → b ≠ hb → ob ≠ some b → wr.heap[b]? = w.heap[b]?) ∧ c8 - k < g)
    case atStart => exact ⟨n, Nat.le_refl _, by omega, rfl, HR8.out, HX8.out, HB8.out, fun b h1 h2 h3 => (HK8.out b h1 h2 h3).1, by omega⟩
    case round =>
      obtain ⟨k, hkn, hkc, rfl, hrw, hbx, hbel, hkp, hg⟩ := hrel
      obtain ⟨g, rfl⟩ : ∃ g, gk = g + 1 := ⟨gk - 1, by omega⟩
      have HRW := Lib.hid hrw
      have HBX3 := Lib.hid hbx
      have HBE := Lib.hid hbel
      have HKP := Lib.hid hkp
      clear hrw hbx hbel hkp
      have kk0 : (0 : Int) ≤ (k : Int) := by omega
      by_cases hlt : k < c8
      · have kk1 : (k : Int) < (c8 : Int) := by omega
        obtain ⟨y0, q0⟩ := HRW.out.some' (k * 3) (by omega)
        obtain ⟨y1, q1⟩ := HRW.out.some' (k * 3 + 1) (by omega)
        obtain ⟨y2, q2⟩ := HRW.out.some' (k * 3 + 2) (by omega)
        have p0 := HRW.out.free (k * 3)
        have p1 := HRW.out.free (k * 3 + 1)
        have p2 := HRW.out.free (k * 3 + 2)
        have HS := Lib.hid (show HRow (storeT wr g8 k (markT k)) (hb + 1) g8 c8 (fun i => i < k + 1) (handF l) from HRW.out.set k hlt _ (fun j hj => by
          rcases Nat.lt_or_ge j k with h | h
          · exact Or.inr ⟨by omega, h, rfl⟩
          · left
            obtain rfl : j = k := by have : j < k + 1 := hj; omega
            refine ⟨rfl, ?_⟩
            unfold handF
            rw [dif_neg (by have := HN.out; omega)]))
        have HSB := Lib.hid (show Below hb w (storeT wr g8 k (markT k)) from storeT_below HBE.out (by omega))
        have HSX := Lib.hid (show ∃ vv, (storeT wr g8 k (markT k)).heap[hb]? = some (Obj.cells #[vv] 51 (0, 0)) by
          obtain ⟨vv, h⟩ := HBX3.out
          exact ⟨vv, (storeT_other _ _ _ _ _ (by omega)).trans h⟩)
        have HSK := Lib.hid (show ∀ b, b < w.heap.size → b ≠ hb → ob ≠ some b → (storeT wr g8 k (markT k)).heap[b]? = w.heap[b]? from fun b h1 h2 h3 => (storeT_other _ _ _ _ _ (HK8.out b h1 h2 h3).2).trans (HKP.out b h1 h2 h3))
        go_upto_region 9 with fail
        obtain ⟨V, hV⟩ : ∃ V, V = storeT wr g8 k (markT k) := ⟨_, rfl⟩
        rw [← hV] at HS HSB HSX HSK
        simp only [storeT, markT] at hV
        rw [← hV]
        clear hV q0 q1 q2 p0 p1 p2
        go_wp2_with fail
        go_roundg g
        case rel => exact ⟨k + 1, by omega, by omega, by go_num, HS.out, HSX.out, HSB.out, HSK.out, by omega⟩
        case measure => omega
      · have kk1 : ¬ (k : Int) < (c8 : Int) := by omega
        have hk8 : k = c8 := by omega
        have HRE := Lib.hid (show HRow wr (hb + 1) g8 c8 (fun i => i < c8) (handF l) by rw [hk8] at HRW; exact HRW.out)
        obtain ⟨vv, hvv⟩ := HBX3.out
        have HVV := Lib.hid hvv
        obtain ⟨b0, bf⟩ := box_cell hvv
        have HNL := HN
        clear hvv hk8
        go_wp2_with fail
        go_ret
        refine ⟨g8, c8, by rw [HNL.out]; rfl, by rw [← HNL.out]; exact hcap, box_set HVV.out _, HRE.out.keep (heap_setCell_other _ _ _ _ (by show g8 ≠ hb; omega)), HBE.out.setCell (show hb ≤ (⟨hb, 0, none⟩ : Addr).block from Nat.le_refl _) _, fun b h1 h2 h3 => (heap_setCell_other _ _ _ _ h2).trans (HKP.out b h1 h2 (by rw [HOB.out]; exact h3))⟩
end Go.Proofs.YtajdoicggmnanaaDoor
/- The law's Hand: kept. -/
namespace Go.Proofs.YtajdoicggmnanaaDoor
open Go Go.RowKit

/-- What the memory is written over with. -/
def keptT : Tok := ⟨99, ⟨#[107, 101, 112, 116]⟩, 0⟩
theorem handF_in {l : List Tok} {i : Nat} (h : i < l.length) : handF l i = l[i] := by unfold handF; rw [dif_pos h]
theorem handF_out {l : List Tok} {i : Nat} (h : ¬ i < l.length) : handF l i = markT i := by unfold handF; rw [dif_neg h]

set_option maxHeartbeats 8000000 in
set_option maxRecDepth 100000 in
theorem kept_any (l : List Tok) (ao : Option Addr) (cap0 hb g cap : Nat) (w : World) (hx : w.heap[hb]? = some (Obj.cells #[.slice (some ⟨g, 0, none⟩) cap cap] 51 (0, 0))) (hr : HRow w (hb + 1) g cap (fun i => i < cap) (handF l)) (ha : ToksAt w ao l) (hlo : l ≠ [] → ∀ ad, ao = some ad → ad.block < hb) (hcap : l.length + 2 ≤ cap) :
    Calls Tryd.prog 32 #[.pointer (some ⟨hb, 0, none⟩), .slice ao l.length cap0] w fun e w' => e = .returned (.bool true) ∧ HandAt w' hb (.slice (some ⟨g, 0, none⟩) cap cap) ∧ Below hb w w' := by
  have HA := Lib.hid ha
  have HLO := Lib.hid hlo
  have HX := Lib.hid hx
  have HR := Lib.hid hr
  have hlt : hb < w.heap.size := (Array.getElem?_eq_some_iff.1 hx).1
  have hgl := hr.lo
  have hcm := hr.le
  unfold maxLen at hcm
  obtain ⟨n, hn0⟩ : ∃ n, n = l.length := ⟨_, rfl⟩
  rw [← hn0] at hcap ⊢
  have HN := Lib.hid hn0
  have n0 : (0 : Int) ≤ (n : Int) := by omega
  clear ha hlo hx hr hn0
  go_enter Tryd.func32, Tryd.ntmps32
  go_wp2_with fail
  go_loopg [5, 6] (cap + 1) (fun gg v5 v6 wr => ∃ i : Nat, i ≤ cap ∧ v5 = .bool true ∧ v6 = .int .i64 (i : Int) ∧ HRow wr (hb + 1) g cap (fun j => i ≤ j ∧ j < cap) (handF l) ∧ wr.heap[hb]? = some (Obj.cells #[.slice (some ⟨g, 0, none⟩) cap cap] 51 (0, 0)) ∧ Below hb w wr ∧ cap - i < gg)
  case atStart => exact ⟨0, Nat.zero_le _, rfl, rfl, HR.out.weak (fun i hi => ⟨hi.2, rfl⟩), HX.out, Below.refl _ _, by omega⟩
  case round =>
    obtain ⟨i, hi, rfl, rfl, hrw, hbx, hbel, hg⟩ := hrel
    obtain ⟨gg, rfl⟩ : ∃ g, gk = g + 1 := ⟨gk - 1, by omega⟩
    have HRW := Lib.hid hrw
    have HBX := Lib.hid hbx
    have HBE := Lib.hid hbel
    have hzw := hbel.size
    have hgw := hrw.lt
    obtain ⟨b0, bf⟩ := box_cell hbx
    clear hrw hbx hbel
    have i0 : (0 : Int) ≤ (i : Int) := by omega
    by_cases hlti : i < cap
    · have i1 : (i : Int) < (cap : Int) := by omega
      obtain ⟨V, hV⟩ : ∃ V, V = wr.alloc (Obj.cells #[.int .i64 (wrap64 (77 + (i : Int))), .string ⟨#[]⟩, .int .i64 0] 28) := ⟨_, rfl⟩
      obtain ⟨q, hq⟩ : ∃ q, q = wr.heap.size := ⟨_, rfl⟩
      have hbV : Below wr.heap.size wr V := by rw [hV]; exact (Below.refl _ _).alloc (Nat.le_refl _) _
      have HOB := Lib.hid (show V.heap[q]? = some (Obj.cells #[.int .i64 (wrap64 (77 + (i : Int))), .string ⟨#[]⟩, .int .i64 0] 28 (0, 0)) by rw [hV, hq]; exact heap_alloc_new _ _)
      have HQR := Lib.hid (show HRow V q q 1 (fun j => j < 1) (fun _ => markT i) from ⟨⟨_, HOB.out, rfl⟩, fun j hj => by
        obtain rfl : j = 0 := by omega
        exact ⟨by rw [cell_of_row _ _ _ _ _ _ HOB.out]; rfl, by rw [cell_of_row _ _ _ _ _ _ HOB.out]; rfl, by rw [cell_of_row _ _ _ _ _ _ HOB.out]; rfl⟩, Nat.le_refl _, by unfold maxLen; omega⟩)
      have HRV := Lib.hid (HRW.out.below hbV)
      have HBXV := Lib.hid ((hbV.block hb (by omega)).trans HBX.out)
      have HBV := Lib.hid (show Below hb w V from HBE.out.trans (hbV.mono (by omega)))
      have hvz := HBV.out.size
      have hqg : g < q := by omega
      have hqb : hb < q := by omega
      have HV := Lib.hid hV
      have HQ := Lib.hid hq
      clear hV hbV hq
      go_upto_region 6 with fail
      rw [← HV.out, ← HQ.out]
      clear b0 bf
      by_cases hin : i < n
      focus
        have hin1 : (i : Int) < (n : Int) := by omega
        have hil : i < l.length := by rw [← HN.out]; exact hin
        obtain ⟨b, o, rfl, d0, d1, d2⟩ := toks_cell (HA.out.lower HLO.out HBV.out) i hil
        have HF := Lib.hid (handF_in hil)
        obtain ⟨x, hxx⟩ : ∃ x, x = l[i] := ⟨_, rfl⟩
        rw [← hxx] at d0 d1 d2 HF
        obtain ⟨v0, v1, v2⟩ := HQR.out.c 0 (by omega)
        rw [Nat.zero_mul] at v0 v1 v2
        rw [Nat.zero_add] at v1 v2
        have w0 := HQR.out.free 0
        have w1 := HQR.out.free 1
        have w2 := HQR.out.free 2
        clear hxx
        go_upto_region 8 with fail
        obtain ⟨X, hX⟩ : ∃ X, X = storeT V q 0 x := ⟨_, rfl⟩
        have HQ2 := Lib.hid (show HRow X q q 1 (fun j => j < 1) (fun _ => handF l i) by
          rw [hX, HF.out]
          exact HQR.out.set 0 (by omega) x (fun j hj => Or.inl ⟨by have : j < 1 := hj; omega, rfl⟩))
        have HRX := Lib.hid (show HRow X (hb + 1) g cap (fun j => i ≤ j ∧ j < cap) (handF l) by rw [hX]; exact HRV.out.keep (storeT_other _ _ _ _ _ (by omega)))
        have HBXX := Lib.hid (show X.heap[hb]? = some (Obj.cells #[.slice (some ⟨g, 0, none⟩) cap cap] 51 (0, 0)) by rw [hX]; exact (storeT_other _ _ _ _ _ (by omega)).trans HBXV.out)
        have HBX2 := Lib.hid (show Below hb w X by rw [hX]; exact storeT_below HBV.out (by omega))
        simp only [storeT, Nat.zero_mul, Nat.zero_add] at hX
        rw [← hX]
        clear hX d0 d1 d2 v0 v1 v2 w0 w1 w2 HF hin hin1 HBV HBXV HRV HQR HOB HV hvz
      rotate_left
      focus
        have hin1 : ¬ (i : Int) < (n : Int) := by omega
        have HF := Lib.hid (handF_out (l := l) (i := i) (by have := HN.out; omega))
        go_upto_region 8 with fail
        obtain ⟨X, rfl⟩ : ∃ X, X = V := ⟨_, rfl⟩
        have HQ2 := Lib.hid (show HRow X q q 1 (fun j => j < 1) (fun _ => handF l i) by rw [HF.out]; exact HQR.out)
        have HRX := HRV
        have HBXX := HBXV
        have HBX2 := HBV
        clear HF hin hin1 HBV HBXV HRV HQR HOB HV hvz
      all_goals
        obtain ⟨x, hxx⟩ : ∃ x, x = handF l i := ⟨_, rfl⟩
        obtain ⟨v0, v1, v2⟩ := HQ2.out.c 0 (by omega)
        obtain ⟨r0, r1, r2⟩ := HRX.out.c i ⟨Nat.le_refl _, hlti⟩
        rw [← hxx] at v0 v1 v2 r0 r1 r2
        rw [Nat.zero_mul] at v0 v1 v2
        rw [Nat.zero_add] at v1 v2
        have p0 := HRX.out.free (i * 3)
        have p1 := HRX.out.free (i * 3 + 1)
        have p2 := HRX.out.free (i * 3 + 2)
        obtain ⟨b0, bf⟩ := box_cell HBXX.out
        clear hxx
        go_quiet (fail)
        go_upto_region 4 with fail
        have hbd := below_drewN2 (Below.refl X.heap.size X) nq
        have HRD := Lib.hid (HRX.out.below hbd)
        have HBD := Lib.hid ((hbd.block hb (by have := HBX2.out.size; omega)).trans HBXX.out)
        have HDD := Lib.hid (below_drewN2 HBX2.out nq)
        obtain ⟨Y, hY⟩ : ∃ Y, Y = storeT (X.drewN nq) g i keptT := ⟨_, rfl⟩
        have HRY := Lib.hid (show HRow Y (hb + 1) g cap (fun j => i + 1 ≤ j ∧ j < cap) (handF l) by
          rw [hY]
          exact HRD.out.set i hlti keptT (fun j hj => Or.inr ⟨by have : i + 1 ≤ j := hj.1; omega, ⟨by have : i + 1 ≤ j := hj.1; omega, hj.2⟩, rfl⟩))
        have HBXY := Lib.hid (show Y.heap[hb]? = some (Obj.cells #[.slice (some ⟨g, 0, none⟩) cap cap] 51 (0, 0)) by rw [hY]; exact (storeT_other _ _ _ _ _ (by omega)).trans HBD.out)
        have HBY := Lib.hid (show Below hb w Y by rw [hY]; exact storeT_below HDD.out (by omega))
        simp only [storeT, keptT] at hY
        rw [← hY]
        clear hY hbd HDD HBD HRD v0 v1 v2 r0 r1 r2 p0 p1 p2 b0 bf
        go_wp2_with fail
        go_roundg gg
        case rel => exact ⟨i + 1, by omega, rfl, by go_num, HRY.out, HBXY.out, HBY.out, by omega⟩
        case measure => omega
    · have i1 : ¬ (i : Int) < (cap : Int) := by omega
      go_wp2_with fail
      go_ret
      exact ⟨rfl, ⟨HBX.out, Or.inr ⟨g, cap, rfl, HRW.out.weak (fun _ h => h.elim)⟩⟩, HBE.out⟩
end Go.Proofs.YtajdoicggmnanaaDoor
/- The law's plays. -/
namespace Go.Proofs.YtajdoicggmnanaaDoor
open Go Go.RowKit

/-- What Scan answers, in either package. -/
def Scanned (w : World) (l : List Tok) (p er : Int) (e : Ending) (w' : World) : Prop :=
  (∃ (va : Option Addr) (cap : Nat), e = .returned (.tuple #[.slice va l.length cap, .int .i64 p, .int .i64 er]) ∧ ToksAt w' va l) ∧ Below w.heap.size w w'
theorem scan_both (t : ByteArray) (ht : t.size ≤ 140737488351232) : ∃ (l : List Tok) (p er : Int), l.length ≤ 9223372036854775807 ∧
    (∀ w, Tabs w → Calls Tryd.prog 9 #[.string t] w (Scanned w l p er)) ∧ (∀ w, Calls Tryd.prog 29 #[.string t] w (Scanned w l p er)) := by
  by_cases h : t.size ≤ 4096
  · obtain ⟨R, hR⟩ : ∃ R, R = scanR t.size [] t.data.toList := ⟨_, rfl⟩
    have h1 := fun w => scan_any t w h
    have h2 := fun w => refScan_any t w h
    rw [← hR] at h1 h2
    by_cases hm : R.1.length ≤ 9223372036854775807
    · refine ⟨R.1.map Tk.asTok, scanAt t.size R, R.2.2, by rw [List.length_map]; exact hm, fun w hT => (h1 w hT).mono ?_, fun w => (h2 w).mono ?_⟩
      · rintro e w' ⟨⟨va, cap, rfl, ho⟩, hb⟩
        exact ⟨⟨va, cap, by rw [List.length_map], toks_row ho rfl⟩, hb⟩
      · rintro e w' ⟨⟨va, cap, rfl, ho⟩, hb⟩
        exact ⟨⟨va, cap, by rw [List.length_map], toks_row ho rfl⟩, hb⟩
    · refine ⟨[], 0, 0, Nat.zero_le _, fun w hT => (h1 w hT).mono ?_, fun w => (h2 w).mono ?_⟩
      all_goals
        rintro e w' ⟨⟨va, cap, rfl, ho⟩, hb⟩
        exfalso
        rcases ho.2 with ⟨_, h0⟩ | ⟨g, cap', cur, e, _, _, hn, hc, _⟩
        · omega
        · unfold maxLen at hc; omega
  · have hq : (4096 : Int) < (t.size : Int) := by omega
    refine ⟨[], 0, 2, Nat.zero_le _, fun w hT => ?_, fun w => ?_⟩
    · go_enter Tryd.func9, Tryd.ntmps9
      go_wp2_with fail
      go_ret3
      exact ⟨⟨none, 0, rfl, Or.inl rfl⟩, Below.refl _ _⟩
    · go_enter Tryd.func29, Tryd.ntmps29
      go_wp2_with fail
      go_ret3
      exact ⟨⟨none, 0, rfl, Or.inl rfl⟩, Below.refl _ _⟩

/-- A call that came in. -/
structure OpT where
  kind : Int
  text : ByteArray
  ao : Option Addr
  toks : List Tok
  cap : Nat
def OpT.v (x : OpT) : Value := .agg #[.int .i64 x.kind, .string x.text, .slice x.ao x.toks.length x.cap]
structure OpIn (w : World) (hb : Nat) (x : OpT) : Prop where
  at' : ToksAt w x.ao x.toks
  lo : x.toks ≠ [] → ∀ ad, x.ao = some ad → ad.block < hb
  nc : x.ao = none → x.cap = 0
  n : x.toks.length ≤ 4398046511000
  s : ∀ t ∈ x.toks, t.str.size ≤ 140737488351232
  tx : x.text.size ≤ 140737488351232

set_option maxHeartbeats 8000000 in
set_option maxRecDepth 100000 in
theorem plays_any (x : OpT) (hb : Nat) (v : Value) (w : World) (hh : HandAt w hb v) (hx : OpIn w hb x) (hT : ∀ w', Below hb w w' → Tabs w') (hW : ∀ w', Below hb w w' → WordsAt w') :
    Calls Tryd.prog 20 #[.pointer (some ⟨hb, 0, none⟩), x.v] w fun e w' => e = .returned (.bool true) ∧ (∃ v', HandAt w' hb v') ∧ Below hb w w' := by
  obtain ⟨k, s, ao, l, cap⟩ := x
  have HH := Lib.hid hh
  have HX := Lib.hid hx
  have HT := Lib.hid hT
  have HW := Lib.hid hW
  have hlt := hh.lt
  obtain ⟨E, hE⟩ : ∃ E, E = w.heap.size := ⟨_, rfl⟩
  obtain ⟨V, hV⟩ : ∃ V, V = w.alloc (Obj.cells #[.int .i64 k, .string s, .slice ao l.length cap] 54) := ⟨_, rfl⟩
  have hbV : Below w.heap.size w V := by rw [hV]; exact (Below.refl _ _).alloc (Nat.le_refl _) _
  have hoV : V.heap[E]? = some (Obj.cells #[.int .i64 k, .string s, .slice ao l.length cap] 54 (0, 0)) := by rw [hV, hE]; exact heap_alloc_new _ _
  have c0 : V.cell? ⟨E, 0, none⟩ = some (.int .i64 k) := by rw [cell_of_row _ _ _ _ _ _ hoV]; rfl
  have c1 : V.cell? ⟨E, 1, none⟩ = some (.string s) := by rw [cell_of_row _ _ _ _ _ _ hoV]; rfl
  have c2 : V.cell? ⟨E, 2, none⟩ = some (.slice ao l.length cap) := by rw [cell_of_row _ _ _ _ _ _ hoV]; rfl
  have hEV : E < V.heap.size := (Array.getElem?_eq_some_iff.1 hoV).1
  have hbE : hb < E := by omega
  have HRO := Lib.hid (show ∀ g0 c0, v = .slice (some ⟨g0, 0, none⟩) c0 c0 → g0 < E from fun g0 c0 h => by
    rcases hh.row with h2 | ⟨g1, c1, h2, hr1⟩
    · rw [h] at h2; cases h2
    · rw [h] at h2
      cases h2
      rw [hE]
      exact hr1.lt)
  have HC1 := Lib.hid c1
  have HC2 := Lib.hid c2
  have HBV := Lib.hid (show Below hb w V from hbV.mono (by omega))
  have HHV := Lib.hid (hh.below hbV)
  have HV := Lib.hid hV
  have HE := Lib.hid hE
  clear hh hx hT hW hbV hoV hV hE
  simp only [OpT.v]
  go_enter Tryd.func20, Tryd.ntmps20
  go_upto_region 1 with fail
  rw [← HV.out, ← HE.out]
  by_cases h1 : k = 1
  · subst h1
    obtain ⟨L, p, er, hL, hs1, hs2⟩ := scan_both s HX.out.tx
    have HS1 := Lib.hid (hs1 V (HT.out V HBV.out))
    have HS2 := Lib.hid hs2
    clear hs1 hs2
    go_wp2_with fail
    refine HS1.out.mono ?_; rintro e w2 ⟨⟨va, ca, rfl, ht1⟩, hb2⟩
    have HT1 := Lib.hid ht1
    have d1 := (hb2.cell (p := ⟨E, 1, none⟩) hEV).trans c1
    have HB2 := Lib.hid hb2
    have HHB := Lib.hid (HHV.out.below hb2)
    have HBB := Lib.hid (HBV.out.trans (hb2.mono (by omega)))
    have hz2 := hb2.size
    have HS3 := Lib.hid (HS2.out w2)
    clear ht1 hb2 c0 c1 c2 HS1 HS2
    go_wp2_with fail
    refine HS3.out.mono ?_; rintro e w3 ⟨⟨vb, cb, rfl, ht2⟩, hb3⟩
    have HEQ := Lib.hid (eqToks_any L va vb ca cb w3 (by unfold maxLen; omega) (HT1.out.below hb3) ht2)
    have HHC := Lib.hid (HHB.out.below hb3)
    have HBC := Lib.hid (HBB.out.trans (hb3.mono (by omega)))
    have hz3 := hb3.size
    clear ht2 hb3 d1
    go_wp2_with fail
    refine HEQ.out.mono ?_; rintro e w4 ⟨rfl, hb4⟩
    have HHD := Lib.hid (HHC.out.below hb4)
    have HBD := Lib.hid (HBC.out.trans (hb4.mono (by omega)))
    clear hb4
    go_wp2_with fail
    go_ret
    exact ⟨rfl, ⟨_, HHD.out⟩, HBD.out⟩
  have e1 : (k == 1) = false := beq_eq_false_iff_ne.2 h1
  by_cases h2 : k = 2
  · subst h2
    have HLI := Lib.hid (list_any l ao cap hb v V HHV.out (HX.out.at'.lower HX.out.lo HBV.out) HX.out.lo HX.out.nc HX.out.n)
    clear h1 e1
    go_wp2_with fail
    refine HLI.out.mono ?_; rintro e w2 ⟨g, c, rfl, hc, hbx2, hr2, hb2, hk2⟩
    have HBX2 := Lib.hid hbx2
    have HR2 := Lib.hid hr2
    have HB2 := Lib.hid hb2
    have HBB := Lib.hid (HBV.out.trans hb2)
    have hz2 := hb2.size
    have hgl := hr2.lo
    have HSP := Lib.hid (spell_all l (some ⟨g, 0, none⟩) c w2 (HT.out w2 HBB.out) (Or.inr ⟨g, 0, rfl, fun i hi => by
      have h := HR2.out.c i (by omega)
      rw [handF_in hi] at h
      simp only [Nat.zero_add]
      exact h⟩) HX.out.n HX.out.s)
    clear hbx2 hr2 hb2
    go_wp2_with fail
    refine HSP.out.mono ?_; rintro e w3 ⟨⟨t1, er1, rfl, hsp1⟩, hb3⟩
    have HBX3 := Lib.hid ((hb3.block hb (by omega)).trans HBX2.out)
    have HR3 := Lib.hid (HR2.out.below hb3)
    have HBC := Lib.hid (HBB.out.trans (hb3.mono (by omega)))
    have hz3 := hb3.size
    have HSQ := Lib.hid (refSpell_any l ao cap w3 (HX.out.at'.lower HX.out.lo HBC.out) HX.out.n HX.out.s)
    have HS1 := Lib.hid hsp1
    have hEo := hk2 E hEV (by omega) (by
      intro e
      rcases HHV.out.row with h | ⟨g0, c0, h, hr0⟩
      · rw [h] at e; cases e
      · have hr1 := HRO.out g0 c0 h
        rw [h] at e
        simp only [Value.ownBlock, Option.some.injEq] at e
        omega)
    have d2' : w2.cell? ⟨E, 2, none⟩ = some (.slice ao l.length cap) := (World.cell?_of_block (a := ⟨E, 2, none⟩) hEo).trans HC2.out
    have d2 : w3.cell? ⟨E, 2, none⟩ = some (.slice ao l.length cap) := (hb3.cell (p := ⟨E, 2, none⟩) (by show E < w2.heap.size; omega)).trans d2'
    clear hb3 hsp1 hk2 hEo d2' c0 c1 c2
    go_wp2_with fail
    refine HSQ.out.mono ?_; rintro e w4 ⟨⟨t2, er2, rfl, hsp2⟩, hb4⟩
    obtain ⟨rfl, rfl⟩ := HS1.out.one hsp2
    have HBX4 := Lib.hid ((hb4.block hb (by omega)).trans HBX3.out)
    have HR4 := Lib.hid (HR3.out.below hb4)
    have HBD := Lib.hid (HBC.out.trans (hb4.mono (by omega)))
    have hz4 := hb4.size
    have d3 : w4.cell? ⟨E, 2, none⟩ = some (.slice ao l.length cap) := (hb4.cell (p := ⟨E, 2, none⟩) (by show E < w3.heap.size; omega)).trans d2
    have HKE := Lib.hid (kept_any l ao cap hb g c w4 HBX4.out HR4.out (HX.out.at'.lower HX.out.lo HBD.out) HX.out.lo hc)
    clear hb4 d2 hsp2
    go_wp2_with fail
    refine HKE.out.mono ?_; rintro e w5 ⟨rfl, hh5, hb5⟩
    have HH5 := Lib.hid hh5
    have HB5 := Lib.hid (HBD.out.trans hb5)
    clear hh5 hb5
    go_wp2_with fail
    go_ret
    exact ⟨by simp, ⟨_, HH5.out⟩, HB5.out⟩
  have e2 : (k == 2) = false := beq_eq_false_iff_ne.2 h2
  by_cases h3 : k = 3
  · subst h3
    have HW1 := Lib.hid (word_any s V.drew (HW.out V.drew HBV.out.drew))
    have HW2 := Lib.hid (refWord_any s V.drew)
    obtain ⟨B, hB⟩ : ∃ B, B = isWrd s.data.toList := ⟨_, rfl⟩
    rw [← hB] at HW1 HW2
    clear h1 h2 e1 e2 hB
    go_upto_region 12 with fail
    go_region_held3 (fun w' => w'.cell? ⟨E, 1, none⟩ = some (.string s)) (first | go_keep | exact r1) (first
      | (go_at_call 28; (with_reducible refine HW1.out.mono ?_); rintro e w4 ⟨rfl, hw⟩; subst hw)
      | (go_at_call 33; (with_reducible refine HW2.out.mono ?_); rintro e w4 ⟨rfl, hb4⟩; have r1 := (hb4.cell (p := ⟨E, 1, none⟩) hEV).trans HC1.out))
    all_goals
      have HHD := Lib.hid ((HHV.out.below (Below.refl _ V).drew).below hb4)
      have HBD := Lib.hid (HBV.out.drew.trans (hb4.mono (by show hb ≤ V.heap.size; omega)))
      clear hb4
      go_wp2_with fail
      go_ret
      exact ⟨by simp, ⟨_, HHD.out⟩, HBD.out⟩
  have e3 : (k == 3) = false := beq_eq_false_iff_ne.2 h3
  clear h1 h2 h3
  go_wp2_with fail
  go_ret
  exact ⟨rfl, ⟨_, HHV.out⟩, HBV.out⟩
end Go.Proofs.YtajdoicggmnanaaDoor
/- The walk of TokenAll. -/
namespace Go.Proofs.YtajdoicggmnanaaDoor
open Go Go.RowKit

theorem OpIn.after {w w' : World} {hb : Nat} {x : OpT} (h : OpIn w w.heap.size x) (hb' : Below w.heap.size w w') (hle : w.heap.size ≤ hb) : OpIn w' hb x :=
  ⟨h.at'.below hb', fun hl ad e => Nat.lt_of_lt_of_le (h.lo hl ad e) hle, h.nc, h.n, h.s, h.tx⟩
/-- The calls that came in. -/
def OpsAt (w : World) (ao : Option Addr) (l : List OpT) : Prop :=
  l = [] ∨ ∃ b o, ao = some ⟨b, o, none⟩ ∧ b < w.heap.size ∧ ∀ i (h : i < l.length), (w.cell? ⟨b, o + i * 3, none⟩ = some (.int .i64 l[i].kind) ∧ w.cell? ⟨b, o + i * 3 + 1, none⟩ = some (.string l[i].text) ∧ w.cell? ⟨b, o + i * 3 + 2, none⟩ = some (.slice l[i].ao l[i].toks.length l[i].cap)) ∧ OpIn w w.heap.size l[i]

set_option maxHeartbeats 8000000 in
set_option maxRecDepth 100000 in
theorem all_any (l : List OpT) (ao : Option Addr) (cap : Nat) (w : World) (hT : Tabs w) (hW : WordsAt w) (hl : OpsAt w ao l) (hn : l.length ≤ 2932031007402) :
    Calls Tryd.prog 8 #[.slice ao l.length cap] w fun e w' => e = .returned (.bool true) ∧ Below w.heap.size w w' := by
  have HT := Lib.hid hT
  have HW := Lib.hid hW
  have HL := Lib.hid hl
  have HBG := Lib.hid (begun_any w hT hW)
  obtain ⟨N, hN⟩ : ∃ N, N = l.length := ⟨_, rfl⟩
  rw [← hN] at hn ⊢
  have HN := Lib.hid hN
  clear hT hW hl hN
  go_enter Tryd.func8, Tryd.ntmps8
  go_wp2_with fail
  refine HBG.out.mono ?_; rintro e w1 ⟨rfl, hb1⟩
  obtain ⟨hb, hhb⟩ : ∃ hb, hb = w1.heap.size := ⟨_, rfl⟩
  obtain ⟨V, hV⟩ : ∃ V, V = w1.alloc (Obj.cells #[.slice none 0 0] 51) := ⟨_, rfl⟩
  have HHV := Lib.hid (show HandAt V hb (.slice none 0 0) from ⟨by rw [hV, hhb]; exact heap_alloc_new _ _, Or.inl rfl⟩)
  have HBV := Lib.hid (show Below w.heap.size w V by rw [hV]; exact hb1.alloc hb1.size _)
  have hle : w.heap.size ≤ hb := by have := hb1.size; omega
  have HV := Lib.hid hV
  have HHB := Lib.hid hhb
  clear hV hhb hb1
  go_upto_region 4 with fail
  rw [← HV.out, ← HHB.out]
  go_wp2_with fail
  go_loopg [4] (N + 1) (fun g v4 wr => ∃ i : Nat, i ≤ N ∧ v4 = .int .i64 (i : Int) ∧ (∃ v, HandAt wr hb v) ∧ Below w.heap.size w wr ∧ N - i < g)
  case atStart => exact ⟨0, Nat.zero_le _, rfl, ⟨_, HHV.out⟩, HBV.out, by omega⟩
  case round =>
    obtain ⟨i, hi, rfl, hha, hbel, hg⟩ := hrel
    obtain ⟨g, rfl⟩ : ∃ g, gk = g + 1 := ⟨gk - 1, by omega⟩
    have HBE := Lib.hid hbel
    have HHA := Lib.hid hha
    have hzw := hbel.size
    clear hbel hha
    have i0 : (0 : Int) ≤ (i : Int) := by omega
    by_cases hlt : i < N
    · have i1 : (i : Int) < (N : Int) := by omega
      have hil : i < l.length := by rw [← HN.out]; exact hlt
      obtain ⟨b, o, rfl, hbw, hc⟩ : ∃ b o, ao = some ⟨b, o, none⟩ ∧ b < w.heap.size ∧ ∀ i (h : i < l.length), (w.cell? ⟨b, o + i * 3, none⟩ = some (.int .i64 l[i].kind) ∧ w.cell? ⟨b, o + i * 3 + 1, none⟩ = some (.string l[i].text) ∧ w.cell? ⟨b, o + i * 3 + 2, none⟩ = some (.slice l[i].ao l[i].toks.length l[i].cap)) ∧ OpIn w w.heap.size l[i] := by
        rcases HL.out with h | h
        · rw [h] at hil; simp at hil
        · exact h
      obtain ⟨⟨c0, c1, c2⟩, hop⟩ := hc i hil
      have d0 := (HBE.out.cell (p := ⟨b, o + i * 3, none⟩) hbw).trans c0
      have d1 := (HBE.out.cell (p := ⟨b, o + i * 3 + 1, none⟩) hbw).trans c1
      have d2 := (HBE.out.cell (p := ⟨b, o + i * 3 + 2, none⟩) hbw).trans c2
      obtain ⟨x, hx⟩ : ∃ x, x = l[i] := ⟨_, rfl⟩
      rw [← hx] at d0 d1 d2 hop
      obtain ⟨v, hv⟩ := HHA.out
      have HPL := Lib.hid (plays_any x hb v wr hv (hop.after HBE.out hle) (fun w' h => HT.out.below (HBE.out.trans (h.mono hle))) (fun w' h => HW.out.below (HBE.out.trans (h.mono hle))))
      clear hc c0 c1 c2 hx hv hop
      go_wp2_with fail
      refine HPL.out.mono ?_; rintro e w2 ⟨rfl, hh2, hb2⟩
      have HH2 := Lib.hid hh2
      have HB2 := Lib.hid (HBE.out.trans (hb2.mono hle))
      clear hh2 hb2
      go_wp2_with fail
      go_roundg g
      case rel => exact ⟨i + 1, by omega, by go_num, HH2.out, HB2.out, by omega⟩
      case measure => omega
    · have i1 : ¬ (i : Int) < (N : Int) := by omega
      go_wp2_with fail
      go_ret
      exact ⟨rfl, HBE.out⟩
end Go.Proofs.YtajdoicggmnanaaDoor
/- Calls that came in. -/
namespace Go.Proofs.YtajdoicggmnanaaDoor
open Go Go.ChangeShapes Go.WideShapes Go.ChangeAt Go.RowKit

theorem cellsI : Tryd.prog.cellsOf 3 = 1 := by kernel_rfl
theorem cellsStr : Tryd.prog.cellsOf 9 = 1 := by kernel_rfl
theorem cellsTok : Tryd.prog.cellsOf 28 = 3 := by kernel_rfl
theorem list_ofP {α : Type} {p : Nat → α → Prop} {n : Nat} (h : ∀ i, i < n → ∃ a, p i a) : ∃ l : List α, l.length = n ∧ ∀ i (hi : i < l.length), p i l[i] := by
  induction n with
  | zero => exact ⟨[], rfl, fun i hi => absurd hi (by simp)⟩
  | succ n ih =>
    obtain ⟨l, hl, hp⟩ := ih (fun i hi => h i (by omega))
    obtain ⟨a, ha⟩ := h n (by omega)
    refine ⟨l ++ [a], by simp [hl], fun i hi => ?_⟩
    by_cases hin : i < l.length
    · rw [List.getElem_append_left hin]
      exact hp i hin
    · have e : i = l.length := by simp at hi; omega
      subst e
      rw [List.getElem_append_right (Nat.le_refl _)]
      simpa [hl] using ha
section
variable {H : Type} {enc : TypeId × Value → H} {W : World} {base : Nat} {spare : Nat → Bool} {held : Bool}
theorem spot_none {a : Addr} {v : Value} (h : W.cell? (a.add 0) = some v) : a.spot = none := by
  obtain ⟨b, o, sp⟩ := a
  cases sp with
  | none => rfl
  | some x =>
    simp [World.cell?, Addr.add] at h
    split at h <;> cases h
theorem add_none (b o k : Nat) : (⟨b, o, none⟩ : Addr).add k = ⟨b, o + k, none⟩ := by
  unfold Addr.add
  split
  · subst_vars; rfl
  · rfl
theorem weights_all {P : Program} {e : TypeId} : ∀ {l : List (DataW H)} {d : DataW H}, d ∈ l → ∀ n ∈ d.weights P e, n ∈ DataW.weightsAll P e l
  | x :: r, d, hd, n, hn => by
    simp only [DataW.weightsAll, List.mem_append]
    rcases List.mem_cons.1 hd with rfl | hd
    · exact Or.inl hn
    · exact Or.inr (weights_all hd n hn)
/-- A list that came in, element by element, with what its weights tell. -/
theorem row_trod {fuel : Nat} {t e : TypeId} {cs : List Value} {x : DataW H × List MemPlace} {n : Nat} {R : List Value → Prop} (ht : Tryd.prog.underlying t = some (.slice e)) (hcell : Tryd.prog.cellsOf e = n) (hn : 0 < n)
    (h : DataW.trod enc Tryd.prog W base spare held fuel t cs = some x) (hw : ∀ m ∈ x.1.weights Tryd.prog t, m ≤ reachBytes)
    (he : ∀ {f c y}, DataW.trod enc Tryd.prog W base spare held f e c = some y → (∀ m ∈ y.1.weights Tryd.prog e, m ≤ reachBytes) → R c) :
    ∃ ao len cap, cs = [.slice ao len cap] ∧ len ≤ cap ∧ cap ≤ maxLen ∧ len * Tryd.prog.bytesOf e ≤ reachBytes ∧ (ao = none → cap = 0 ∧ len = 0) ∧
      (len = 0 ∨ ∃ b o, ao = some ⟨b, o, none⟩ ∧ b < W.heap.size ∧ ∀ i, i < len → ∃ c, R c ∧ c.length = n ∧ ∀ j, j < n → W.cell? ⟨b, o + i * n + j, none⟩ = c[j]?) := by
  rcases DataW.trod_slice ht h with ⟨h0, _⟩ | ⟨a, len, cap, elems, rest, m, _, rfl, rfl, hb, hl, hm, hlen, hel, _, _⟩
  · exact ⟨none, 0, 0, h0, by omega, by unfold maxLen; omega, by simp [reachBytes], fun _ => ⟨rfl, rfl⟩, Or.inl rfl⟩
  · have each : ∀ i, i < len → ∃ c, R c ∧ c.length = n ∧ ∀ j, j < n → W.cell? (a.add (i * n + j)) = c[j]? := by
      intro i hi
      have h1 := hel i hi
      rw [List.getElem?_eq_getElem (by omega), hcell] at h1
      cases hc : W.cells? base (a.add (i * n)) n with
      | none => rw [hc] at h1; cases h1
      | some c =>
        rw [hc] at h1
        have h2 := World.cells?_some hc
        refine ⟨c, he h1 (fun k hk => hw k (by
          simp only [DataW.weights, ht, List.mem_cons, List.mem_append]
          exact Or.inr (Or.inl (weights_all (List.mem_map_of_mem (List.getElem_mem (by omega))) k hk)))), h2.2.1, fun j hj => ?_⟩
        have h3 := h2.2.2 j hj
        rw [Addr.add_add] at h3
        exact h3
    have hbytes : len * Tryd.prog.bytesOf e ≤ reachBytes := by
      have h1 := hw ((elems.length + rest.length) * Tryd.prog.bytesOf e) (by simp [DataW.weights, ht])
      refine Nat.le_trans (Nat.mul_le_mul_right _ ?_) h1
      omega
    refine ⟨some a, len, cap, rfl, hl, hm, hbytes, (fun e => nomatch e), ?_⟩
    rcases Nat.eq_zero_or_pos len with h0 | h0
    · exact Or.inl h0
    · have hs : a.spot = none := by
        obtain ⟨c, _, hc, h3⟩ := each 0 h0
        have h4 := h3 0 hn
        rw [List.getElem?_eq_getElem (by omega)] at h4
        rw [Nat.zero_mul, Nat.zero_add] at h4
        exact spot_none h4
      obtain ⟨b, o, sp⟩ := a
      simp only at hs
      subst hs
      have hlt : b < W.heap.size := by
        obtain ⟨c, _, hc, h3⟩ := each 0 h0
        have h4 := h3 0 hn
        rw [List.getElem?_eq_getElem (by omega)] at h4
        rw [add_none] at h4
        exact World.block_lt_of_cell? W _ h4
      refine Or.inr ⟨b, o, rfl, hlt, fun i hi => ?_⟩
      obtain ⟨c, hR, hc, h3⟩ := each i hi
      refine ⟨c, hR, hc, fun j hj => ?_⟩
      have h4 := h3 j hj
      rw [add_none] at h4
      rw [Nat.add_assoc]
      exact h4
set_option maxRecDepth 100000 in
theorem tok_trod {fuel : Nat} {cs : List Value} {x : DataW H × List MemPlace} (h : DataW.trod enc Tryd.prog W base spare held fuel 28 cs = some x) :
    ∃ t : Tok, cs = t.cells ∧ t.str.size ≤ maxLen ∧ ((∀ n ∈ x.1.weights Tryd.prog 28, n ≤ reachBytes) → t.str.size ≤ reachBytes) := by
  obtain ⟨y0, y1, y2, n, hx, hl, h0, h1, h2⟩ := Go.Deep.trod_struct3 Tryd.underlying28 h
  rw [cellsTok] at hl
  match cs, hl with
  | [c0, c1, c2], _ =>
    simp only [cellsI, cellsStr, List.drop_zero, List.drop_succ_cons, List.take_succ_cons, List.take_zero] at h0 h1 h2
    obtain ⟨k, e0, _, _⟩ := DataW.trod_int Tryd.underlying3 h0
    obtain ⟨s, e1, hd1, ws⟩ := DataW.trod_string Tryd.underlying9 h1
    obtain ⟨a, e2, _, _⟩ := DataW.trod_int Tryd.underlying3 h2
    cases e0; cases e1; cases e2
    refine ⟨⟨k, s, a⟩, rfl, ws, fun hw => ?_⟩
    have h3 := hw s.data.toList.length (by
      rw [hx]
      simp only [DataW.weights, Tryd.underlying28]
      simp [DataW.weightsEach, hd1, DataW.weights])
    exact h3
theorem bytesTok : Tryd.prog.bytesOf 28 = 32 := by kernel_rfl
theorem bytesOpT : Tryd.prog.bytesOf 54 = 48 := by kernel_rfl
theorem cellsOpT : Tryd.prog.cellsOf 54 = 3 := by kernel_rfl
theorem cellsToks : Tryd.prog.cellsOf 23 = 1 := by kernel_rfl
set_option maxRecDepth 100000 in
theorem toksR {fuel : Nat} {cs : List Value} {x : DataW H × List MemPlace} (h : DataW.trod enc Tryd.prog W base spare held fuel 23 cs = some x) (hw : ∀ m ∈ x.1.weights Tryd.prog 23, m ≤ reachBytes) :
    ∃ (l : List Tok) (ao : Option Addr) (cap : Nat), cs = [.slice ao l.length cap] ∧ ToksAt W ao l ∧ (l ≠ [] → ∀ ad, ao = some ad → ad.block < W.heap.size) ∧ (ao = none → cap = 0) ∧ l.length * 32 ≤ reachBytes ∧ ∀ t ∈ l, t.str.size ≤ reachBytes := by
  obtain ⟨ao, len, cap, rfl, hlc, hcm, hb, hno, hr⟩ := row_trod (R := fun c => ∃ t : Tok, c = t.cells ∧ t.str.size ≤ reachBytes) Tryd.underlying23 cellsTok (by omega) h hw (fun h hw => by
    obtain ⟨t, e, _, ht⟩ := tok_trod h
    exact ⟨t, e, ht hw⟩)
  rw [bytesTok] at hb
  rcases hr with rfl | ⟨b, o, rfl, hlt, hr⟩
  · exact ⟨[], ao, cap, rfl, Or.inl rfl, fun h => absurd rfl h, fun e => (hno e).1, by simp, by simp⟩
  · obtain ⟨l, rfl, hl⟩ := list_ofP (p := fun i (t : Tok) => t.str.size ≤ reachBytes ∧ ∀ j, j < 3 → W.cell? ⟨b, o + i * 3 + j, none⟩ = t.cells[j]?) (fun i hi => by
      obtain ⟨c, ⟨t, rfl, h1⟩, _, h3⟩ := hr i hi
      exact ⟨t, h1, h3⟩)
    refine ⟨l, _, cap, rfl, Or.inr ⟨b, o, rfl, fun i hi => ?_⟩, fun _ ad e => by cases e; exact hlt, (fun e => nomatch e), hb, fun a ha => ?_⟩
    · have h3 := (hl i hi).2
      exact ⟨h3 0 (by omega), h3 1 (by omega), h3 2 (by omega)⟩
    · obtain ⟨i, hi, rfl⟩ := List.mem_iff_getElem.1 ha
      exact (hl i hi).1
def OpT.cells (x : OpT) : List Value := [.int .i64 x.kind, .string x.text, .slice x.ao x.toks.length x.cap]
set_option maxRecDepth 100000 in
theorem opR {fuel : Nat} {cs : List Value} {x : DataW H × List MemPlace} (h : DataW.trod enc Tryd.prog W base spare held fuel 54 cs = some x) (hw : ∀ m ∈ x.1.weights Tryd.prog 54, m ≤ reachBytes) :
    ∃ y : OpT, cs = y.cells ∧ OpIn W W.heap.size y := by
  obtain ⟨y0, y1, y2, n, e, hl, h0, h1, h2⟩ := Go.Deep.trod_struct3 Tryd.underlying54 h
  rw [e] at hw
  rw [cellsOpT] at hl
  match cs, hl with
  | [c0, c1, c2], _ =>
    simp only [cellsI, cellsStr, cellsToks, List.drop_zero, List.drop_succ_cons, List.take_succ_cons, List.take_zero] at h0 h1 h2
    obtain ⟨k, e0, _, _⟩ := DataW.trod_int Tryd.underlying3 h0
    obtain ⟨s, e1, x1, ws⟩ := DataW.trod_string Tryd.underlying9 h1
    obtain ⟨l, ao, cap, e2, hat, hlo, hno, hln, hst⟩ := toksR h2 (fun m hm => hw m (by simp [DataW.weights, Tryd.underlying54, DataW.weightsEach, hm]))
    cases e0; cases e1; cases e2
    have hs0 : ∀ bs : List UInt8, y1.1 = .lit (.string bs) → bs.length ≤ reachBytes := fun bs e => hw _ (by simp [DataW.weights, Tryd.underlying54, DataW.weightsEach, e])
    have hs := hs0 s.data.toList (by rw [x1])
    rw [len_at] at hs
    unfold reachBytes at hs hln hst
    exact ⟨⟨k, s, ao, l, cap⟩, rfl, ⟨hat, hlo, hno, by simp only; omega, fun t ht => by have := hst t ht; omega, by simp only; omega⟩⟩
set_option maxRecDepth 100000 in
theorem ops_trod {fuel : Nat} {cs : List Value} {x : DataW H × List MemPlace} (h : DataW.trod enc Tryd.prog W base spare held fuel 48 cs = some x) (hw : ∀ m ∈ x.1.weights Tryd.prog 48, m ≤ reachBytes) :
    ∃ (l : List OpT) (ao : Option Addr) (cap : Nat), cs = [.slice ao l.length cap] ∧ OpsAt W ao l ∧ l.length ≤ 2932031007402 := by
  obtain ⟨ao, len, cap, rfl, hlc, hcm, hb, hno, hr⟩ := row_trod (R := fun c => ∃ y : OpT, c = y.cells ∧ OpIn W W.heap.size y) Tryd.underlying48 cellsOpT (by omega) h hw (fun h hw => opR h hw)
  rw [bytesOpT] at hb
  unfold reachBytes at hb
  rcases hr with rfl | ⟨b, o, rfl, hlt, hr⟩
  · exact ⟨[], ao, cap, rfl, Or.inl rfl, by simp⟩
  · obtain ⟨l, rfl, hl⟩ := list_ofP (p := fun i (y : OpT) => OpIn W W.heap.size y ∧ ∀ j, j < 3 → W.cell? ⟨b, o + i * 3 + j, none⟩ = y.cells[j]?) (fun i hi => by
      obtain ⟨c, ⟨a, rfl, h1⟩, _, h3⟩ := hr i hi
      exact ⟨a, h1, h3⟩)
    exact ⟨l, _, cap, rfl, Or.inr ⟨b, o, rfl, hlt, fun i hi => ⟨⟨(hl i hi).2 0 (by omega), (hl i hi).2 1 (by omega), (hl i hi).2 2 (by omega)⟩, (hl i hi).1⟩⟩, by omega⟩
end
end Go.Proofs.YtajdoicggmnanaaDoor
/- What the rows' list of package-level variables gives: the table and the errors that the library's numbers are read by; the laid world of the witnesses. -/
namespace Go.Proofs.YtajdoicggmnanaaDoor
open Go Go.RowKit

theorem own : ownKnob Tryd.prog.godebug = none := by kernel_rfl
theorem laidOut : laidOutB Tryd.prog = true := by kernel_rfl
theorem iface_of_trod {H : Type} {enc : TypeId × Value → H} {P : Program} {w : World} {base : Nat} {sp : Nat → Bool} {held : Bool} {fuel : Nat} {t : TypeId} {ms : _} {cs : List Value} {nm : String} {d : DataW H} {p : List MemPlace}
    (ht : P.underlying t = some (.interface ms)) (h : DataW.trod enc P w base sp held fuel t cs = some (.iface nm d, p)) : ∃ u v, cs = [.iface u v] := by
  cases fuel with
  | zero => simp [DataW.trod] at h
  | succ n =>
    unfold DataW.trod at h
    rw [ht] at h
    match cs, h with
    | [.iface u v], _ => exact ⟨u, v, rfl⟩
    | [.nilIface], h => simp at h
    | [], h => simp at h
    | _ :: _ :: _, h => simp at h
    | [.bool _], h => simp at h
    | [.int _ _], h => simp at h
    | [.string _], h => simp at h
theorem tSyn : (Tryd.prog.globals[3]?).map (·.type) = some 66 := by kernel_rfl
theorem tRan : (Tryd.prog.globals[4]?).map (·.type) = some 66 := by kernel_rfl
theorem tPow : (Tryd.prog.globals[2]?).map (·.type) = some 132 := by kernel_rfl
theorem cells20 : Tryd.prog.cellsOf 132 = 20 := by kernel_rfl
theorem cellsU64 : Tryd.prog.cellsOf 121 = 1 := by kernel_rfl
/-- The listed variables. -/
abbrev tokLaid : List (String × DataW Unit) := [("math/bits.deBruijn32tab", Rows.laid_math_bits_deBruijn32tab), ("math/bits.deBruijn64tab", Rows.laid_math_bits_deBruijn64tab), ("internal/strconv.uint64pow10", Rows.laid_internal_strconv_uint64pow10), ("strconv.ErrRange", Rows.laid_strconv_ErrRange), ("strconv.ErrSyntax", Rows.laid_strconv_ErrSyntax)]
theorem arr_of_list {cs : Array Value} {u : TypeId} {v : Value} (h : cs.toList = [.iface u v]) : cs = #[.iface u v] := by
  apply Array.toList_inj.1
  rw [h]
set_option maxRecDepth 100000 in
theorem tabs_of {W : World} (h : laidMetH Tryd.prog tokLaid W) : Tabs W := by
  rw [MakeChecks.laidMetH_plain _ _ _ (by kernel_rfl)] at h
  obtain ⟨ps, hl, _, _⟩ := h
  obtain ⟨_, _, _, _, _, _, _, _, _, _, hl, _⟩ := hl
  obtain ⟨_, _, _, _, _, _, _, _, _, _, hl, _⟩ := hl
  obtain ⟨g0, t0, cs0, f0, p0, q0, hg0, ht0, hv0, hd0, hl, _⟩ := hl
  obtain ⟨g1, t1, cs1, f1, p1, q1, hg1, ht1, hv1, hd1, hl, _⟩ := hl
  obtain ⟨g2, t2, cs2, f2, p2, q2, hg2, ht2, hv2, hd2, _, _⟩ := hl
  obtain rfl := Option.some.inj (gPow.symm.trans hg0)
  obtain rfl := Option.some.inj (tPow.symm.trans ht0)
  obtain rfl := Option.some.inj (gRan.symm.trans hg1)
  obtain rfl := Option.some.inj (tRan.symm.trans ht1)
  obtain rfl := Option.some.inj (gSyn.symm.trans hg2)
  obtain rfl := Option.some.inj (tSyn.symm.trans ht2)
  obtain ⟨u1, v1, e1⟩ := iface_of_trod Tryd.underlying66 hd1
  obtain ⟨u2, v2, e2⟩ := iface_of_trod Tryd.underlying66 hd2
  refine ⟨?_, ⟨u2, v2, by rw [hv2, arr_of_list e2]⟩, ⟨u1, v1, by rw [hv1, arr_of_list e1]⟩⟩
  have hd : DataW.trod _ Tryd.prog W 0 _ false f0 132 cs0.toList = some (Lib.tabData .u64 Lib.pow10Tab, p0) := hd0
  unfold Lib.TabIs
  rw [hv0, ← Lib.cells_of_tab Tryd.underlying132 Tryd.underlying121 cellsU64 cells20 hd]
/-- A world for the witnesses: the settled one, the listed variables as they are laid. -/
noncomputable def laidWorld (os : Os) : World := World.laidAll Tryd.prog os tokLaid
set_option maxRecDepth 100000 in
theorem laid_met (os : Os) (args : Array Value) : laidMet Tryd.prog tokLaid ((laidWorld os).forCall (fun _ _ => 0) ⟨#[], args, []⟩).memory := laidMet_laidAll args (by kernel_rfl) (by kernel_rfl)
end Go.Proofs.YtajdoicggmnanaaDoor
/- What the rows' list of six package-level variables gives. -/
namespace Go.Proofs.YtajdoicggmnanaaDoor
open Go Go.RowKit

/-- An array of strings that reads as these strings holds just these, cell for cell. -/
theorem cells_of_strs {H : Type} {enc : TypeId × Value → H} {P : Program} {w : World} {base : Nat} {sp : Nat → Bool} {held : Bool} {fuel : Nat} {t e : TypeId} {cs : List Value} {ls : List (List UInt8)} {p : List MemPlace}
    (ht : P.underlying t = some (.array ls.length e)) (he : P.underlying e = some .string) (hce : P.cellsOf e = 1) (hct : P.cellsOf t = ls.length)
    (h : DataW.trod enc P w base sp held fuel t cs = some (.agg (ls.map fun l => .lit (.string l)), p)) : cs = ls.map fun l => Value.string ⟨l.toArray⟩ := by
  obtain ⟨xs, m, rfl, hx, hlen, hn, hel⟩ := DataW.trod_array ht h
  simp only [Prod.mk.injEq, DataW.agg.injEq] at hx
  apply List.ext_getElem?
  intro i
  by_cases hi : i < ls.length
  · have h1 := hel i hi
    have hxi : i < xs.length := by omega
    rw [hce, Nat.mul_one, List.getElem?_eq_getElem hxi] at h1
    obtain ⟨s, e1, e2, _⟩ := DataW.trod_string he h1
    have e3 : (xs.map (·.1))[i]? = some (.lit (.string s.data.toList)) := by simp [List.getElem?_eq_getElem hxi, e2]
    rw [← hx.1] at e3
    simp only [List.getElem?_map, List.getElem?_eq_getElem hi, Option.map_some, Option.some.injEq, DataW.lit.injEq, Lit.string.injEq] at e3
    have e4 : cs[i]? = some (.string s) := by
      have := congrArg (fun l => l[0]?) e1
      simpa using this
    rw [e4]
    simp only [List.getElem?_map, List.getElem?_eq_getElem hi, Option.map_some, e3]
  · rw [List.getElem?_eq_none (by omega), List.getElem?_eq_none (by simp; omega)]

theorem heap_of_var {P : Program} {w : World} {name : String} {g : Nat} {cs : Array Value} (hg : P.globalNamed name = some g) (h : w.var? P name = some cs) : ∃ t fr, w.heap[g]? = some (.cells cs t fr) := by
  simp only [World.var?, hg, Option.bind_some] at h
  split at h
  · rename_i c t fr hh
    cases h
    exact ⟨t, fr, hh⟩
  · cases h

theorem gWrd : Tryd.prog.globalNamed "refrain/token.words" = some 0 := by kernel_rfl
theorem tWrd : (Tryd.prog.globals[0]?).map (·.type) = some 82 := by kernel_rfl
theorem cellsStr6 : Tryd.prog.cellsOf 9 = 1 := by kernel_rfl
theorem cells16 : Tryd.prog.cellsOf 82 = 16 := by kernel_rfl
/-- The listed variables. -/
abbrev tokLaid6 : List (String × DataW Unit) := tokLaid ++ [("refrain/token.words", Rows.laid_refrain_token_words)]
set_option maxRecDepth 100000 in
theorem tabs6_of {W : World} (h : laidMetH Tryd.prog tokLaid6 W) : Tabs W ∧ WordsAt W := by
  rw [MakeChecks.laidMetH_plain _ _ _ (by kernel_rfl)] at h
  obtain ⟨ps, hl, _, _⟩ := h
  obtain ⟨_, _, _, _, _, _, _, _, _, _, hl, _⟩ := hl
  obtain ⟨_, _, _, _, _, _, _, _, _, _, hl, _⟩ := hl
  obtain ⟨g0, t0, cs0, f0, p0, q0, hg0, ht0, hv0, hd0, hl, _⟩ := hl
  obtain ⟨g1, t1, cs1, f1, p1, q1, hg1, ht1, hv1, hd1, hl, _⟩ := hl
  obtain ⟨g2, t2, cs2, f2, p2, q2, hg2, ht2, hv2, hd2, hl, _⟩ := hl
  obtain ⟨g3, t3, cs3, f3, p3, q3, hg3, ht3, hv3, hd3, _, _⟩ := hl
  obtain rfl := Option.some.inj (gPow.symm.trans hg0)
  obtain rfl := Option.some.inj (tPow.symm.trans ht0)
  obtain rfl := Option.some.inj (gRan.symm.trans hg1)
  obtain rfl := Option.some.inj (tRan.symm.trans ht1)
  obtain rfl := Option.some.inj (gSyn.symm.trans hg2)
  obtain rfl := Option.some.inj (tSyn.symm.trans ht2)
  obtain rfl := Option.some.inj (gWrd.symm.trans hg3)
  obtain rfl := Option.some.inj (tWrd.symm.trans ht3)
  have e3 := cells_of_strs (ls := wrdL) Tryd.underlying82 Tryd.underlying9 cellsStr6 cells16 hd3
  obtain ⟨t4, fr4, hh4⟩ := heap_of_var gWrd hv3
  refine ⟨?_, t4, fr4, by rw [hh4, show cs3 = wrdCells from by rw [← Array.toArray_toList (xs := cs3), e3]; rfl]⟩
  obtain ⟨u1, v1, e1⟩ := iface_of_trod Tryd.underlying66 hd1
  obtain ⟨u2, v2, e2⟩ := iface_of_trod Tryd.underlying66 hd2
  refine ⟨?_, ⟨u2, v2, by rw [hv2, arr_of_list e2]⟩, ⟨u1, v1, by rw [hv1, arr_of_list e1]⟩⟩
  have hd : DataW.trod _ Tryd.prog W 0 _ false f0 132 cs0.toList = some (Lib.tabData .u64 Lib.pow10Tab, p0) := hd0
  unfold Lib.TabIs
  rw [hv0, ← Lib.cells_of_tab Tryd.underlying132 Tryd.underlying121 cellsU64 cells20 hd]
/-- A world for the witnesses: the settled one, the listed variables as they are laid. -/
noncomputable def laidWorld6 (os : Os) : World := World.laidAll Tryd.prog os tokLaid6
set_option maxRecDepth 100000 in
theorem laid_met6 (os : Os) (args : Array Value) : laidMet Tryd.prog tokLaid6 ((laidWorld6 os).forCall (fun _ _ => 0) ⟨#[], args, []⟩).memory := laidMet_laidAll args (by kernel_rfl) (by kernel_rfl)
end Go.Proofs.YtajdoicggmnanaaDoor
