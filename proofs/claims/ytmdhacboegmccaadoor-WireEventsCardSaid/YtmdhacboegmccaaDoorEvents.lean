/- Package wire: the reader's events. -/
import Derived.Test.YtmdhacboegmccaaDoorPack
namespace Go.Proofs.YtmdhacboegmccaaDoor
open Go Go.RowKit

def EvX.cells (x : EvX) : List Value := [.string x.ev.ty, .int .i64 x.ev.time, .slice x.va x.ev.vals.length x.cap]
def evCells (l : List EvX) : List Value := l.flatMap fun x => x.cells
theorem evCells_length (l : List EvX) : (evCells l).length = l.length * 3 := by
  induction l with
  | nil => rfl
  | cons a r ih =>
    simp only [evCells, List.flatMap_cons, List.length_append, List.length_cons, EvX.cells, List.length_nil] at ih ⊢
    omega
theorem evCells_snoc (l : List EvX) (a : EvX) : evCells (l ++ [a]) = evCells l ++ a.cells := by simp [evCells]
theorem evCells_get (l : List EvX) (i : Nat) (h : i < l.length) : (evCells l)[i * 3]? = some (.string l[i].ev.ty) ∧ (evCells l)[i * 3 + 1]? = some (.int .i64 l[i].ev.time) ∧ (evCells l)[i * 3 + 2]? = some (.slice l[i].va l[i].ev.vals.length l[i].cap) := by
  induction l generalizing i with
  | nil => simp at h
  | cons a r ih =>
    cases i with
    | zero => simp [evCells, EvX.cells]
    | succ i =>
      have := ih i (by simpa using h)
      have e1 : (i + 1) * 3 = i * 3 + 3 := by omega
      rw [e1]
      simp only [evCells, EvX.cells, List.flatMap_cons, List.cons_append, List.nil_append, List.getElem_cons_succ] at this ⊢
      exact ⟨this.1, this.2.1, this.2.2⟩
theorem Tryd.infoEv : (Tryd.prog.info? 24).map (fun i => (i.zero, i.size, i.bytes)) = some (some (.agg #[.string ⟨#[]⟩, .int .i64 0, .slice none 0 0]), 3, 48) := by kernel_rfl
/-- An event's values lie in a row of the call's own, apart from the row of the events. -/
structure VOwn (B gg : Nat) (w : World) (x : EvX) : Prop where
  own : w.ownsRow B 95 4 (.slice x.va x.ev.vals.length x.cap) x.ev.vals.length (valCells x.ev.vals)
  there : ∃ vg, x.va = some ⟨vg, 0, none⟩ ∧ vg ≠ gg
theorem VOwn.lt {B gg : Nat} {w : World} {x : EvX} (h : VOwn B gg w x) : ∃ vg, x.va = some ⟨vg, 0, none⟩ ∧ vg ≠ gg ∧ vg < w.heap.size ∧ B ≤ vg := by
  obtain ⟨vg, e, hne⟩ := h.there
  have := h.own.lt vg (by rw [e]; rfl)
  exact ⟨vg, e, hne, this.2, this.1⟩
theorem VOwn.to {rb C B gg : Nat} {w w' : World} {r : Rd} {x : EvX} (h : VOwn B gg w x) (ht : RdTo rb C w w' r) (hb : rb < B) : VOwn B gg w' x := ⟨owns_to h.own ht hb, h.there⟩
theorem VOwn.below {B gg : Nat} {w w' : World} {x : EvX} (h : VOwn B gg w x) (hb : Below w.heap.size w w') : VOwn B gg w' x := ⟨owns_below h.own hb, h.there⟩
theorem VOwn.grown {B gg g2 : Nat} {w w' : World} {x : EvX} (h : VOwn B gg w x) (hg : w.grownBy w' (some gg)) (ha : g2 = gg ∨ g2 = w.heap.size) : VOwn B g2 w' x := by
  obtain ⟨vg, e, hne, hlt, _⟩ := h.lt
  refine ⟨h.own.kept hg (Or.inr (by rw [e]; intro h; injection h with h; exact hne h)), vg, e, ?_⟩
  rcases ha with rfl | rfl
  · exact hne
  · omega
theorem times_step (n : Nat) (r : Rd) (acc : List Ev) : (acc ++ (timesR eventR (n + 1) r).1, (timesR eventR (n + 1) r).2) = ((acc ++ [(eventR r).1]) ++ (timesR eventR n (eventR r).2).1, (timesR eventR n (eventR r).2).2) := by
  simp [timesR]
def leftR (r : Rd) : Rd := if 0 < r.rest.length then r.refuse 31 else r
theorem batchR_eq (r r1 : Rd) (n : Nat) (h : numberR 0 1024 r = ((n : Int), r1)) : batchR r = timesR eventR n r1 := by
  unfold batchR mapped andThen
  simp only [h, Int.toNat_natCast]
theorem xs_snoc (l : List EvX) (a : EvX) : xs (l ++ [a]) = xs l ++ [a.ev] := by simp [xs]

set_option maxHeartbeats 8000000 in
set_option maxRecDepth 100000 in
theorem events_any (rb B : Nat) (r : Rd) (w : World) (hres : ResAt w) (hr : RdAt w rb B r) (hB : B ≤ w.heap.size) (hrb : 0 ≠ rb) :
    Calls Tryd.prog 52 #[.pointer (some ⟨rb, 0, none⟩)] w fun en w' => (∃ (acc : List EvX) (gg cp : Nat), en = .returned (.slice (some ⟨gg, 0, none⟩) acc.length cp) ∧ xs acc = (batchR r).1 ∧ w'.ownsRow w.heap.size 24 3 (.slice (some ⟨gg, 0, none⟩) acc.length cp) acc.length (evCells acc) ∧ ∀ x ∈ acc, VOwn w.heap.size gg w' x) ∧ RdTo rb B w w' (leftR (batchR r).2) := by
  obtain ⟨i0, hi0, hz0, hz1, hz2⟩ := info_parts Tryd.infoEv
  have hrl := hr.lt
  have HR := Lib.hid hr
  have HRES := Lib.hid hres
  obtain ⟨⟨c, r1⟩, h1⟩ : ∃ x, numberR 0 1024 r = x := ⟨_, rfl⟩
  have hc := numberR_lo 0 1024 (by omega) r
  rw [h1] at hc
  simp only at hc
  obtain ⟨n, rfl⟩ : ∃ n : Nat, c = (n : Int) := ⟨c.toNat, by omega⟩
  have hn : n ≤ 1024 := by omega
  have HBR := Lib.hid (batchR_eq r r1 n h1)
  have H1 := Lib.hid h1
  clear hr hres h1 hc
  go_enter Tryd.func52, Tryd.ntmps52
  go_wp2_with fail
  (refine (number_any rb B r 0 1024 w HR.out).mono ?_); rintro e w1 ⟨rfl, hto1⟩
  rw [H1.out] at hto1 ⊢
  have HTO1 := Lib.hid hto1
  have hz1' := hto1.grown.size
  clear hto1
  go_upto_region 3 with (at_make; refine wpList_make_own _ rfl _ _ 38 rfl w.heap.size 24 i0 _ 3 Tryd.underlying38 hi0 hz0 hz1 .i64 .i64 _ n rfl rfl rfl (by rw [hz2]; omega) (by unfold maxLen; omega) (by omega) ?_; intro w2 hown2 hgrow2)
  obtain ⟨gg0, hgg0⟩ : ∃ g, g = w1.heap.size := ⟨_, rfl⟩
  rw [← hgg0] at hown2 ⊢
  have HTO2 := Lib.hid (HTO1.out.keep hgrow2 hB hrl (fun k e => by cases e))
  have HO2 := Lib.hid (show w2.ownsRow w.heap.size 24 3 (.slice (some ⟨gg0, 0, none⟩) 0 n) 0 (evCells []) from hown2)
  clear hown2 hgrow2 hgg0
  go_wp2_with fail
  go_loopw [4, 10] (fun v i wr => ∃ (k : Nat) (rk : Rd) (acc : List EvX) (gg cp : Nat), k ≤ n ∧ i = .int .i64 k ∧ v = .slice (some ⟨gg, 0, none⟩) k cp ∧ acc.length = k ∧ timesR eventR n r1 = (xs acc ++ (timesR eventR (n - k) rk).1, (timesR eventR (n - k) rk).2) ∧ RdTo rb B w wr rk ∧ wr.ownsRow w.heap.size 24 3 (.slice (some ⟨gg, 0, none⟩) k cp) k (evCells acc) ∧ ∀ x ∈ acc, VOwn w.heap.size gg wr x) (fun _ i _ => n - (intOf i).toNat)
  case atStart => exact ⟨0, r1, [], gg0, n, Nat.zero_le _, rfl, rfl, rfl, rfl, HTO2.out, HO2.out, by simp⟩
  case round =>
    obtain ⟨k, rk, acc, gg, cp, hk, rfl, rfl, hacc, htm, hto, ho, hv⟩ := hrel
    have HACC := Lib.hid hacc
    have HTM := Lib.hid htm
    have HTO := Lib.hid hto
    have HO := Lib.hid ho
    have HV := Lib.hid hv
    have hzr := hto.grown.size
    have hgl := (ho.lt gg rfl).1
    have hgl2 := (ho.lt gg rfl).2
    clear hacc htm hto ho hv
    have HRK := Lib.hid (show ResAt wr by
      have hl := HRES.out.lt
      obtain ⟨ty, fr, hg⟩ := HRES.out
      exact ⟨ty, fr, (HTO.out.grown.block _ hl (fun e => hrb (Option.some.inj e))).trans hg⟩)
    by_cases hlt : k < n
    · obtain ⟨⟨⟨ty, tm, vals⟩, rn⟩, hvr⟩ : ∃ x, x = eventR rk := ⟨_, rfl⟩
      have HEV := Lib.hid (event_any rb B rk wr HRK.out HTO.out.at' (by omega) hrb)
      rw [← hvr] at HEV
      simp only at HEV
      have HVR := Lib.hid hvr
      clear hvr
      go_wp2_with fail
      refine HEV.out.mono ?_; rintro en w5 ⟨⟨g, c, rfl, hg5⟩, hto5⟩
      have HTO5 := Lib.hid (HTO.out.trans hto5)
      have HO5 := Lib.hid (owns_to HO.out hto5 hrl)
      have hgw := hg5.lt g rfl
      have HV5 := Lib.hid (show ∀ x ∈ acc ++ [⟨⟨ty, tm, vals⟩, some ⟨g, 0, none⟩, c⟩], VOwn w.heap.size gg w5 x by
        intro x hx
        rcases List.mem_append.1 hx with hx | hx
        · exact (HV.out x hx).to hto5 hrl
        · rw [List.mem_singleton.1 hx]
          exact ⟨own_base hg5 hzr, g, rfl, by omega⟩)
      have hz5 := hto5.grown.size
      clear hg5 hto5
      go_upto_region 6 with (at_builtin; go_must (refine wpList_append_lies _ (by rfl) _ _ _ (by rfl) w.heap.size 24 i0 _ 3 48 Tryd.underlying38 hi0 hz0 hz1 hz2 rfl (by omega) (.slice (some ⟨gg, 0, none⟩) k cp) k (evCells acc) (by rfl) (HO5.out.alloc _) ⟨_, 0, none⟩ 1 1 (EvX.cells ⟨⟨ty, tm, vals⟩, some ⟨g, 0, none⟩, c⟩) (by rfl) (by rfl) (World.news_of_block (cs := #[.string ty, .int .i64 tm, .slice (some ⟨g, 0, none⟩) vals.length c]) (t := 24) (fr := (0, 0)) (heap_alloc_new _ _)) (by simp [EvX.cells, Value.oneCell']) (by omega) (by unfold maxLen; omega) (by omega) (by simp; omega) _ rfl ?_; intro g2 cap2 w6 hown6 hgrow6 hat6 hlt6))
      have hb5 : Below w5.heap.size w5 (w5.alloc (Obj.cells #[.string ty, .int .i64 tm, .slice (some ⟨g, 0, none⟩) vals.length c] 24)) := (Below.refl _ w5).alloc (Nat.le_refl _) _
      have HTO6 := Lib.hid ((HTO5.out.below hb5).keep hgrow6 hB hrl (fun j e => by cases e; exact hgl))
      have HV6 := Lib.hid (fun x hx => ((HV5.out x hx).below hb5).grown (g2 := g2) hgrow6 (by
        rcases hat6 with h | h
        · left; injection h with h; exact h.symm
        · right; exact h))
      have HO6 := Lib.hid (show w6.ownsRow w.heap.size 24 3 (.slice (some ⟨g2, 0, none⟩) (k + 1) cap2) (k + 1) (evCells (acc ++ [⟨⟨ty, tm, vals⟩, some ⟨g, 0, none⟩, c⟩])) by rw [evCells_snoc]; exact hown6)
      have HTM6 := Lib.hid (show timesR eventR n r1 = (xs (acc ++ [⟨⟨ty, tm, vals⟩, some ⟨g, 0, none⟩, c⟩]) ++ (timesR eventR (n - (k + 1)) rn).1, (timesR eventR (n - (k + 1)) rn).2) by
        have e : n - k = (n - (k + 1)) + 1 := by omega
        rw [HTM.out, e, times_step, ← HVR.out, xs_snoc])
      clear hb5 hown6 hgrow6 hat6 hlt6
      go_wp2_with fail
      go_roundw
      case rel => exact ⟨k + 1, rn, _, g2, cap2, by omega, by go_num, rfl, by rw [List.length_append, HACC.out]; rfl, HTM6.out, HTO6.out, HO6.out, HV6.out⟩
      case measure => simp [intOf]; omega
    · have hkn : k = n := by omega
      subst hkn
      have HFIN := Lib.hid (show batchR r = (xs acc, rk) by
        rw [HBR.out, HTM.out, Nat.sub_self]
        simp [timesR])
      have hacc := HACC.out
      subst hacc
      obtain ⟨ao', cap', c0, hc', hcm', _⟩ := HTO.out.at'.ex
      unfold maxLen at hcm'
      by_cases hleft : 0 < rk.rest.length
      · have HLF := Lib.hid (show leftR rk = rk.refuse 31 from if_pos hleft)
        go_wp2_with fail
        (refine (refuse_any rb B rk 31 wr HTO.out.at').mono ?_); rintro e w4 ⟨rfl, hto4⟩
        have HTO4 := Lib.hid (HTO.out.trans hto4)
        have HO4 := Lib.hid (owns_to HO.out hto4 hrl)
        have HV4 := Lib.hid (fun x hx => (HV.out x hx).to hto4 hrl)
        clear hto4
        go_wp2_with fail
        go_ret
        rw [HFIN.out]
        exact ⟨⟨acc, gg, cp, rfl, rfl, HO4.out, HV4.out⟩, by rw [HLF.out]; exact HTO4.out⟩
      · have HLF := Lib.hid (show leftR rk = rk from if_neg hleft)
        go_wp2_with fail
        go_ret
        rw [HFIN.out]
        exact ⟨⟨acc, gg, cp, rfl, rfl, HO.out, HV.out⟩, by rw [HLF.out]; exact HTO.out⟩
end Go.Proofs.YtmdhacboegmccaaDoor
