/- Texts put together: RefDecode, Events, EqFour, Unpack, Lists, BatchWalk, InEvs, Damage, Roomy, Wide, WideWalk, Tight, IntsWalk, InRaws, InWeigh. -/
import Derived.DeepKeys
import Derived.Laws.Cover3
import Derived.Test.YtekaimfabadclaaDoorMrgA
import Derived.Test.YtekaimfabadclaaDoorMrgB
import Derived.Test.YtekaimfabadclaaDoorMrgC
/- The document's own answer: Decode, for any bytes. -/
namespace Go.Proofs.YtekaimfabadclaaDoor
open Go Go.RowKit

theorem Cells3.toF {rb B : Nat} {l : List UInt8} {w w' : World} {b : Nat} {v0 v1 v2 : Value} {r : Rd} (h : Cells3 w b v0 v1 v2) (ht : RfTo rb B l w w' r) (hne : b ≠ rb) : Cells3 w' b v0 v1 v2 := h.keep (ht.grown.block b h.lt (fun e => hne (Option.some.inj e)))
theorem RfTo.keep {rb B : Nat} {l : List UInt8} {w w' w'' : World} {r : Rd} {row : Option Nat} (h : RfTo rb B l w w' r) (hg : w'.grownBy w'' row) (hB : B ≤ w.heap.size) (hrb : rb < w.heap.size) (hr : ∀ k, row = some k → w.heap.size ≤ k) : RfTo rb B l w w'' r := by
  have hz := h.grown.size
  exact ⟨grownBy_trans h.grown hg (Or.inr (fun g e => hr g e)), h.at'.keep (hg.block rb (by omega) (fun e => by have := hr rb e.symm; omega)) (fun k hk => hg.block k (by omega) (fun e => by have := hr k e.symm; omega))⟩
theorem owns_toF {rb B : Nat} {l : List UInt8} {w w' : World} {r : Rd} {base : Nat} {e : TypeId} {size : Nat} {v : Value} {n : Nat} {xs : List Value} (h : w.ownsRow base e size v n xs) (ht : RfTo rb B l w w' r) (hb : rb < base) : w'.ownsRow base e size v n xs :=
  h.kept ht.grown (by
    cases hv : v.ownBlock with
    | none => exact Or.inl rfl
    | some g =>
      right
      intro e
      have := (h.lt g hv).1
      injection e with e
      omega)
theorem RfTo.fresh {rb B : Nat} {l : List UInt8} {w W w' : World} {r : Rd} (hb : Below w.heap.size w W) (h : RfTo rb B l W w' r) (hrb : w.heap.size ≤ rb) : Below w.heap.size w w' :=
  hb.grown h.grown hb.size (fun k e => by cases e; exact hrb)
theorem RfAt.ill {w : World} {rb B : Nat} {l : List UInt8} {r : Rd} (h : RfAt w rb B l r) (h0 : r.fault ≠ 0) : r = ⟨[], r.fault⟩ := by
  obtain ⟨_, _, _, _, _, _, _, _, _, _, h6⟩ := h.ex
  obtain ⟨rs, f⟩ := r
  simp only at h0 h6 ⊢
  rw [h6 h0]

/-- What stands when k values are read. -/
def Half (n : Nat) (r4 : Rd) (k : Nat) (rk : Rd) (acc : List Val) : Prop :=
  acc.length = k ∧ ((rk.fault = 0 ∧ timesR valueR n r4 = (acc ++ (timesR valueR (n - k) rk).1, (timesR valueR (n - k) rk).2)) ∨ (rk.fault ≠ 0 ∧ (timesR valueR n r4).2 = rk))
theorem half_start {n : Nat} {r4 : Rd} (h : r4.fault ≠ 0 → r4 = ⟨[], r4.fault⟩) : Half n r4 0 r4 [] := by
  refine ⟨rfl, ?_⟩
  by_cases h0 : r4.fault = 0
  · exact Or.inl ⟨h0, by simp⟩
  · refine Or.inr ⟨h0, ?_⟩
    have e := times_ill value_codec n r4.fault h0
    rw [← h h0] at e
    exact e
theorem half_step {n : Nat} {r4 : Rd} {k : Nat} {rk : Rd} {acc : List Val} {a : Val} (h : Half n r4 k rk acc) (hk : k < n) (h0 : rk.fault = 0) (ha : (valueR rk).2.fault = 0 → a = (valueR rk).1) (hi : (valueR rk).2.fault ≠ 0 → (valueR rk).2 = ⟨[], (valueR rk).2.fault⟩) : Half n r4 (k + 1) (valueR rk).2 (acc ++ [a]) := by
  obtain ⟨hl, h⟩ := h
  refine ⟨by rw [List.length_append, hl]; rfl, ?_⟩
  rcases h with ⟨_, ht⟩ | ⟨h1, _⟩
  · rw [show n - k = (n - (k + 1)) + 1 by omega, timesR_step] at ht
    by_cases hv : (valueR rk).2.fault = 0
    · exact Or.inl ⟨hv, by rw [ha hv]; exact ht⟩
    · refine Or.inr ⟨hv, ?_⟩
      have e := times_ill value_codec (n - (k + 1)) (valueR rk).2.fault hv
      rw [← hi hv] at e
      rw [ht]
      exact e
  · exact absurd h0 h1
theorem half_end {n : Nat} {r4 : Rd} {rk : Rd} {acc : List Val} (h : Half n r4 n rk acc) (h0 : rk.fault = 0) : timesR valueR n r4 = (acc, rk) := by
  rcases h.2 with ⟨_, ht⟩ | ⟨h1, _⟩
  · rw [ht, Nat.sub_self]
    simp [timesR]
  · exact absurd h0 h1
theorem half_bad {n : Nat} {r4 : Rd} {k : Nat} {rk : Rd} {acc : List Val} (h : Half n r4 k rk acc) (h0 : rk.fault ≠ 0) : (timesR valueR n r4).2 = rk := by
  rcases h.2 with ⟨h1, _⟩ | ⟨_, h1⟩
  · exact absurd h1 h0
  · exact h1

/-- What stands within Decode: the reader, the result's block, the event's block E. -/
structure DecAt (w : World) (rb E B : Nat) (l : List UInt8) (W : World) (r : Rd) (v0 v1 v2 : Value) : Prop where
  below : Below w.heap.size w W
  at' : RfAt W rb B l r
  A : Cells3 W w.heap.size (.string ⟨#[]⟩) (.int .i64 0) (.slice none 0 0)
  e : Cells3 W E v0 v1 v2
  geo : w.heap.size < rb ∧ rb < E ∧ B ≤ w.heap.size
theorem DecAt.to {w W W' : World} {rb E B : Nat} {l : List UInt8} {r r' : Rd} {v0 v1 v2 : Value} (h : DecAt w rb E B l W r v0 v1 v2) (ht : RfTo rb B l W W' r') : DecAt w rb E B l W' r' v0 v1 v2 := by
  have hg := h.geo
  exact ⟨h.below.grown ht.grown h.below.size (fun k e => by cases e; omega), ht.at', h.A.toF ht (by omega), h.e.toF ht (by omega), hg⟩
theorem DecAt.post {w W W' : World} {rb E B : Nat} {l : List UInt8} {r : Rd} {v0 v1 v2 : Value} (h : DecAt w rb E B l W r v0 v1 v2) (hb : Below W.heap.size W W') : DecAt w rb E B l W' r v0 v1 v2 :=
  ⟨h.below.trans (hb.mono h.below.size), h.at'.below hb, h.A.below hb, h.e.below hb, h.geo⟩
theorem DecAt.grown {w W W' : World} {rb E B : Nat} {l : List UInt8} {r : Rd} {v0 v1 v2 : Value} {row : Option Nat} (h : DecAt w rb E B l W r v0 v1 v2) (hg : W.grownBy W' row) (hr : ∀ k, row = some k → E < k) : DecAt w rb E B l W' r v0 v1 v2 := by
  have hge := h.geo
  have h1 := h.at'.lt
  have h2 := h.below.size
  exact ⟨h.below.grown hg h2 (fun k e => by have := hr k e; omega), h.at'.keep (hg.block rb h1 (fun e => by have := hr _ e.symm; omega)) (fun k hk => hg.block k (by omega) (fun e => by have := hr _ e.symm; omega)), h.A.grown hg (fun e => by have := hr _ e.symm; omega), h.e.grown hg (fun e => by have := hr _ e.symm; omega), hge⟩
theorem DecAt.set {w W : World} {rb E B : Nat} {l : List UInt8} {r : Rd} {v0 v1 v2 : Value} (h : DecAt w rb E B l W r v0 v1 v2) (o : Nat) (x : Value) {u0 u1 u2 : Value} (he : Cells3 (W.setCell ⟨E, o, none⟩ x) E u0 u1 u2) : DecAt w rb E B l (W.setCell ⟨E, o, none⟩ x) r u0 u1 u2 := by
  have hg := h.geo
  exact ⟨h.below.setCell (p := ⟨E, o, none⟩) (by simp only; omega) _, h.at'.keep (Below.heap_setCell _ _ _ _ (by simp only; omega)) (fun k hk => Below.heap_setCell _ _ _ _ (by simp only; omega)), h.A.other (a := ⟨E, o, none⟩) (by simp only; omega) x, he, hg⟩

theorem owned_form3 {w : World} {base e size n : Nat} {v : Value} {xs : List Value} (h : w.ownsRow base e size v n xs) : ∃ va cap, v = .slice va n cap := by
  rcases h.2 with ⟨e, h0⟩ | ⟨g, cap', cur, e, _⟩
  · exact ⟨none, 0, by rw [e, h0]⟩
  · exact ⟨_, _, e⟩
/-- What Decode answers. -/
def DecTo (l : List UInt8) (w : World) (en : Ending) (w' : World) : Prop :=
  ((eventR ⟨l, 0⟩).2.fault = 0 ∧ ∃ va c, en = .returned (.tuple #[.agg #[.string (eventR ⟨l, 0⟩).1.ty, .int .i64 (eventR ⟨l, 0⟩).1.time, .slice va (eventR ⟨l, 0⟩).1.vals.length c], .int .i64 ((l.length : Int) - ((eventR ⟨l, 0⟩).2.rest.length : Int)), .int .i64 0]) ∧ w'.ownsRow w.heap.size 95 4 (.slice va (eventR ⟨l, 0⟩).1.vals.length c) (eventR ⟨l, 0⟩).1.vals.length (valCells (eventR ⟨l, 0⟩).1.vals)) ∨
  ((eventR ⟨l, 0⟩).2.fault ≠ 0 ∧ en = .returned (.tuple #[.agg #[.string ⟨#[]⟩, .int .i64 0, .slice none 0 0], .int .i64 0, .int .i64 (eventR ⟨l, 0⟩).2.fault]))

set_option maxHeartbeats 8000000 in
set_option maxRecDepth 100000 in
theorem refDecode_any (l : List UInt8) (ao : Option Addr) (cap : Nat) (w : World) (hb : BytesAt w ao l) (hlc : l.length ≤ cap) (hcm : cap ≤ maxLen) :
    Calls Tryd.prog 29 #[.slice ao l.length cap] w fun en w' => DecTo l w en w' ∧ Below w.heap.size w w' := by
  obtain ⟨i0, hi0, hz0, hz1, hz2⟩ := info_parts Tryd.infoVal
  obtain ⟨B, hBe⟩ : ∃ B, B = w.heap.size := ⟨_, rfl⟩
  obtain ⟨W1, hW1⟩ : ∃ W1, W1 = ((w.alloc (Obj.cells #[.string ⟨#[]⟩, .int .i64 0, .slice none 0 0] 24)).alloc (Obj.cells #[.slice ao l.length cap, .int .i64 0, .int .i64 0] 101)).alloc (Obj.cells #[.string ⟨#[]⟩, .int .i64 0, .slice none 0 0] 24) := ⟨_, rfl⟩
  have hb1 : Below w.heap.size w W1 := by rw [hW1]; exact (((Below.refl _ _).alloc (Nat.le_refl _) _).alloc (by simp) _).alloc (by simp; omega) _
  have hz1' : w.heap.size + 1 + 1 + 1 = W1.heap.size := by rw [hW1]; simp
  have hyA : W1.heap[w.heap.size]? = some (Obj.cells #[.string ⟨#[]⟩, .int .i64 0, .slice none 0 0] 24 (0, 0)) := by
    rw [hW1, Below.heap_alloc _ _ _ (by simp; omega), Below.heap_alloc _ _ _ (by simp)]
    exact heap_alloc_new w _
  have hyR : W1.heap[w.heap.size + 1]? = some (Obj.cells #[.slice ao l.length cap, .int .i64 0, .int .i64 0] 101 (0, 0)) := by
    rw [hW1, Below.heap_alloc _ _ _ (by simp)]
    have := heap_alloc_new (w.alloc (Obj.cells #[.string ⟨#[]⟩, .int .i64 0, .slice none 0 0] 24)) (Obj.cells #[.slice ao l.length cap, .int .i64 0, .int .i64 0] 101)
    rw [World.size_alloc] at this
    exact this
  have hyE : W1.heap[w.heap.size + 1 + 1]? = some (Obj.cells #[.string ⟨#[]⟩, .int .i64 0, .slice none 0 0] 24 (0, 0)) := by
    have := heap_alloc_new ((w.alloc (Obj.cells #[.string ⟨#[]⟩, .int .i64 0, .slice none 0 0] 24)).alloc (Obj.cells #[.slice ao l.length cap, .int .i64 0, .int .i64 0] 101)) (Obj.cells #[.string ⟨#[]⟩, .int .i64 0, .slice none 0 0] 24)
    rw [World.size_alloc, World.size_alloc] at this
    rw [hW1]
    exact this
  have hr1 : RfAt W1 (w.heap.size + 1) B l ⟨l, 0⟩ := by
    refine ⟨⟨ao, cap, 0, by simp [World.cell?, hyR], by simp [World.cell?, hyR], hlc, hcm, Nat.zero_le _, ?_, fun _ => rfl, fun e => absurd rfl e⟩, by simp [World.cell?, hyR], by simp [World.frozen?, hyR], by simp [World.frozen?, hyR]⟩
    rcases hb with h | ⟨b, o, rfl, h⟩
    · exact Or.inl h
    · cases l with
      | nil => exact Or.inl rfl
      | cons x l =>
        have hl := World.block_lt_of_cell? w _ (h 0 (by simp))
        simp only at hl
        exact Or.inr ⟨b, o, rfl, by omega, by omega, fun i hi => (hb1.cell (p := ⟨b, o + i, none⟩) hl).trans (h i hi)⟩
  have HR1 := Lib.hid hr1
  have HA1 := Lib.hid (Cells3.of hyA)
  have HE1 := Lib.hid (Cells3.of hyE)
  have HB1 := Lib.hid hb1
  have HW1 := Lib.hid hW1
  clear hb hb1 hyA hyR hyE hr1 hW1
  obtain ⟨rb, hrb⟩ : ∃ rb, rb = w.heap.size + 1 := ⟨_, rfl⟩
  obtain ⟨E, hE⟩ : ∃ E, E = w.heap.size + 1 + 1 := ⟨_, rfl⟩
  rw [← hrb] at HR1
  rw [← hE] at HE1
  have HRB := Lib.hid hrb
  have HEE := Lib.hid hE
  have hBw : B ≤ W1.heap.size := by omega
  have hrl : rb < W1.heap.size := by omega
  have hne : w.heap.size ≠ rb := by omega
  have hEr : E ≠ rb := by omega
  have hEA : w.heap.size ≠ E := by omega
  have hwE : w.heap.size < E := by omega
  have hrE : rb < E := by omega
  have hE1 : E + 1 = W1.heap.size := by omega
  have hgeo : w.heap.size < rb ∧ rb < E ∧ B ≤ w.heap.size := by omega
  have hwr : w.heap.size ≤ rb := by omega
  clear hrb hE hBe
  obtain ⟨⟨s, r1⟩, h1⟩ : ∃ x, textR 1 32 ⟨l, 0⟩ = x := ⟨_, rfl⟩
  obtain ⟨r2, h2⟩ : ∃ x, (if nameB s = true then r1 else r1.refuse 31) = x := ⟨_, rfl⟩
  obtain ⟨⟨tm, r3⟩, h3⟩ : ∃ x, numberR 0 4611686018427387904 r2 = x := ⟨_, rfl⟩
  obtain ⟨⟨c, r4⟩, h4⟩ : ∃ x, numberR 0 16 r3 = x := ⟨_, rfl⟩
  have hc := numberR_lo 0 16 (by omega) r3
  rw [h4] at hc
  simp only at hc
  obtain ⟨n, rfl⟩ : ∃ n : Nat, c = (n : Int) := ⟨c.toNat, by omega⟩
  have hn16 : n ≤ 16 := by omega
  have hev := eventR_eq ⟨l, 0⟩ s r1 r3 r4 tm n h1 (by rw [h2]; exact h3) h4
  rw [Int.toNat_natCast] at hev
  have HEV := Lib.hid hev
  have H1 := Lib.hid h1
  have H2 := Lib.hid h2
  have H3 := Lib.hid h3
  have H4 := Lib.hid h4
  clear h1 h2 h3 h4 hc hev
  go_enter Tryd.func29, Tryd.ntmps29
  go_upto_region 3 with fail
  rw [← HW1.out, ← HEE.out, ← HRB.out]
  go_wp2_with fail
  (with_reducible refine (refText_any rb B l ⟨l, 0⟩ 1 32 W1 HR1.out (by omega) (by omega)).mono ?_); rintro e w1 ⟨rfl, hto1⟩
  rw [H1.out] at hto1 ⊢
  have HD1 := Lib.hid ((show DecAt w rb E B l W1 ⟨l, 0⟩ (.string ⟨#[]⟩) (.int .i64 0) (.slice none 0 0) from ⟨HB1.out, HR1.out, HA1.out, HE1.out, hgeo⟩).to hto1)
  have e0 := HD1.out.e.c0
  have f0 := HD1.out.e.f0
  clear hto1
  simp only
  go_upto_region 4 with fail
  obtain ⟨W2, hW2⟩ : ∃ W2, W2 = w1.setCell ⟨E, 0, none⟩ (.string s) := ⟨_, rfl⟩
  rw [← hW2]
  have HD2 := Lib.hid (show DecAt w rb E B l W2 r1 (.string s) (.int .i64 0) (.slice none 0 0) by rw [hW2]; exact HD1.out.set 0 _ (HD1.out.e.set0 _))
  clear hW2 e0 f0 HD1
  have c2 := HD2.out.at'.c2
  have e0 := HD2.out.e.c0
  have f1 := HD2.out.e.f1
  have HIL2 := Lib.hid (refuse_self (r := r1) 31)
  have ways : (r1.fault == 0) = false ∨ ((r1.fault == 0) = true ∧ nameB s = true) ∨ ((r1.fault == 0) = true ∧ nameB s = false) := by
    cases (r1.fault == 0) <;> cases nameB s <;> simp
  rcases ways with hf | ⟨hf, hn⟩ | ⟨hf, hn⟩
  have HD3 := Lib.hid (show DecAt w rb E B l W2 r2 (.string s) (.int .i64 0) (.slice none 0 0) by
    have h2 := H2.out
    have hx := HIL2.out (by simpa using hf)
    have hr2 : r2 = r1 := by
      split at h2
      · exact h2.symm
      · rw [← h2]; exact hx
    rw [hr2]
    exact HD2.out)
  obtain ⟨W3, hW3⟩ : ∃ W3, W3 = W2 := ⟨_, rfl⟩
  go_upto_region 6 with fail
  rw [← hW3] at HD3 ⊢
  clear hW3 HD2 c2 e0 f1 HIL2 hf
  rotate_left
  have HN := Lib.hid hn
  have HD2' := Lib.hid (show DecAt w rb E B l W2 r2 (.string s) (.int .i64 0) (.slice none 0 0) by
    rw [← H2.out, if_pos hn]
    exact HD2.out)
  clear hn
  go_upto_region 6 with ((with_reducible refine (refName_any s _).mono ?_); rintro e W3 ⟨rfl, hb3⟩; rw [HN.out])
  have HD3 := Lib.hid (HD2'.out.post hb3)
  clear hb3 HD2 HD2' c2 e0 f1 HIL2 hf HN
  rotate_left
  have HN := Lib.hid hn
  have HR2 := Lib.hid (show r2 = r1.refuse 31 by rw [← H2.out, if_neg (by rw [hn]; decide)])
  clear hn
  go_wp2_with ((with_reducible refine (refName_any s _).mono ?_); rintro e w3 ⟨rfl, hb3⟩; rw [HN.out])
  have HD2' := Lib.hid (HD2.out.post hb3)
  have HFF := Lib.hid (refFault_any rb B l r1 31 (by decide) w3 HD2'.out.at')
  clear hb3
  (with_reducible refine HFF.out.mono ?_); rintro e W3 ⟨rfl, hto3⟩
  go_upto_region 6 with fail
  have HD3 := Lib.hid (show DecAt w rb E B l W3 r2 (.string s) (.int .i64 0) (.slice none 0 0) by rw [HR2.out]; exact HD2'.out.to hto3)
  clear hto3 HD2 HD2' c2 e0 f1 HIL2 hf HN HFF HR2
  rotate_left
  all_goals
    have HNM := Lib.hid (refNumber_any rb B l r2 0 4611686018427387904 W3 HD3.out.at')
    rw [H3.out] at HNM
    simp only at HNM
    have e1 := HD3.out.e.c1
    go_wp2_with fail
    (with_reducible refine HNM.out.mono ?_); rintro e w4 ⟨rfl, hto4⟩
    have HD4 := Lib.hid (HD3.out.to hto4)
    have f1 := HD4.out.e.f1
    have e1' := HD4.out.e.c1
    clear hto4 e1
    go_upto_region 7 with fail
    obtain ⟨W5, hW5⟩ : ∃ W5, W5 = w4.setCell ⟨E, 1, none⟩ (.int .i64 tm) := ⟨_, rfl⟩
    rw [← hW5]
    have HD5 := Lib.hid (show DecAt w rb E B l W5 r3 (.string s) (.int .i64 tm) (.slice none 0 0) by rw [hW5]; exact HD4.out.set 1 _ (HD4.out.e.set1 _))
    clear hW5 f1 e1' HD3 HD4 HNM
    have HNM := Lib.hid (refNumber_any rb B l r3 0 16 W5 HD5.out.at')
    rw [H4.out] at HNM
    simp only at HNM
    go_wp2_with fail
    (with_reducible refine HNM.out.mono ?_); rintro e w6 ⟨rfl, hto6⟩
    have HD6 := Lib.hid (HD5.out.to hto6)
    have z6 := HD6.out.below.size
    clear hto6 HD5 HNM
    go_wp2_with fail
    have hz6 : E + 1 ≤ w6.heap.size := HD6.out.e.lt
    go_loopw [8] (fun i wr => ∃ (k : Nat) (rk : Rd) (acc : List Val) (v : Value), k ≤ n ∧ i = .int .i64 k ∧ Half n r4 k rk acc ∧ DecAt w rb E B l wr rk (.string s) (.int .i64 tm) v ∧ wr.ownsRow (E + 1) 95 4 v k (valCells acc)) (fun i _ => n - (intOf i).toNat)
    case atStart => exact ⟨0, r4, [], .slice none 0 0, Nat.zero_le _, rfl, half_start HD6.out.at'.ill, HD6.out, World.ownsRow_nil _ _ _ _⟩
    case round =>
      obtain ⟨k, rk, acc, v, hk, rfl, hhalf, hd, hown⟩ := hrel
      have HH := Lib.hid hhalf
      have HD := Lib.hid hd
      have HO := Lib.hid hown
      have zr := hd.below.size
      have hEl := hd.e.lt
      have k0 : (0 : Int) ≤ (k : Int) := by omega
      clear hhalf hd hown
      have hfc := HD.out.at'.c2
      have a0 := HD.out.A.c0
      have a1 := HD.out.A.c1
      have a2 := HD.out.A.c2
      have b0 := HD.out.A.f0
      have b1 := HD.out.A.f1
      have b2 := HD.out.A.f2
      cases hf : (rk.fault == 0)
      case false =>
        have hf2 : (rk.fault != 0) = true := by simp [bne, hf]
        have HEF := Lib.hid (show (eventR ⟨l, 0⟩).2.fault ≠ 0 ∧ Ending.returned (.tuple #[.agg #[.string ⟨#[]⟩, .int .i64 0, .slice none 0 0], .int .i64 0, .int .i64 rk.fault]) = .returned (.tuple #[.agg #[.string ⟨#[]⟩, .int .i64 0, .slice none 0 0], .int .i64 0, .int .i64 (eventR ⟨l, 0⟩).2.fault]) by
          have h0 : rk.fault ≠ 0 := by simpa using hf
          have e : (eventR ⟨l, 0⟩).2 = rk := by rw [HEV.out]; exact half_bad HH.out h0
          rw [e]
          exact ⟨h0, rfl⟩)
        by_cases hlt : k < n
        · have k1 : (k : Int) < (n : Int) := by omega
          go_wp2_with fail
          go_region
          all_goals
            go_wp2_with fail
            refine bodyPost_ret (v := .tuple #[.agg #[.string ⟨#[]⟩, .int .i64 0, .slice none 0 0], .int .i64 0, .int .i64 rk.fault]) (by simp [results, Tryd.results29, go_sem, a0, a1, a2]) rfl ⟨Or.inr ⟨HEF.out.1, HEF.out.2⟩, ?_⟩
            exact (((HD.out.below.setCell (Nat.le_refl _) _).setCell (Nat.le_refl _) _).setCell (Nat.le_refl _) _).drew
        · have k1 : ¬ (k : Int) < (n : Int) := by omega
          go_wp2_with fail
          go_region
          all_goals
            go_wp2_with fail
            refine bodyPost_ret (v := .tuple #[.agg #[.string ⟨#[]⟩, .int .i64 0, .slice none 0 0], .int .i64 0, .int .i64 rk.fault]) (by simp [results, Tryd.results29, go_sem, a0, a1, a2]) rfl ⟨Or.inr ⟨HEF.out.1, HEF.out.2⟩, ?_⟩
            exact (((HD.out.below.setCell (Nat.le_refl _) _).setCell (Nat.le_refl _) _).setCell (Nat.le_refl _) _).drew
      case true =>
        have h0 : rk.fault = 0 := by simpa using hf
        have hf2 : (rk.fault != 0) = false := by simp [bne, hf]
        by_cases hlt : k < n
        · have k1 : (k : Int) < (n : Int) := by omega
          have HVAL := Lib.hid (fun (W : World) (h : RfAt W rb B l rk) (hB : B ≤ W.heap.size) => (refValue_any rb B l rk W h hB).mono (R' := fun en w' => (∃ vk vi vs vb, en = .returned (.agg #[.int .i64 vk, .int .i64 vi, .string vs, .bool vb]) ∧ ((valueR rk).2.fault = 0 → (⟨vk, vi, vs, vb⟩ : Val) = (valueR rk).1)) ∧ RfTo rb B l W w' (valueR rk).2) (fun en w' h => ⟨by obtain ⟨⟨⟨vk, vi, vs, vb⟩, e, h⟩, _⟩ := h; exact ⟨vk, vi, vs, vb, e, h⟩, h.2⟩))
          have H0 := Lib.hid h0
          have hrow : ∀ j, v.ownBlock = some j → E < j := fun j hj => by have := (HO.out.lt j hj).1; omega
          have HROW := Lib.hid hrow
          have e2 := HD.out.e.c2
          have f2 := HD.out.e.f2
          have hBr : B ≤ wr.heap.size := by omega
          clear h0 hrow a0 a1 a2 b0 b1 b2 hf2
          go_wp2_with fail
          go_region_law (first
            | (refine step_append_lies _ (by rfl) _ _ _ (by rfl) (E + 1) 95 i0 _ 4 40 Tryd.underlying22 hi0 hz0 hz1 hz2 rfl (by omega) v k (valCells acc) (by rfl) (HO5.out.alloc _) ⟨_, 0, none⟩ 1 1 (Val.cells ⟨vk, vi, vs, vb⟩) (by rfl) (by rfl) (World.news_of_block (cs := #[.int .i64 vk, .int .i64 vi, .string vs, .bool vb]) (t := 95) (fr := (0, 0)) (heap_alloc_new _ _)) (by simp [Val.cells, Value.oneCell']) (by omega) (by unfold maxLen; omega) (by omega) (by simp; omega) _ rfl ?_; intro g2 cap2 w6' hown6 hgrow6 hat6 hlt6; have HDD := Lib.hid ((HD5.out.post ((Below.refl _ w5').alloc (Nat.le_refl _) (Obj.cells #[.int .i64 vk, .int .i64 vi, .string vs, .bool vb] 95))).grown hgrow6 HROW.out); have q2 := HDD.out.e.c2; have q3 := HDD.out.e.f2)
            | (go_simp; go_at_call 60; refine (HVAL.out _ (by first | exact HD.out.at' | exact HD.out.at'.below (Below.refl _ wr).drew) (by first | (simp; omega) | omega)).mono ?_; rintro e w5' ⟨⟨vk, vi, vs, vb, rfl, hav⟩, hto5⟩; have hto5' := RfTo.pre (Below.refl _ wr).drew hto5; have HD5 := Lib.hid (HD.out.to hto5'); have HO5 := Lib.hid (owns_toF HO.out hto5' (by omega)); have e2' := HD5.out.e.c2; have f2' := HD5.out.e.f2; have hz5 : E < w5'.heap.size := HD5.out.e.lt))
          all_goals
            have HREL := Lib.hid (HDD.out.set 2 (.slice (some ⟨g2, 0, none⟩) (k + 1) cap2) (HDD.out.e.set2 _))
            have HRELO := Lib.hid (show (w6'.setCell ⟨E, 2, none⟩ (.slice (some ⟨g2, 0, none⟩) (k + 1) cap2)).ownsRow (E + 1) 95 4 (.slice (some ⟨g2, 0, none⟩) (k + 1) cap2) (k + 1) (valCells (acc ++ [⟨vk, vi, vs, vb⟩])) by rw [valCells_snoc]; exact ownsRow_setCell_below hown6 (by simp) _)
            have HST := Lib.hid (half_step HH.out hlt H0.out hav HD5.out.at'.ill)
            clear hown6 hgrow6 hat6 hlt6 q2 q3 e2' f2' hto5 hto5' e2 f2 hav
            go_wp2_with fail
            go_roundw
            case rel => exact ⟨k + 1, (valueR rk).2, acc ++ [⟨vk, vi, vs, vb⟩], .slice (some ⟨g2, 0, none⟩) (k + 1) cap2, by omega, by go_num, HST.out, HREL.out, HRELO.out⟩
            case measure => simp [intOf]; omega
        · have k1 : ¬ (k : Int) < (n : Int) := by omega
          obtain rfl : k = n := by omega
          obtain ⟨ao', cap', p, c0, c1, hp1, hp2, hp3, _, hp5, _⟩ := HD.out.at'.ex
          obtain ⟨vo, vc, rfl⟩ := owned_form3 HO.out
          have HLEN := Lib.hid (show acc.length = k from HH.out.1)
          have HEF := Lib.hid (fun (W : World) (hw : W.ownsRow w.heap.size 95 4 (.slice vo k vc) k (valCells acc)) => (show (eventR ⟨l, 0⟩).2.fault = 0 ∧ ∃ va c, Ending.returned (.tuple #[.agg #[.string s, .int .i64 tm, .slice vo k vc], .int .i64 (p : Int), .int .i64 0]) = .returned (.tuple #[.agg #[.string (eventR ⟨l, 0⟩).1.ty, .int .i64 (eventR ⟨l, 0⟩).1.time, .slice va (eventR ⟨l, 0⟩).1.vals.length c], .int .i64 ((l.length : Int) - ((eventR ⟨l, 0⟩).2.rest.length : Int)), .int .i64 0]) ∧ W.ownsRow w.heap.size 95 4 (.slice va (eventR ⟨l, 0⟩).1.vals.length c) (eventR ⟨l, 0⟩).1.vals.length (valCells (eventR ⟨l, 0⟩).1.vals) by
            have e := half_end HH.out h0
            rw [e] at HEV
            rw [HEV.out]
            simp only [HLEN.out]
            refine ⟨h0, vo, vc, ?_, hw⟩
            rw [hp5 h0, List.length_drop, show (l.length : Int) - ((l.length - p : Nat) : Int) = (p : Int) by omega]))
          clear hp5 h0
          have e0 := HD.out.e.c0
          have e1 := HD.out.e.c1
          have e2 := HD.out.e.c2
          go_wp2_with fail
          go_region
          all_goals
            go_wp2_with fail
            refine bodyPost_ret (v := .tuple #[.agg #[.string s, .int .i64 tm, .slice vo k vc], .int .i64 (p : Int), .int .i64 0]) (by simp [results, Tryd.results29, go_sem, a0, a1, a2]) rfl ⟨Or.inl (HEF.out _ ?_), ?_⟩
            · exact own_base (ownsRow_setCell_below (ownsRow_setCell_below (ownsRow_setCell_below HO.out (a := ⟨w.heap.size, 0, none⟩) (by simp; omega) _) (a := ⟨w.heap.size, 1, none⟩) (by simp; omega) _) (a := ⟨w.heap.size, 2, none⟩) (by simp; omega) _) (by omega)
            · exact (((HD.out.below.setCell (Nat.le_refl _) _).setCell (Nat.le_refl _) _).setCell (Nat.le_refl _) _).drew
end Go.Proofs.YtekaimfabadclaaDoor
/- Package wire: the reader's events. -/
namespace Go.Proofs.YtekaimfabadclaaDoor
open Go Go.RowKit

def EvX.cells (x : EvX) : List Value := [.string x.ev.ty, .int .i64 x.ev.time, .slice x.va x.ev.vals.length x.cap]
def evCells (l : List EvX) : List Value := l.flatMap fun x => x.cells
theorem evCells_length (l : List EvX) : (evCells l).length = l.length * 3 := by
  induction l with
  | nil => rfl
  | cons a r ih =>
    simp only [evCells, List.flatMap_cons, List.length_append, List.length_cons, EvX.cells, List.length_nil] at ih ⊢
    omega
theorem evCells_snoc (l : List EvX) (a : EvX) : evCells (l ++ [a]) = evCells l ++ a.cells := by simp [evCells]
theorem evCells_get (l : List EvX) (i : Nat) (h : i < l.length) : (evCells l)[i * 3]? = some (.string l[i].ev.ty) ∧ (evCells l)[i * 3 + 1]? = some (.int .i64 l[i].ev.time) ∧ (evCells l)[i * 3 + 2]? = some (.slice l[i].va l[i].ev.vals.length l[i].cap) := by
  induction l generalizing i with
  | nil => simp at h
  | cons a r ih =>
    cases i with
    | zero => simp [evCells, EvX.cells]
    | succ i =>
      have := ih i (by simpa using h)
      have e1 : (i + 1) * 3 = i * 3 + 3 := by omega
      rw [e1]
      simp only [evCells, EvX.cells, List.flatMap_cons, List.cons_append, List.nil_append, List.getElem_cons_succ] at this ⊢
      exact ⟨this.1, this.2.1, this.2.2⟩
theorem Tryd.infoEv : (Tryd.prog.info? 24).map (fun i => (i.zero, i.size, i.bytes)) = some (some (.agg #[.string ⟨#[]⟩, .int .i64 0, .slice none 0 0]), 3, 48) := by kernel_rfl
/-- An event's values lie in a row of the call's own, apart from the row of the events. -/
structure VOwn (B gg : Nat) (w : World) (x : EvX) : Prop where
  own : w.ownsRow B 95 4 (.slice x.va x.ev.vals.length x.cap) x.ev.vals.length (valCells x.ev.vals)
  there : ∃ vg, x.va = some ⟨vg, 0, none⟩ ∧ vg ≠ gg
theorem VOwn.lt {B gg : Nat} {w : World} {x : EvX} (h : VOwn B gg w x) : ∃ vg, x.va = some ⟨vg, 0, none⟩ ∧ vg ≠ gg ∧ vg < w.heap.size ∧ B ≤ vg := by
  obtain ⟨vg, e, hne⟩ := h.there
  have := h.own.lt vg (by rw [e]; rfl)
  exact ⟨vg, e, hne, this.2, this.1⟩
theorem VOwn.to {rb C B gg : Nat} {w w' : World} {r : Rd} {x : EvX} (h : VOwn B gg w x) (ht : RdTo rb C w w' r) (hb : rb < B) : VOwn B gg w' x := ⟨owns_to h.own ht hb, h.there⟩
theorem VOwn.below {B gg : Nat} {w w' : World} {x : EvX} (h : VOwn B gg w x) (hb : Below w.heap.size w w') : VOwn B gg w' x := ⟨owns_below h.own hb, h.there⟩
theorem VOwn.grown {B gg g2 : Nat} {w w' : World} {x : EvX} (h : VOwn B gg w x) (hg : w.grownBy w' (some gg)) (ha : g2 = gg ∨ g2 = w.heap.size) : VOwn B g2 w' x := by
  obtain ⟨vg, e, hne, hlt, _⟩ := h.lt
  refine ⟨h.own.kept hg (Or.inr (by rw [e]; intro h; injection h with h; exact hne h)), vg, e, ?_⟩
  rcases ha with rfl | rfl
  · exact hne
  · omega
theorem times_step (n : Nat) (r : Rd) (acc : List Ev) : (acc ++ (timesR eventR (n + 1) r).1, (timesR eventR (n + 1) r).2) = ((acc ++ [(eventR r).1]) ++ (timesR eventR n (eventR r).2).1, (timesR eventR n (eventR r).2).2) := by
  simp [timesR]
def leftR (r : Rd) : Rd := if 0 < r.rest.length then r.refuse 31 else r
theorem batchR_eq (r r1 : Rd) (n : Nat) (h : numberR 0 1024 r = ((n : Int), r1)) : batchR r = timesR eventR n r1 := by
  unfold batchR mapped andThen
  simp only [h, Int.toNat_natCast]
theorem xs_snoc (l : List EvX) (a : EvX) : xs (l ++ [a]) = xs l ++ [a.ev] := by simp [xs]

set_option maxHeartbeats 8000000 in
set_option maxRecDepth 100000 in
theorem events_any (rb B : Nat) (r : Rd) (w : World) (hres : ResAt w) (hr : RdAt w rb B r) (hB : B ≤ w.heap.size) (hrb : 0 ≠ rb) :
    Calls Tryd.prog 52 #[.pointer (some ⟨rb, 0, none⟩)] w fun en w' => (∃ (acc : List EvX) (gg cp : Nat), en = .returned (.slice (some ⟨gg, 0, none⟩) acc.length cp) ∧ xs acc = (batchR r).1 ∧ w'.ownsRow w.heap.size 24 3 (.slice (some ⟨gg, 0, none⟩) acc.length cp) acc.length (evCells acc) ∧ ∀ x ∈ acc, VOwn w.heap.size gg w' x) ∧ RdTo rb B w w' (leftR (batchR r).2) := by
  obtain ⟨i0, hi0, hz0, hz1, hz2⟩ := info_parts Tryd.infoEv
  have hrl := hr.lt
  have HR := Lib.hid hr
  have HRES := Lib.hid hres
  obtain ⟨⟨c, r1⟩, h1⟩ : ∃ x, numberR 0 1024 r = x := ⟨_, rfl⟩
  have hc := numberR_lo 0 1024 (by omega) r
  rw [h1] at hc
  simp only at hc
  obtain ⟨n, rfl⟩ : ∃ n : Nat, c = (n : Int) := ⟨c.toNat, by omega⟩
  have hn : n ≤ 1024 := by omega
  have HBR := Lib.hid (batchR_eq r r1 n h1)
  have H1 := Lib.hid h1
  clear hr hres h1 hc
  go_enter Tryd.func52, Tryd.ntmps52
  go_wp2_with fail
  (refine (number_any rb B r 0 1024 w HR.out).mono ?_); rintro e w1 ⟨rfl, hto1⟩
  rw [H1.out] at hto1 ⊢
  have HTO1 := Lib.hid hto1
  have hz1' := hto1.grown.size
  clear hto1
  go_upto_region 3 with (at_make; refine wpList_make_own _ rfl _ _ 38 rfl w.heap.size 24 i0 _ 3 Tryd.underlying38 hi0 hz0 hz1 .i64 .i64 _ n rfl rfl rfl (by rw [hz2]; omega) (by unfold maxLen; omega) (by omega) ?_; intro w2 hown2 hgrow2)
  obtain ⟨gg0, hgg0⟩ : ∃ g, g = w1.heap.size := ⟨_, rfl⟩
  rw [← hgg0] at hown2 ⊢
  have HTO2 := Lib.hid (HTO1.out.keep hgrow2 hB hrl (fun k e => by cases e))
  have HO2 := Lib.hid (show w2.ownsRow w.heap.size 24 3 (.slice (some ⟨gg0, 0, none⟩) 0 n) 0 (evCells []) from hown2)
  clear hown2 hgrow2 hgg0
  go_wp2_with fail
  go_loopw [4, 10] (fun v i wr => ∃ (k : Nat) (rk : Rd) (acc : List EvX) (gg cp : Nat), k ≤ n ∧ i = .int .i64 k ∧ v = .slice (some ⟨gg, 0, none⟩) k cp ∧ acc.length = k ∧ timesR eventR n r1 = (xs acc ++ (timesR eventR (n - k) rk).1, (timesR eventR (n - k) rk).2) ∧ RdTo rb B w wr rk ∧ wr.ownsRow w.heap.size 24 3 (.slice (some ⟨gg, 0, none⟩) k cp) k (evCells acc) ∧ ∀ x ∈ acc, VOwn w.heap.size gg wr x) (fun _ i _ => n - (intOf i).toNat)
  case atStart => exact ⟨0, r1, [], gg0, n, Nat.zero_le _, rfl, rfl, rfl, rfl, HTO2.out, HO2.out, by simp⟩
  case round =>
    obtain ⟨k, rk, acc, gg, cp, hk, rfl, rfl, hacc, htm, hto, ho, hv⟩ := hrel
    have HACC := Lib.hid hacc
    have HTM := Lib.hid htm
    have HTO := Lib.hid hto
    have HO := Lib.hid ho
    have HV := Lib.hid hv
    have hzr := hto.grown.size
    have hgl := (ho.lt gg rfl).1
    have hgl2 := (ho.lt gg rfl).2
    clear hacc htm hto ho hv
    have HRK := Lib.hid (show ResAt wr by
      have hl := HRES.out.lt
      obtain ⟨ty, fr, hg⟩ := HRES.out
      exact ⟨ty, fr, (HTO.out.grown.block _ hl (fun e => hrb (Option.some.inj e))).trans hg⟩)
    by_cases hlt : k < n
    · obtain ⟨⟨⟨ty, tm, vals⟩, rn⟩, hvr⟩ : ∃ x, x = eventR rk := ⟨_, rfl⟩
      have HEV := Lib.hid (event_any rb B rk wr HRK.out HTO.out.at' (by omega) hrb)
      rw [← hvr] at HEV
      simp only at HEV
      have HVR := Lib.hid hvr
      clear hvr
      go_wp2_with fail
      refine HEV.out.mono ?_; rintro en w5 ⟨⟨g, c, rfl, hg5⟩, hto5⟩
      have HTO5 := Lib.hid (HTO.out.trans hto5)
      have HO5 := Lib.hid (owns_to HO.out hto5 hrl)
      have hgw := hg5.lt g rfl
      have HV5 := Lib.hid (show ∀ x ∈ acc ++ [⟨⟨ty, tm, vals⟩, some ⟨g, 0, none⟩, c⟩], VOwn w.heap.size gg w5 x by
        intro x hx
        rcases List.mem_append.1 hx with hx | hx
        · exact (HV.out x hx).to hto5 hrl
        · rw [List.mem_singleton.1 hx]
          exact ⟨own_base hg5 hzr, g, rfl, by omega⟩)
      have hz5 := hto5.grown.size
      clear hg5 hto5
      go_upto_region 6 with (at_builtin; go_must (refine wpList_append_lies _ (by rfl) _ _ _ (by rfl) w.heap.size 24 i0 _ 3 48 Tryd.underlying38 hi0 hz0 hz1 hz2 rfl (by omega) (.slice (some ⟨gg, 0, none⟩) k cp) k (evCells acc) (by rfl) (HO5.out.alloc _) ⟨_, 0, none⟩ 1 1 (EvX.cells ⟨⟨ty, tm, vals⟩, some ⟨g, 0, none⟩, c⟩) (by rfl) (by rfl) (World.news_of_block (cs := #[.string ty, .int .i64 tm, .slice (some ⟨g, 0, none⟩) vals.length c]) (t := 24) (fr := (0, 0)) (heap_alloc_new _ _)) (by simp [EvX.cells, Value.oneCell']) (by omega) (by unfold maxLen; omega) (by omega) (by simp; omega) _ rfl ?_; intro g2 cap2 w6 hown6 hgrow6 hat6 hlt6))
      have hb5 : Below w5.heap.size w5 (w5.alloc (Obj.cells #[.string ty, .int .i64 tm, .slice (some ⟨g, 0, none⟩) vals.length c] 24)) := (Below.refl _ w5).alloc (Nat.le_refl _) _
      have HTO6 := Lib.hid ((HTO5.out.below hb5).keep hgrow6 hB hrl (fun j e => by cases e; exact hgl))
      have HV6 := Lib.hid (fun x hx => ((HV5.out x hx).below hb5).grown (g2 := g2) hgrow6 (by
        rcases hat6 with h | h
        · left; injection h with h; exact h.symm
        · right; exact h))
      have HO6 := Lib.hid (show w6.ownsRow w.heap.size 24 3 (.slice (some ⟨g2, 0, none⟩) (k + 1) cap2) (k + 1) (evCells (acc ++ [⟨⟨ty, tm, vals⟩, some ⟨g, 0, none⟩, c⟩])) by rw [evCells_snoc]; exact hown6)
      have HTM6 := Lib.hid (show timesR eventR n r1 = (xs (acc ++ [⟨⟨ty, tm, vals⟩, some ⟨g, 0, none⟩, c⟩]) ++ (timesR eventR (n - (k + 1)) rn).1, (timesR eventR (n - (k + 1)) rn).2) by
        have e : n - k = (n - (k + 1)) + 1 := by omega
        rw [HTM.out, e, times_step, ← HVR.out, xs_snoc])
      clear hb5 hown6 hgrow6 hat6 hlt6
      go_wp2_with fail
      go_roundw
      case rel => exact ⟨k + 1, rn, _, g2, cap2, by omega, by go_num, rfl, by rw [List.length_append, HACC.out]; rfl, HTM6.out, HTO6.out, HO6.out, HV6.out⟩
      case measure => simp [intOf]; omega
    · have hkn : k = n := by omega
      subst hkn
      have HFIN := Lib.hid (show batchR r = (xs acc, rk) by
        rw [HBR.out, HTM.out, Nat.sub_self]
        simp [timesR])
      have hacc := HACC.out
      subst hacc
      obtain ⟨ao', cap', c0, hc', hcm', _⟩ := HTO.out.at'.ex
      unfold maxLen at hcm'
      by_cases hleft : 0 < rk.rest.length
      · have HLF := Lib.hid (show leftR rk = rk.refuse 31 from if_pos hleft)
        go_wp2_with fail
        (refine (refuse_any rb B rk 31 wr HTO.out.at').mono ?_); rintro e w4 ⟨rfl, hto4⟩
        have HTO4 := Lib.hid (HTO.out.trans hto4)
        have HO4 := Lib.hid (owns_to HO.out hto4 hrl)
        have HV4 := Lib.hid (fun x hx => (HV.out x hx).to hto4 hrl)
        clear hto4
        go_wp2_with fail
        go_ret
        rw [HFIN.out]
        exact ⟨⟨acc, gg, cp, rfl, rfl, HO4.out, HV4.out⟩, by rw [HLF.out]; exact HTO4.out⟩
      · have HLF := Lib.hid (show leftR rk = rk from if_neg hleft)
        go_wp2_with fail
        go_ret
        rw [HFIN.out]
        exact ⟨⟨acc, gg, cp, rfl, rfl, HO.out, HV.out⟩, by rw [HLF.out]; exact HTO.out⟩
end Go.Proofs.YtekaimfabadclaaDoor
/- Two arrays of four bytes, held against each other. -/
namespace Go.Proofs.YtekaimfabadclaaDoor
open Go Go.RowKit

theorem wf_u8 (x : UInt8) : (Lit.int .u8 (x.toNat : Int)).wf = true := by
  have := x.toNat_lt
  have h1 : IntKind.u8.min = 0 := by decide
  have h2 : IntKind.u8.max = 255 := by decide
  simp only [Lit.wf, h1, h2, Bool.and_eq_true, decide_eq_true_eq]
  omega
theorem cells4u : Tryd.prog.cellsOf 91 = 4 := by kernel_rfl
theorem cells1u : Tryd.prog.cellsOf 5 = 1 := by kernel_rfl
theorem lits4 (a b c d : UInt8) : Tryd.prog.keyLits 2 91 [.int .u8 (a.toNat : Int), .int .u8 (b.toNat : Int), .int .u8 (c.toNat : Int), .int .u8 (d.toNat : Int)] = some [.int .u8 (a.toNat : Int), .int .u8 (b.toNat : Int), .int .u8 (c.toNat : Int), .int .u8 (d.toNat : Int)] := by
  simp [Program.keyLits, Tryd.underlying91, Tryd.underlying5, cells4u, cells1u, wf_u8, List.range, List.range.loop]
theorem eq4 (s0 s1 s2 s3 t0 t1 t2 t3 : UInt8) (W : World) :
    (Op.equalIn 10000 91 (.agg #[.int .u8 (s0.toNat : Int), .int .u8 (s1.toNat : Int), .int .u8 (s2.toNat : Int), .int .u8 (s3.toNat : Int)]) (.agg #[.int .u8 (t0.toNat : Int), .int .u8 (t1.toNat : Int), .int .u8 (t2.toNat : Int), .int .u8 (t3.toNat : Int)])).run Tryd.prog W = .ok (decide ([s0, s1, s2, s3] = [t0, t1, t2, t3])) W := by
  obtain ⟨r, hr, he⟩ := run_equalIn_deep (P := Tryd.prog) 9998 2 91 (by kernel_rfl) W 2 2 (.agg #[.int .u8 (s0.toNat : Int), .int .u8 (s1.toNat : Int), .int .u8 (s2.toNat : Int), .int .u8 (s3.toNat : Int)]) (.agg #[.int .u8 (t0.toNat : Int), .int .u8 (t1.toNat : Int), .int .u8 (t2.toNat : Int), .int .u8 (t3.toNat : Int)]) _ _ (by simp [Value.formed, Tryd.underlying91, cells4u]) (by simp [Value.formed, Tryd.underlying91, cells4u]) (lits4 s0 s1 s2 s3) (lits4 t0 t1 t2 t3)
  have e : r = decide ([s0, s1, s2, s3] = [t0, t1, t2, t3]) := by
    rw [Bool.eq_iff_iff, he]
    have hu : ∀ a b : UInt8, ((a.toNat : Int) = (b.toNat : Int)) ↔ a = b := fun a b => by
      rw [Int.ofNat_inj]; exact UInt8.toNat_inj
    simp [hu]
  rw [← e]
  exact hr
end Go.Proofs.YtekaimfabadclaaDoor
/- Package wire: Unpack, for any bytes. -/
namespace Go.Proofs.YtekaimfabadclaaDoor
open Go Go.RowKit

def unF (l : List UInt8) : Int :=
  if 1048576 < l.length then 2 else if l.length ≤ 4 then 30 else if sumB (l.take (l.length - 4)) ≠ l.drop (l.length - 4) then 32 else (leftR (batchR ⟨l.take (l.length - 4), 0⟩).2).fault
theorem four_of {l : List UInt8} (h : l.length = 4) : ∃ a b c d, l = [a, b, c, d] := by
  match l, h with
  | [a, b, c, d], _ => exact ⟨a, b, c, d, rfl⟩

set_option maxHeartbeats 8000000 in
set_option maxRecDepth 100000 in
theorem unpack_any (l : List UInt8) (ao : Option Addr) (cap : Nat) (w : World) (hres : ResAt w) (hb : BytesAt w ao l) (hlc : l.length ≤ cap) (hcm : cap ≤ maxLen) :
    Calls Tryd.prog 20 #[.slice ao l.length cap] w fun en w' => ∃ v, en = .returned (.tuple #[v, .int .i64 (unF l)]) ∧ Below w.heap.size w w' ∧ (unF l = 0 → ∃ (acc : List EvX) (gg cp : Nat), v = .slice (some ⟨gg, 0, none⟩) acc.length cp ∧ xs acc = (batchR ⟨l.take (l.length - 4), 0⟩).1 ∧ w'.ownsRow w.heap.size 24 3 (.slice (some ⟨gg, 0, none⟩) acc.length cp) acc.length (evCells acc) ∧ ∀ x ∈ acc, VOwn w.heap.size gg w' x) ∧ (unF l ≠ 0 → v = .slice none 0 0) := by
  have HRES := Lib.hid hres
  have HBY := Lib.hid hb
  unfold maxLen at hcm
  clear hres hb
  by_cases hbig : 1048576 < l.length
  · rw [show unF l = 2 from if_pos hbig]
    have hq : (1048576 : Int) < (l.length : Int) := by omega
    clear hbig
    go_enter Tryd.func20, Tryd.ntmps20
    go_wp2_with fail
    go_ret2
    first | exact ⟨_, rfl, Below.refl _ _, by simp, by simp⟩ | exact ⟨rfl, Below.refl _ _⟩
  have hq : ¬ (1048576 : Int) < (l.length : Int) := by omega
  by_cases hsm : l.length ≤ 4
  · rw [show unF l = 30 by unfold unF; rw [if_neg hbig, if_pos hsm]]
    clear hbig
    go_enter Tryd.func20, Tryd.ntmps20
    go_wp2_with fail
    go_ret2
    first | exact ⟨_, rfl, Below.refl _ _, by simp, by simp⟩ | exact ⟨rfl, Below.refl _ _⟩
  obtain ⟨N, hN⟩ : ∃ N, l.length = N + 4 := ⟨l.length - 4, by omega⟩
  have hN1 : 1 ≤ N := by omega
  have HFE := Lib.hid (show unF l = if sumB (l.take N) ≠ l.drop N then 32 else (leftR (batchR ⟨l.take N, 0⟩).2).fault by
    unfold unF
    rw [if_neg hbig, if_neg hsm, show l.length - 4 = N by omega])
  have hlN : l.length - 4 = N := by omega
  obtain ⟨b, o, rfl, hc⟩ : ∃ b o, ao = some ⟨b, o, none⟩ ∧ ∀ i (h : i < l.length), w.cell? ⟨b, o + i, none⟩ = some (.int .u8 (l[i].toNat : Int)) := by
    rcases HBY.out with h | h
    · rw [h] at hN; simp at hN
    · exact h
  obtain ⟨t0, t1, t2, t3, ht⟩ := four_of (show (l.drop N).length = 4 by rw [List.length_drop]; omega)
  have hget : ∀ j (h : N + j < l.length), (l.drop N)[j]? = some l[N + j] := fun j h => by rw [List.getElem?_drop, List.getElem?_eq_getElem h]
  have c0 : w.cell? ⟨b, o + N, none⟩ = some (.int .u8 (t0.toNat : Int)) := by
    have h1 := hget 0 (by omega); rw [ht] at h1; have h2 := hc (N + 0) (by omega); rw [← Option.some.inj h1] at h2; simpa using h2
  have c1 : w.cell? ⟨b, o + N + 1, none⟩ = some (.int .u8 (t1.toNat : Int)) := by
    have h1 := hget 1 (by omega); rw [ht] at h1; have h2 := hc (N + 1) (by omega); rw [← Option.some.inj h1] at h2; simpa [Nat.add_assoc] using h2
  have c2 : w.cell? ⟨b, o + N + 2, none⟩ = some (.int .u8 (t2.toNat : Int)) := by
    have h1 := hget 2 (by omega); rw [ht] at h1; have h2 := hc (N + 2) (by omega); rw [← Option.some.inj h1] at h2; simpa [Nat.add_assoc] using h2
  have c3 : w.cell? ⟨b, o + N + 3, none⟩ = some (.int .u8 (t3.toNat : Int)) := by
    have h1 := hget 3 (by omega); rw [ht] at h1; have h2 := hc (N + 3) (by omega); rw [← Option.some.inj h1] at h2; simpa [Nat.add_assoc] using h2
  have hbl : b < w.heap.size := World.block_lt_of_cell? w _ c0
  have hlt : (l.take N).length = N := by rw [List.length_take]; omega
  obtain ⟨M, hM⟩ : ∃ M, M = l.take N := ⟨_, rfl⟩
  have HM := Lib.hid (show BytesAt w (some ⟨b, o, none⟩) M by rw [hM]; exact HBY.out.take N)
  rw [ht] at HFE
  rw [hlN]
  rw [← hM] at HFE hlt ⊢
  clear hc hget ht hbig hsm hM hlN
  obtain ⟨s0, s1, s2, s3, hs⟩ : ∃ s0 s1 s2 s3, sumB M = [s0, s1, s2, s3] := ⟨_, _, _, _, rfl⟩
  rw [hs] at HFE
  have HSM := Lib.hid (fun W (h : BytesAt W (some ⟨b, o, none⟩) M) => sum_any M (some ⟨b, o, none⟩) cap W h (by omega) (by unfold maxLen; omega))
  rw [hs, hlt, show (bytesC [s0, s1, s2, s3]).toArray = #[.int .u8 (s0.toNat : Int), .int .u8 (s1.toNat : Int), .int .u8 (s2.toNat : Int), .int .u8 (s3.toNat : Int)] from rfl] at HSM
  clear hs
  obtain ⟨L, hL⟩ : ∃ L, L = l.length := ⟨_, rfl⟩
  rw [← hL] at hN hlc hq ⊢
  have hq2 : ¬ ((L : Int) ≤ 4) := by omega
  have z0 : (0 : Int) ≤ (N : Int) := by omega
  have z1 : (N : Int) ≤ (cap : Int) := by omega
  have z2 : (N : Int) ≤ (L : Int) := by omega
  have z3 : (L : Int) ≤ (cap : Int) := by omega
  have z4 : (L : Int) - 4 = (N : Int) := by omega
  have z5 : L - N = 4 := by omega
  have eqs := eq4 s0 s1 s2 s3 t0 t1 t2 t3
  obtain ⟨q, hqq⟩ : ∃ q, q = decide ([s0, s1, s2, s3] = [t0, t1, t2, t3]) := ⟨_, rfl⟩
  rw [← hqq] at eqs
  have HQ := Lib.hid hqq
  clear hqq
  have arr := fun (W : World) => run_arrayAt (P := Tryd.prog) (w := W) 91 5 4 (some ⟨b, o + N, none⟩) 4 (cap - N) Tryd.underlying91 (Nat.le_refl 4)
  have HL := Lib.hid hN
  clear hN hlc hL
  go_enter Tryd.func20, Tryd.ntmps20
  go_upto_region 6 with fail
  go_cut [27] (fun s27 wx => s27 = .bool (!q) ∧ Below w.heap.size w wx)
  case first =>
    go_region_held3 (fun w' => w'.cell? ⟨b, o + N, none⟩ = some (.int .u8 (t0.toNat : Int)) ∧ w'.cell? ⟨b, o + N + 1, none⟩ = some (.int .u8 (t1.toNat : Int)) ∧ w'.cell? ⟨b, o + N + 2, none⟩ = some (.int .u8 (t2.toNat : Int)) ∧ w'.cell? ⟨b, o + N + 3, none⟩ = some (.int .u8 (t3.toNat : Int)))
      (first
        | go_keep
        | exact ⟨r0, r1, r2, r3⟩)
      ((first
        | (go_at_call 51; (with_reducible refine (HSM.out _ (HM.out.below (Below.refl _ w).drew)).mono ?_); rintro e w4 ⟨rfl, hb4⟩; have hbD := (Below.refl w.heap.size w).drew.trans hb4; have r0 := (hbD.cell (p := ⟨b, o + N, none⟩) hbl).trans c0; have r1 := (hbD.cell (p := ⟨b, o + N + 1, none⟩) hbl).trans c1; have r2 := (hbD.cell (p := ⟨b, o + N + 2, none⟩) hbl).trans c2; have r3 := (hbD.cell (p := ⟨b, o + N + 3, none⟩) hbl).trans c3)))
    all_goals
      go_wp2_with fail
      go_meet
      exact ⟨rfl, hbD⟩
  case rest =>
    obtain ⟨rfl, hbc⟩ := hcut
    obtain ⟨W4, hW4⟩ : ∃ W4, W4 = wc := ⟨_, rfl⟩
    rw [← hW4] at hbc ⊢
    have HB4 := Lib.hid hbc
    clear hbc hW4
    cases q
    · have HF := Lib.hid (show unF l = 32 by rw [HFE.out, if_pos (by intro h; have := HQ.out; rw [decide_eq_true h] at this; cases this)])
      go_wp2_with fail
      go_ret2
      exact ⟨_, by rw [HF.out]; rfl, HB4.out, fun h => (by rw [HF.out] at h; cases h), fun _ => rfl⟩
    · have HF := Lib.hid (show unF l = (leftR (batchR ⟨M, 0⟩).2).fault by rw [HFE.out, if_neg (by intro h; exact h (of_decide_eq_true HQ.out.symm))])
      obtain ⟨R, hR⟩ : ∃ R, R = batchR ⟨M, 0⟩ := ⟨_, rfl⟩
      rw [← hR] at HF
      have HRE := Lib.hid hR
      clear hR
      obtain ⟨W5, hW5⟩ : ∃ W5, W5 = W4.alloc (Obj.cells #[.slice (some ⟨b, o, none⟩) N cap, .int .i64 0] 88) := ⟨_, rfl⟩
      obtain ⟨T, hT⟩ : ∃ T, T = W4.heap.size := ⟨_, rfl⟩
      have hb5 : Below W4.heap.size W4 W5 := by rw [hW5]; exact (Below.refl _ _).alloc (Nat.le_refl _) _
      have hy5 : W5.heap[T]? = some (Obj.cells #[.slice (some ⟨b, o, none⟩) N cap, .int .i64 0] 88 (0, 0)) := by rw [hW5, hT]; exact heap_alloc_new _ _
      have hz4 := HB4.out.size
      have hb45 := HB4.out.trans (hb5.mono hz4)
      have hr5 : RdAt W5 T w.heap.size ⟨M, 0⟩ := by
        refine ⟨⟨some ⟨b, o, none⟩, cap, by simp [World.cell?, hy5, hlt], (show M.length ≤ cap by omega), by unfold maxLen; omega, ?_⟩, by simp [World.cell?, hy5], by simp [World.frozen?, hy5], by simp [World.frozen?, hy5]⟩
        rcases HM.out with h | ⟨b', o', e, h⟩
        · exact Or.inl h
        · cases e
          exact Or.inr ⟨b, o, rfl, by omega, hbl, fun i hi => (hb45.cell (p := ⟨b, o + i, none⟩) hbl).trans (h i hi)⟩
      have hres5 := HRES.out.below hb45
      have hgl := HRES.out.lt
      have HEV := Lib.hid (events_any T w.heap.size ⟨M, 0⟩ W5 hres5 hr5 (by have := hb5.size; omega) (by omega))
      rw [← HRE.out] at HEV
      have HB5 := Lib.hid hb45
      have hTW : w.heap.size ≤ T := by omega
      have HW5 := Lib.hid hW5
      have HTE := Lib.hid hT
      clear hb5 hy5 hr5 hres5 hb45 hW5 hT
      go_upto_region 9 with fail
      rw [← HW5.out, ← HTE.out]
      go_wp2_with fail
      refine HEV.out.mono ?_; rintro en w6 ⟨⟨acc, gg, cp, rfl, hxs, hown, hvo⟩, hto⟩
      have HXS := Lib.hid hxs
      have HOWN := Lib.hid (own_base hown HB5.out.size)
      have HVO := Lib.hid (show ∀ x ∈ acc, VOwn w.heap.size gg w6 x from fun x hx => ⟨own_base (hvo x hx).own HB5.out.size, (hvo x hx).there⟩)
      have hy1 := hto.at'.c1
      obtain ⟨F, hF⟩ : ∃ F, F = (leftR R.2).fault := ⟨_, rfl⟩
      rw [← hF] at HF hy1
      have HB6 := Lib.hid (RdTo.fresh HB5.out hto hTW)
      clear hxs hown hvo hto hF
      cases hf0 : (F == 0)
      · have hfn : (F != 0) = true := by simp [bne, hf0]
        have HFN := Lib.hid (show F ≠ 0 by simpa using hf0)
        clear hf0
        go_wp2_with fail
        go_region
        all_goals
          go_wp2_with fail
          go_ret2
          exact ⟨_, by rw [HF.out]; rfl, HB6.out.drew, fun h => absurd (HF.out.symm.trans h) HFN.out, fun _ => rfl⟩
      · have hfn : (F != 0) = false := by simp [bne, hf0]
        have HFN := Lib.hid (show F = 0 by simpa using hf0)
        clear hf0
        go_wp2_with fail
        go_ret2
        exact ⟨_, by rw [HF.out, HFN.out]; rfl, HB6.out, fun _ => ⟨acc, gg, cp, rfl, by rw [HXS.out, HRE.out], HOWN.out, HVO.out⟩, fun h => absurd (HF.out.trans HFN.out) h⟩
end Go.Proofs.YtekaimfabadclaaDoor
/- The laws' lists, at what is the same. -/
namespace Go.Proofs.YtekaimfabadclaaDoor
open Go Go.RowKit

theorem evs_of_row {w : World} {B g cap : Nat} {l : List EvX} (h : w.ownsRow B 24 3 (.slice (some ⟨g, 0, none⟩) l.length cap) l.length (evCells l)) (hv : ∀ x ∈ l, VOwn B g w x) : EvsIn w.heap.size w (some ⟨g, 0, none⟩) l := by
  rcases h.2 with ⟨e, h0⟩ | ⟨g', cap', cur, e, hb, hh, hn, hc, hs, ht⟩
  · cases e
  · cases e
    refine Or.inr ⟨g, 0, rfl, (Array.getElem?_eq_some_iff.1 hh).1, fun i hi => ⟨?_, ?_⟩⟩
    · have hg := evCells_get l i hi
      rw [← ht] at hg
      rw [List.getElem?_take, List.getElem?_take, List.getElem?_take, if_pos (by omega), if_pos (by omega), if_pos (by omega)] at hg
      rw [Nat.zero_add, cell_of_row w g _ _ _ (0, 0) hh, cell_of_row w g _ _ _ (0, 0) hh, cell_of_row w g _ _ _ (0, 0) hh]
      simpa using hg
    · have hx := hv l[i] (List.getElem_mem hi)
      obtain ⟨vg, e, _⟩ := hx.there
      have ho := hx.own
      rw [e] at ho ⊢
      exact owned_vals ho

set_option maxHeartbeats 8000000 in
set_option maxRecDepth 100000 in
theorem lists_any (C D : Nat) (la lb : List EvX) (ao bo : Option Addr) (ca cb : Nat) (w : World) (ha : EvsIn C w ao la) (hb : EvsIn D w bo lb) (hx : xs la = xs lb) (hC : C ≤ w.heap.size) (hD : D ≤ w.heap.size) (hm : la.length ≤ maxLen) (hv : ∀ x ∈ la, x.ev.vals.length ≤ maxLen) :
    Calls Tryd.prog 21 #[.slice ao la.length ca, .slice bo lb.length cb] w fun en w' => en = .returned (.bool true) ∧ Below w.heap.size w w' := by
  have HA := Lib.hid ha
  have HB := Lib.hid hb
  have HV := Lib.hid hv
  have HX := Lib.hid hx
  unfold maxLen at hm
  have hll : lb.length = la.length := by have := congrArg List.length hx; simpa [xs] using this.symm
  rw [hll]
  obtain ⟨L, hL⟩ : ∃ L, L = la.length := ⟨_, rfl⟩
  rw [← hL] at hm ⊢
  have q2 : ((L : Int) != (L : Int)) = false := by simp
  have HL := Lib.hid hL
  have HLL := Lib.hid hll
  clear ha hb hx hv hL hll
  go_enter Tryd.func21, Tryd.ntmps21
  go_wp2_with fail
  go_loopw [5] (fun i wr => ∃ k : Nat, k ≤ L ∧ i = .int .i64 k ∧ Below w.heap.size w wr) (fun i _ => L - (intOf i).toNat)
  case atStart => exact ⟨0, Nat.zero_le _, rfl, Below.refl _ _⟩
  case round =>
    obtain ⟨k, hk, rfl, hbel⟩ := hrel
    have HBE := Lib.hid hbel
    have hzw := hbel.size
    clear hbel
    by_cases hlt : k < L
    · have hka : k < la.length := by rw [← HL.out]; exact hlt
      have hkb : k < lb.length := by rw [HLL.out]; exact hka
      obtain ⟨b, o, rfl, hlb, hca⟩ : ∃ b o, ao = some ⟨b, o, none⟩ ∧ b < C ∧ ∀ i (h : i < la.length), (wr.cell? ⟨b, o + i * 3, none⟩ = some (.string la[i].ev.ty) ∧ wr.cell? ⟨b, o + i * 3 + 1, none⟩ = some (.int .i64 la[i].ev.time) ∧ wr.cell? ⟨b, o + i * 3 + 2, none⟩ = some (.slice la[i].va la[i].ev.vals.length la[i].cap)) ∧ ValsIn C wr la[i].va la[i].ev.vals := by
        rcases HA.out.below HBE.out hC with h | h
        · rw [h] at hka; simp at hka
        · exact h
      obtain ⟨b2, o2, rfl, hlb2, hcb⟩ : ∃ b o, bo = some ⟨b, o, none⟩ ∧ b < D ∧ ∀ i (h : i < lb.length), (wr.cell? ⟨b, o + i * 3, none⟩ = some (.string lb[i].ev.ty) ∧ wr.cell? ⟨b, o + i * 3 + 1, none⟩ = some (.int .i64 lb[i].ev.time) ∧ wr.cell? ⟨b, o + i * 3 + 2, none⟩ = some (.slice lb[i].va lb[i].ev.vals.length lb[i].cap)) ∧ ValsIn D wr lb[i].va lb[i].ev.vals := by
        rcases HB.out.below HBE.out hD with h | h
        · rw [h] at hkb; simp at hkb
        · exact h
      obtain ⟨⟨d0, d1, d2⟩, hva⟩ := hca k hka
      obtain ⟨⟨e0, e1, e2⟩, hvb⟩ := hcb k hkb
      have hxk : la[k].ev = lb[k].ev := by
        have h1 : (xs la)[k]? = some la[k].ev := by simp [xs, hka]
        have h2 : (xs lb)[k]? = some lb[k].ev := by simp [xs, hkb]
        rw [HX.out, h2] at h1
        exact (Option.some.inj h1).symm
      have hvl := HV.out la[k] (List.getElem_mem hka)
      obtain ⟨x, hx⟩ : ∃ x, x = la[k] := ⟨_, rfl⟩
      obtain ⟨y, hy⟩ : ∃ y, y = lb[k] := ⟨_, rfl⟩
      rw [← hx] at d0 d1 d2 hva hxk hvl
      rw [← hy] at e0 e1 e2 hvb hxk
      clear hx hy hca hcb hka hkb
      obtain ⟨ev, va, vc⟩ := x
      obtain ⟨ev2, vb, vd⟩ := y
      simp only at hxk
      subst hxk
      obtain ⟨ty, tm, vals⟩ := ev
      simp only at d0 d1 d2 e0 e1 e2 hva hvb hvl
      have HVA := Lib.hid hva
      have HVB := Lib.hid hvb
      have hbw : b < wr.heap.size := by omega
      have hbw2 : b2 < wr.heap.size := by omega
      have HES := Lib.hid (events_same C D ⟨ty, tm, vals⟩ va vb vc vd wr.drew hvl (by simp; omega) (by simp; omega) (hva.below (Below.refl _ wr).drew (by omega)) (hvb.below (Below.refl _ wr).drew (by omega)))
      simp only [evV] at HES
      clear hva hvb hvl
      have k0 : (0 : Int) ≤ (k : Int) := by omega
      have k1 : (k : Int) < (L : Int) := by omega
      go_upto_region 6 with fail
      go_cut [26] (fun s26 wx => s26 = .bool false ∧ Below w.heap.size w wx)
      case first =>
        go_region_held3 (fun w' => w'.cell? ⟨b, o + k * 3, none⟩ = some (.string ty) ∧ w'.cell? ⟨b, o + k * 3 + 1, none⟩ = some (.int .i64 tm) ∧ w'.cell? ⟨b, o + k * 3 + 2, none⟩ = some (.slice va vals.length vc) ∧ w'.cell? ⟨b2, o2 + k * 3, none⟩ = some (.string ty) ∧ w'.cell? ⟨b2, o2 + k * 3 + 1, none⟩ = some (.int .i64 tm) ∧ w'.cell? ⟨b2, o2 + k * 3 + 2, none⟩ = some (.slice vb vals.length vd))
          (first
            | go_keep
            | exact ⟨r0, r1, r2, r3, r4, r5⟩)
          ((first
            | (go_at_call 18; (with_reducible refine HES.out.mono ?_); rintro e w4 ⟨rfl, hb4⟩; have hbD := (Below.refl wr.heap.size wr).drew.trans hb4; have r0 := (hbD.cell (p := ⟨b, o + k * 3, none⟩) hbw).trans d0; have r1 := (hbD.cell (p := ⟨b, o + k * 3 + 1, none⟩) hbw).trans d1; have r2 := (hbD.cell (p := ⟨b, o + k * 3 + 2, none⟩) hbw).trans d2; have r3 := (hbD.cell (p := ⟨b2, o2 + k * 3, none⟩) hbw2).trans e0; have r4 := (hbD.cell (p := ⟨b2, o2 + k * 3 + 1, none⟩) hbw2).trans e1; have r5 := (hbD.cell (p := ⟨b2, o2 + k * 3 + 2, none⟩) hbw2).trans e2)))
        all_goals
          go_wp2_with fail
          go_meet
          exact ⟨rfl, HBE.out.trans (hbD.mono hzw)⟩
      case rest =>
        obtain ⟨rfl, hbc⟩ := hcut
        have HBC := Lib.hid hbc
        clear hbc d0 d1 d2 e0 e1 e2
        go_wp2_with fail
        go_roundw
        case rel => exact ⟨k + 1, by omega, by go_num, HBC.out⟩
        case measure => simp [intOf]; omega
    · go_wp2_with fail
      go_ret
      exact ⟨rfl, HBE.out⟩
end Go.Proofs.YtekaimfabadclaaDoor
/- The walk of the law of batches' one form. -/
namespace Go.Proofs.YtekaimfabadclaaDoor
open Go Go.RowKit

theorem batchE_pos (l : List Ev) : 1 ≤ (batchE l).length := by
  have := putB_pos (l.length : Int)
  unfold batchE
  rw [List.length_append]
  omega
theorem packB_len (l : List Ev) : (packB l).length = (batchE l).length + 4 := by
  unfold packB
  rw [List.length_append, sumB_len]
theorem batch_there (l : List Ev) (h : packOk l) : batchR ⟨batchE l, 0⟩ = (l, ⟨[], 0⟩) := by
  have := batch_codec.there l [] ⟨h.1, h.2.1⟩
  rwa [List.append_nil] at this
theorem packB_take (l : List Ev) : (packB l).take ((packB l).length - 4) = batchE l ∧ (packB l).drop ((packB l).length - 4) = sumB (batchE l) := by
  have e : (packB l).length - 4 = (batchE l).length := by rw [packB_len]; omega
  rw [e]
  unfold packB
  exact ⟨List.take_left, List.drop_left⟩
theorem unF_pack (l : List Ev) (h : packOk l) : unF (packB l) = 0 := by
  have h1 := packB_len l
  have h2 := batchE_pos l
  have h3 := h.2.2
  obtain ⟨h4, h5⟩ := packB_take l
  unfold unF
  rw [h4, h5, if_neg (by omega), if_neg (by omega), if_neg (by simp), batch_there l h]
  simp [leftR]
theorem left_fault (r : Rd) (h : (leftR r).fault = 0) : r.fault = 0 ∧ r.rest = [] := by
  unfold leftR at h
  split at h
  · unfold Rd.refuse at h
    split at h
    · cases h
    · contradiction
  · exact ⟨h, List.eq_nil_of_length_eq_zero (by omega)⟩
theorem unF_back (l : List UInt8) (h : unF l = 0) : packOk (batchR ⟨l.take (l.length - 4), 0⟩).1 ∧ packB (batchR ⟨l.take (l.length - 4), 0⟩).1 = l := by
  unfold unF at h
  split at h
  · cases h
  split at h
  · cases h
  split at h
  · cases h
  rename_i h1 h2 h3
  obtain ⟨h4, h5⟩ := left_fault _ h
  obtain ⟨h6, h7⟩ := batch_codec.back _ h4
  rw [h5, List.append_nil] at h7
  have h8 : sumB (l.take (l.length - 4)) = l.drop (l.length - 4) := by
    by_cases e : sumB (l.take (l.length - 4)) = l.drop (l.length - 4)
    · exact e
    · exact absurd e h3
  refine ⟨⟨h6.1, h6.2, ?_⟩, ?_⟩
  · rw [← h7, List.length_take]
    omega
  · unfold packB
    rw [← h7, h8, List.take_append_drop]
theorem own_cap {w : World} {B g cap n : Nat} {e : TypeId} {s : Nat} {xs : List Value} (h : w.ownsRow B e s (.slice (some ⟨g, 0, none⟩) n cap) n xs) : n ≤ cap ∧ cap ≤ maxLen := by
  rcases h.2 with ⟨e, _⟩ | ⟨g', cap', cur, e, _, _, hn, hc, _⟩
  · cases e
  · cases e
    exact ⟨hn, hc⟩
theorem valGo_of {e : Ev} (h : evOk e) : ∀ a ∈ e.vals, valGo a := fun a ha => ⟨Nat.le_trans (valOk_str (h.2.2.2 a ha)) (by decide), (h.2.2.2 a ha).2⟩
theorem VOwn.mono {B C gg : Nat} {w : World} {x : EvX} (h : VOwn B gg w x) (hC : C ≤ B) : VOwn C gg w x := ⟨own_base h.own hC, h.there⟩

set_option maxHeartbeats 8000000 in
set_option maxRecDepth 100000 in
theorem batchForm_any (l : List EvX) (raw : List UInt8) (ao ro : Option Addr) (ca rc : Nat) (w : World) (hres : ResAt w) (hl : EvsIn w.heap.size w ao l) (hlc : l.length ≤ ca) (hcm : ca ≤ maxLen) (hin : ∀ x ∈ l, ∀ a ∈ x.ev.vals, valGo a) (hraw : BytesAt w ro raw) (hrc : raw.length ≤ rc) (hrm : rc ≤ maxLen) :
    Calls Tryd.prog 4 #[.slice ao l.length ca, .slice ro raw.length rc] w fun en w' => en = .returned (.bool true) ∧ Below w.heap.size w w' := by
  have HRES := Lib.hid hres
  have HL := Lib.hid hl
  have HIN := Lib.hid hin
  have HRW := Lib.hid hraw
  clear hres hl hin hraw
  go_enter Tryd.func4, Tryd.ntmps4
  go_wp2_with fail
  refine (begun_any w HRES.out).mono ?_; rintro en w2 ⟨rfl, hb2⟩
  have HB2 := Lib.hid hb2
  clear hb2
  go_wp2_with fail
  refine (pack_any l ao ca w2 (HRES.out.below HB2.out) (by rcases HL.out.below HB2.out (Nat.le_refl _) with h | ⟨b, o, e, hlt, h⟩; exact Or.inl h; exact Or.inr ⟨b, o, e, Nat.lt_of_lt_of_le hlt HB2.out.size, fun i hi => ⟨(h i hi).1, (h i hi).2.mono HB2.out.size⟩⟩) hlc hcm HIN.out).mono ?_; rintro en w3 ⟨v3, f3, rfl, hb3, hcase⟩
  have HB3 := Lib.hid (HB2.out.trans (hb3.mono HB2.out.size))
  have HCASE := Lib.hid hcase
  clear hcase hb3
  go_upto_if 21 with fail
  go_cut [] (fun wx => Below w.heap.size w wx)
  case first =>
    rcases HCASE.out with ⟨rfl, hpo, hown⟩ | ⟨hne, _, rfl⟩
    · obtain ⟨a3, c3, rfl, _, hy3, hc3, hm3⟩ := owned_arg hown
      have HUN := Lib.hid (unpack_any (packB (xs l)) a3 c3 w3 (HRES.out.below HB3.out) hy3 hc3 hm3)
      rw [unF_pack _ hpo] at HUN
      have HPO := Lib.hid hpo
      have HTE := Lib.hid (show (batchR ⟨(packB (xs l)).take ((packB (xs l)).length - 4), 0⟩).1 = xs l by rw [(packB_take (xs l)).1, batch_there _ hpo])
      clear hown hy3 hc3 hm3 hpo HCASE
      go_wp2_with fail
      refine HUN.out.mono ?_; rintro en w4 ⟨v4, rfl, hb4, hacc, _⟩
      obtain ⟨acc, gg, cp, rfl, hxs, hown, hvo⟩ := hacc (by trivial)
      rw [HTE.out] at hxs
      have HB4 := Lib.hid (HB3.out.trans (hb4.mono HB3.out.size))
      have HLS := Lib.hid (lists_any w4.heap.size w.heap.size acc l (some ⟨gg, 0, none⟩) ao cp ca w4 (evs_of_row hown hvo) (HL.out.below HB4.out (Nat.le_refl _)) hxs (Nat.le_refl _) HB4.out.size (Nat.le_trans (own_cap hown).1 (own_cap hown).2) (fun x hx => by
        have h := HPO.out.2.1 x.ev (by rw [← hxs]; exact List.mem_map_of_mem hx)
        exact Nat.le_trans h.2.2.1 (by decide)))
      clear hb4 hacc hxs hown hvo
      go_wp2_with fail
      refine HLS.out.mono ?_; rintro en w5 ⟨rfl, hb5⟩
      go_wp2_with fail
      go_meet
      exact HB4.out.trans (hb5.mono HB4.out.size)
    · have hne2 : (f3 == 0) = false := by simpa using hne
      clear hne HCASE
      go_wp2_with fail
      go_meet
      exact HB3.out
  case rest =>
    obtain ⟨W4, hW4⟩ : ∃ W4, W4 = wc := ⟨_, rfl⟩
    rw [← hW4] at hcut ⊢
    have HB4 := Lib.hid hcut
    clear hcut hW4 HCASE
    have HUN := Lib.hid (unpack_any raw ro rc W4 (HRES.out.below HB4.out) (HRW.out.below HB4.out) hrc hrm)
    obtain ⟨F, hF⟩ : ∃ F, F = unF raw := ⟨_, rfl⟩
    rw [← hF] at HUN
    have HF := Lib.hid hF
    clear hF
    go_wp2_with fail
    refine HUN.out.mono ?_; rintro en w5 ⟨v5, rfl, hb5, hyes, hno⟩
    have HB5 := Lib.hid (HB4.out.trans (hb5.mono HB4.out.size))
    clear hb5
    by_cases hF0 : F = 0
    · subst hF0
      obtain ⟨acc, gg, cp, rfl, hxs, hown, hvo⟩ := hyes (by trivial)
      obtain ⟨hpo, hpb⟩ := unF_back raw HF.out.symm
      rw [← hxs] at hpo hpb
      have HPO := Lib.hid hpo
      have HPB := Lib.hid hpb
      have HPK := Lib.hid (pack_any acc (some ⟨gg, 0, none⟩) cp w5 (HRES.out.below HB5.out) (evs_of_row hown hvo) (own_cap hown).1 (own_cap hown).2 (fun x hx => valGo_of (hpo.2.1 x.ev (List.mem_map_of_mem hx))))
      clear hyes hno hxs hown hvo hpo hpb
      go_wp2_with fail
      refine HPK.out.mono ?_; rintro en w6 ⟨v6, f6, rfl, hb6, hcase⟩
      have HB6 := Lib.hid (HB5.out.trans (hb6.mono HB5.out.size))
      rcases hcase with ⟨rfl, _, hown⟩ | ⟨_, hnp, _⟩
      · rw [HPB.out] at hown
        obtain ⟨a6, c6, rfl, _, hy6, hc6, hm6⟩ := owned_arg hown
        have HSS := Lib.hid (same_same raw a6 ro c6 rc w6 (Nat.le_trans hc6 hm6) hy6 (HRW.out.below HB6.out))
        clear hown hy6 hc6 hm6 hb6
        go_wp2_with fail
        refine HSS.out.mono ?_; rintro en w7 ⟨rfl, hb7⟩
        go_wp2_with fail
        go_ret
        exact ⟨rfl, HB6.out.trans (hb7.mono HB6.out.size)⟩
      · exact absurd HPO.out hnp
    · obtain rfl := hno hF0
      have hf2 : (F != 0) = true := by simpa [bne] using hF0
      clear hyes hno hF0
      go_wp2_with fail
      go_ret
      exact ⟨rfl, HB5.out⟩
end Go.Proofs.YtekaimfabadclaaDoor
/- Events that came in, as the walks want them. -/
namespace Go.Proofs.YtekaimfabadclaaDoor
open Go Go.ChangeShapes Go.WideShapes Go.ChangeAt Go.RowKit

section
variable {H : Type} {enc : TypeId × Value → H} {W : World} {base : Nat} {spare : Nat → Bool} {held : Bool}
set_option maxRecDepth 100000 in
theorem evs_trod {fuel : Nat} {cs : List Value} {x : DataW H × List MemPlace} (h : DataW.trod enc Tryd.prog W base spare held fuel 38 cs = some x) :
    ∃ (l : List EvX) (ao : Option Addr) (cap : Nat), cs = [.slice ao l.length cap] ∧ EvsIn W.heap.size W ao l ∧ l.length ≤ cap ∧ cap ≤ maxLen ∧ ∀ x ∈ l, (∀ a ∈ x.ev.vals, valGo a) ∧ x.ev.vals.length ≤ maxLen := by
  rcases DataW.trod_slice Tryd.underlying38 h with ⟨h0, _⟩ | ⟨a, len, cap, elems, rest, n, _, rfl, rfl, hb, hl, hm, hlen, hel, _, _⟩
  · exact ⟨[], none, 0, h0, Or.inl rfl, by simp, by simp, by simp⟩
  · have each : ∀ i, i < len → ∃ v : EvX, ((∀ a ∈ v.ev.vals, valGo a) ∧ v.ev.vals.length ≤ maxLen) ∧ ValsIn W.heap.size W v.va v.ev.vals ∧ ∀ j, j < 3 → W.cell? (a.add (i * 3 + j)) = v.cells[j]? := by
      intro i hi
      have h1 := hel i hi
      rw [List.getElem?_eq_getElem (by omega), cellsEv] at h1
      cases hc : W.cells? base (a.add (i * 3)) 3 with
      | none => rw [hc] at h1; cases h1
      | some c =>
        rw [hc] at h1
        obtain ⟨e, va, vc, rfl, hv, hvl, hvi⟩ := event_trod h1
        refine ⟨⟨e, va, vc⟩, ⟨fun a ha => hvi a ha, hvl⟩, hv, fun j hj => ?_⟩
        have h2 := (World.cells?_some hc).2.2 j hj
        rw [Addr.add_add] at h2
        exact h2
    obtain ⟨f, hf⟩ : ∃ f : Nat → EvX, ∀ i, i < len → ((∀ a ∈ (f i).ev.vals, valGo a) ∧ (f i).ev.vals.length ≤ maxLen) ∧ ValsIn W.heap.size W (f i).va (f i).ev.vals ∧ ∀ j, j < 3 → W.cell? (a.add (i * 3 + j)) = (f i).cells[j]? :=
      ⟨fun i => if h : i < len then (each i h).choose else ⟨zeroEv, none, 0⟩, fun i hi => by simp only [hi, dif_pos]; exact (each i hi).choose_spec⟩
    have hll : ((List.range len).map f).length = len := by simp
    refine ⟨(List.range len).map f, some a, cap, by rw [hll], ?_, by rw [hll]; omega, hm, ?_⟩
    · rcases Nat.eq_zero_or_pos len with h0 | h0
      · subst h0
        exact Or.inl rfl
      · obtain ⟨b, o, sp⟩ := a
        have hsp : sp = none := by
          have h3 := (hf 0 h0).2.2 0 (by omega)
          cases sp with
          | none => rfl
          | some x =>
            simp [World.cell?, Addr.add, EvX.cells] at h3
            split at h3 <;> cases h3
        subst hsp
        have ea : ∀ k, (⟨b, o, none⟩ : Addr).add k = ⟨b, o + k, none⟩ := by
          intro k
          unfold Addr.add
          split
          · subst_vars; rfl
          · rfl
        have hlt : b < W.heap.size := by
          have h3 := (hf 0 h0).2.2 0 (by omega)
          rw [ea] at h3
          exact World.block_lt_of_cell? W _ h3
        refine Or.inr ⟨b, o, rfl, hlt, fun i hi => ?_⟩
        have hi' : i < len := by simpa using hi
        have h3 := (hf i hi').2.2
        simp only [List.getElem_map, List.getElem_range]
        have g0 := h3 0 (by omega)
        have g1 := h3 1 (by omega)
        have g2 := h3 2 (by omega)
        rw [ea] at g0 g1 g2
        exact ⟨⟨g0, g1, g2⟩, (hf i hi').2.1⟩
    · intro v hv
      obtain ⟨i, hi, rfl⟩ := List.mem_map.1 hv
      exact (hf i (by simpa using hi)).1
end
end Go.Proofs.YtekaimfabadclaaDoor
/- What damage does to a batch: plain. -/
namespace Go.Proofs.YtekaimfabadclaaDoor
open Go Go.RowKit

theorem unF_of (M S : List UInt8) (hS : S.length = 4) (hM : 1 ≤ M.length) (hl : M.length + 4 ≤ 1048576) (hne : sumB M ≠ S) : unF (M ++ S) = 32 := by
  have e : (M ++ S).length - 4 = M.length := by rw [List.length_append, hS]; omega
  have e2 : (M ++ S).length = M.length + 4 := by rw [List.length_append, hS]
  unfold unF
  rw [e, List.take_left, List.drop_left, if_neg (by omega), if_neg (by omega), if_pos hne]
theorem cut_at (l : List UInt8) (i : Nat) (h : i < l.length) : l = l.take i ++ l[i] :: l.drop (i + 1) := by
  rw [List.getElem_cons_drop, List.take_append_drop]
theorem set_at (l : List UInt8) (i : Nat) (h : i < l.length) (y : UInt8) : l.set i y = l.take i ++ y :: l.drop (i + 1) := List.set_eq_take_append_cons_drop .. |>.trans (by simp [h])
theorem damage_turn (es : List Ev) (hpo : packOk es) (i : Nat) (hi : i < (packB es).length) (y : UInt8) (hy : y ≠ (packB es)[i]) : unF ((packB es).set i y) = 32 := by
  have h1 := packB_len es
  have h2 := batchE_pos es
  have h3 := hpo.2.2
  have hS := sumB_len (batchE es)
  by_cases hc : i < (batchE es).length
  · have hx : (packB es)[i] = (batchE es)[i] := by simp [packB, List.getElem_append_left hc]
    rw [hx] at hy
    have e : (packB es).set i y = (batchE es).set i y ++ sumB (batchE es) := by unfold packB; rw [List.set_append_left _ _ hc]
    rw [e]
    refine unF_of _ _ hS (by rw [List.length_set]; exact h2) (by rw [List.length_set]; exact h3) fun h => ?_
    have h4 := sumB_inj h
    rw [set_at _ i hc y] at h4
    have h5 := sum_turn ((batchE es).take i) ((batchE es).drop (i + 1)) y (batchE es)[i] hy
    rw [← cut_at _ i hc] at h5
    exact h5 h4
  · have hk : i - (batchE es).length < (sumB (batchE es)).length := by rw [hS]; omega
    have hx : (packB es)[i] = (sumB (batchE es))[i - (batchE es).length] := by simp [packB, List.getElem_append_right (Nat.le_of_not_lt hc)]
    rw [hx] at hy
    have e : (packB es).set i y = batchE es ++ (sumB (batchE es)).set (i - (batchE es).length) y := by unfold packB; rw [List.set_append_right _ _ (Nat.le_of_not_lt hc)]
    rw [e]
    refine unF_of _ _ (by rw [List.length_set]; exact hS) h2 h3 fun h => hy ?_
    have h6 : ((sumB (batchE es)).set (i - (batchE es).length) y)[i - (batchE es).length]? = some y := by simp [hk]
    rw [← h, List.getElem?_eq_getElem hk] at h6
    exact (Option.some.inj h6).symm
theorem swap_at (l : List UInt8) (j : Nat) (h : j + 1 < l.length) : l = l.take j ++ l[j] :: l[j + 1] :: l.drop (j + 2) ∧ (l.set j l[j + 1]).set (j + 1) l[j] = l.take j ++ l[j + 1] :: l[j] :: l.drop (j + 2) := by
  have e : l = l.take j ++ l[j] :: l[j + 1] :: l.drop (j + 2) := by
    conv => lhs; rw [cut_at l j (by omega)]
    rw [show l.drop (j + 1) = l[j + 1] :: l.drop (j + 2) from (List.getElem_cons_drop (h := h)).symm]
  refine ⟨e, ?_⟩
  have hlt : (l.take j).length = j := by rw [List.length_take]; omega
  obtain ⟨x, hx⟩ : ∃ x, x = l[j] := ⟨_, rfl⟩
  obtain ⟨y, hy⟩ : ∃ y, y = l[j + 1] := ⟨_, rfl⟩
  rw [← hx, ← hy] at e ⊢
  obtain ⟨p, hp⟩ : ∃ p, p = l.take j := ⟨_, rfl⟩
  obtain ⟨r, hr⟩ : ∃ r, r = l.drop (j + 2) := ⟨_, rfl⟩
  rw [← hp, ← hr] at e ⊢
  rw [← hp] at hlt
  clear hx hy hp hr h
  rw [e]
  subst hlt
  rw [List.set_append_right _ _ (Nat.le_refl _), Nat.sub_self, List.set_append_right _ _ (by omega)]
  simp
theorem damage_swap (es : List Ev) (hpo : packOk es) (j : Nat) (hj : j + 5 < (packB es).length) (hne : (packB es)[j] ≠ (packB es)[j + 1]) : unF (((packB es).set j (packB es)[j + 1]).set (j + 1) (packB es)[j]) = 32 := by
  have h1 := packB_len es
  have h2 := batchE_pos es
  have h3 := hpo.2.2
  have hS := sumB_len (batchE es)
  have hc : j + 1 < (batchE es).length := by omega
  have hx : (packB es)[j] = (batchE es)[j] := by simp [packB, List.getElem_append_left (show j < (batchE es).length by omega)]
  have hy : (packB es)[j + 1] = (batchE es)[j + 1] := by simp [packB, List.getElem_append_left hc]
  rw [hx, hy] at hne ⊢
  obtain ⟨e1, e2⟩ := swap_at (batchE es) j hc
  have e : ((packB es).set j (batchE es)[j + 1]).set (j + 1) (batchE es)[j] = ((batchE es).set j (batchE es)[j + 1]).set (j + 1) (batchE es)[j] ++ sumB (batchE es) := by
    unfold packB
    rw [List.set_append_left _ _ (by omega), List.set_append_left _ _ (by rw [List.length_set]; exact hc)]
  rw [e]
  refine unF_of _ _ hS (by rw [List.length_set, List.length_set]; exact h2) (by rw [List.length_set, List.length_set]; exact h3) fun h => ?_
  have h4 := sumB_inj h
  rw [e2] at h4
  have h5 := sum_swap ((batchE es).take j) ((batchE es).drop (j + 2)) (batchE es)[j + 1] (batchE es)[j] (fun e => hne e.symm)
  rw [← e1] at h5
  exact h5 h4
theorem swap_same (l : List UInt8) (j : Nat) (h : j + 1 < l.length) (he : l[j] = l[j + 1]) : (l.set j l[j + 1]).set (j + 1) l[j] = l := by
  obtain ⟨e1, e2⟩ := swap_at l j h
  rw [e2]
  conv => rhs; rw [e1]
  rw [he]

/-- A row of the call's own, as it is turned. -/
structure Copy (w : World) (B g cap : Nat) (l : List UInt8) : Prop where
  cells : ∀ i (h : i < l.length), w.cell? ⟨g, 0 + i, none⟩ = some (.int .u8 (l[i].toNat : Int))
  free : ∀ i, i < l.length → w.frozen? ⟨g, i, none⟩ = false
  lo : B ≤ g
  len : l.length ≤ cap
  cap : cap ≤ maxLen
theorem copy_of {w : World} {B : Nat} {v : Value} {l : List UInt8} (h : w.ownsRow B 5 1 v l.length (bytesC l)) (hl : 0 < l.length) : ∃ g cap, v = .slice (some ⟨g, 0, none⟩) l.length cap ∧ Copy w B g cap l := by
  rcases h.2 with ⟨e, h0⟩ | ⟨g, cap, cur, e, hb, hh, hn, hc, hs, ht⟩
  · omega
  · refine ⟨g, cap, e, ⟨fun i hi => ?_, fun i hi => ?_, hb, hn, hc⟩⟩
    · have hg := bytesC_get l i hi
      rw [← ht, List.getElem?_take, if_pos (by omega)] at hg
      rw [Nat.zero_add, cell_of_row w g i _ _ (0, 0) hh]
      simpa using hg
    · simp [World.frozen?, hh]
theorem Copy.at' {w : World} {B g cap : Nat} {l : List UInt8} (h : Copy w B g cap l) : BytesAt w (some ⟨g, 0, none⟩) l := Or.inr ⟨g, 0, rfl, h.cells⟩
theorem Copy.set {w : World} {B g cap : Nat} {l : List UInt8} (h : Copy w B g cap l) (i : Nat) (_hi : i < l.length) (y : UInt8) : Copy (w.setCell ⟨g, i, none⟩ (.int .u8 (y.toNat : Int))) B g cap (l.set i y) := by
  refine ⟨fun k hk => ?_, fun k hk => ?_, h.lo, by rw [List.length_set]; exact h.len, h.cap⟩
  · rw [List.length_set] at hk
    have hc := h.cells k hk
    rw [Nat.zero_add] at hc ⊢
    by_cases e : i = k
    · subst e
      rw [World.cell?_setCell_same _ _ _ hc]
      simp
    · rw [World.cell?_setCell_other _ _ _ _ (by intro h2; injection h2 with _ h3 _; exact e (by omega)), hc]
      simp [e]
  · rw [List.length_set] at hk
    rw [World.frozen?_setCell]
    exact h.free k hk
theorem Copy.below {w w' : World} {B g cap : Nat} {l : List UInt8} (h : Copy w B g cap l) (hl : 0 < l.length) (hb : Below w.heap.size w w') : Copy w' B g cap l := by
  have hlt := World.block_lt_of_cell? w _ (h.cells 0 hl)
  exact ⟨fun i hi => (hb.cell (p := ⟨g, 0 + i, none⟩) hlt).trans (h.cells i hi), fun i _ => (hb.frozen (p := ⟨g, i, none⟩) hlt).trans (h.free i ‹_›), h.lo, h.len, h.cap⟩
end Go.Proofs.YtekaimfabadclaaDoor
/- The laws' roomy. -/
namespace Go.Proofs.YtekaimfabadclaaDoor
open Go Go.RowKit

/-- The byte at a place of the bytes with marks behind them. -/
def roomAt (l : List UInt8) (i : Nat) : UInt8 := if i < l.length then l.getD i 0 else UInt8.ofNat ((137 + i - l.length) % 256)
theorem roomAt_in (l : List UInt8) (i : Nat) (h : i < l.length) : roomAt l i = l[i] := by simp [roomAt, h]
theorem u8_wrap (z : Int) : ∃ y : UInt8, IntKind.u8.wrap z = (y.toNat : Int) := by
  refine ⟨UInt8.ofNat (z % 256).toNat, ?_⟩
  have h : IntKind.u8.wrap z = z % 256 := by simp [IntKind.wrap, IntKind.bits, IntKind.signed]
  rw [h]
  simp
  omega
theorem wrap_u8_nat (n : Nat) : IntKind.u8.wrap (n : Int) = ((UInt8.ofNat (n % 256)).toNat : Int) := by
  have h : IntKind.u8.wrap (n : Int) = (n : Int) % 256 := by simp [IntKind.wrap, IntKind.bits, IntKind.signed]
  rw [h]
  simp

set_option maxHeartbeats 8000000 in
set_option maxRecDepth 100000 in
theorem roomy_any (l : List UInt8) (ao : Option Addr) (cap : Nat) (w : World) (hb : BytesAt w ao l) (_hlc : l.length ≤ cap) (hcm : l.length ≤ 150000000000000) :
    Calls Tryd.prog 24 #[.slice ao l.length cap] w fun e w' => ∃ g c r, e = .returned (.slice (some ⟨g, 0, none⟩) (l.length + 66) c) ∧ Copy w' w.heap.size g c r ∧ r.length = l.length + 66 ∧ (∀ i (h : i < r.length), r[i] = roomAt l i) ∧ Below w.heap.size w w' := by
  obtain ⟨i0, hi0, hz0, hz1, hz2⟩ := info_parts Tryd.infoU8
  have HB := Lib.hid hb
  clear hb
  obtain ⟨N, hN⟩ : ∃ N, N = l.length + 66 := ⟨_, rfl⟩
  have HN := Lib.hid hN
  have hN1 : (l.length : Int) + 66 = (N : Int) := by omega
  have hN2 : N ≤ 150000000000066 := by omega
  have hN3 : l.length ≤ N := by omega
  rw [← hN]
  clear hN
  go_enter Tryd.func24, Tryd.ntmps24
  go_upto_region 3 with (at_make; refine wpList_make_full _ rfl _ _ 25 rfl w.heap.size 5 i0 _ 1 Tryd.underlying25 hi0 hz0 hz1 .i64 .i64 _ _ N rfl rfl (by first | rfl | exact hN1) (by first | rfl | exact hN1) (by rw [hz2]; omega) (by unfold maxLen; omega) (Nat.le_refl _) ?_; intro w2 hown2 hgrow2)
  obtain ⟨g, hg⟩ : ∃ g, g = w.heap.size := ⟨_, rfl⟩
  have hown3 : w2.ownsRow w.heap.size 5 1 (.slice (some ⟨g, 0, none⟩) N N) (List.replicate N (0 : UInt8)).length (bytesC (List.replicate N 0)) := by
    have e : (madeCells (Value.int IntKind.u8 0).cells (N * 1)).toList = bytesC (List.replicate N 0) := by
      show (madeCells #[Value.int IntKind.u8 0] (N * 1)).toList = _
      rw [Nat.mul_one, toList_madeCells_one]
      simp [bytesC]
    rw [← e, List.length_replicate, hg]
    exact hown2
  obtain ⟨g', c', e', hcp⟩ := copy_of hown3 (by rw [List.length_replicate]; omega)
  rw [List.length_replicate] at e'
  injection e' with e1 e2 e3
  injection e1 with e1
  injection e1 with e1
  rw [← e1, ← e3] at hcp
  have HC2 := Lib.hid hcp
  have hb2 : Below w.heap.size w w2 := below_of_grown hgrow2 rfl
  have HB2 := Lib.hid hb2
  have hgl : w.heap.size ≤ g := by omega
  rw [← hg]
  clear hown2 hown3 hgrow2 hcp hb2 e1 e2 e3 hg
  go_wp2_with fail
  go_loopw [5] (fun i wr => ∃ (k : Nat) (r : List UInt8), k ≤ N ∧ i = .int .i64 k ∧ Copy wr w.heap.size g N r ∧ r.length = N ∧ (∀ j (h : j < r.length), j < k → r[j] = roomAt l j) ∧ Below w.heap.size w wr) (fun i _ => N - (intOf i).toNat)
  case atStart => exact ⟨0, List.replicate N 0, Nat.zero_le _, rfl, HC2.out, List.length_replicate .., fun j _ h => by omega, HB2.out⟩
  case round =>
    obtain ⟨k, r, hk, rfl, hc, hr, hall, hbel⟩ := hrel
    have HC := Lib.hid hc
    have HALL := Lib.hid hall
    have HBE := Lib.hid hbel
    clear hc hall hbel
    by_cases hlt : k < N
    · have x0 := HC.out.cells k (by omega)
      rw [Nat.zero_add] at x0
      have x1 := HC.out.free k (by omega)
      obtain ⟨y, hy⟩ := u8_wrap ((137 : Int) + (k : Int) - (l.length : Int))
      have HY := Lib.hid hy
      obtain ⟨W1, hW1⟩ : ∃ W1, W1 = wr.setCell ⟨g, k, none⟩ (.int .u8 (y.toNat : Int)) := ⟨_, rfl⟩
      have HC1 := Lib.hid (show Copy W1 w.heap.size g N (r.set k y) by rw [hW1]; exact HC.out.set k (by omega) y)
      have HB1 := Lib.hid (show Below w.heap.size w W1 by rw [hW1]; exact HBE.out.setCell hgl _)
      have HW1 := Lib.hid hW1
      have k0 : (0 : Int) ≤ (k : Int) := by omega
      have k1 : (k : Int) < (N : Int) := by omega
      clear hW1
      go_upto_region 7 with fail
      rw [← HW1.out]
      clear x0 x1 hy
      by_cases hkl : k < l.length
      · obtain ⟨b, o, rfl, hcb⟩ : ∃ b o, ao = some ⟨b, o, none⟩ ∧ ∀ i (h : i < l.length), W1.cell? ⟨b, o + i, none⟩ = some (.int .u8 (l[i].toNat : Int)) := by
          rcases HB.out.below HB1.out with h | h
          · rw [h] at hkl; simp at hkl
          · exact h
        have hck := hcb k hkl
        have hra := roomAt_in l k hkl
        obtain ⟨x, hx⟩ : ∃ x, x = l[k] := ⟨_, rfl⟩
        rw [← hx] at hck hra
        have HRA := Lib.hid hra
        have x0 := HC1.out.cells k (by rw [List.length_set]; omega)
        rw [Nat.zero_add] at x0
        have x1 := HC1.out.free k (by rw [List.length_set]; omega)
        obtain ⟨W2, hW2⟩ : ∃ W2, W2 = W1.setCell ⟨g, k, none⟩ (.int .u8 (x.toNat : Int)) := ⟨_, rfl⟩
        have HC3 := Lib.hid (show Copy W2 w.heap.size g N ((r.set k y).set k x) by rw [hW2]; exact HC1.out.set k (by rw [List.length_set]; omega) x)
        have HB3 := Lib.hid (show Below w.heap.size w W2 by rw [hW2]; exact HB1.out.setCell hgl _)
        have HW2 := Lib.hid hW2
        have l1 : (k : Int) < (l.length : Int) := by omega
        clear hcb hx hra hW2
        go_upto_region 5 with fail
        rw [← HW2.out]
        clear x0 x1 hck
        go_wp2_with fail
        go_roundw
        case rel =>
          refine ⟨k + 1, (r.set k y).set k x, by omega, by go_num, HC3.out, by rw [List.length_set, List.length_set]; exact hr, fun j h hj => ?_, HB3.out⟩
          rw [List.length_set, List.length_set] at h
          by_cases e : k = j
          · subst e
            rw [HRA.out]
            simp
          · simp only [List.getElem_set, e, if_false]
            exact HALL.out j h (by omega)
        case measure => simp [intOf]; omega
      · have hra : roomAt l k = y := by
          have h := HY.out
          have e : (137 : Int) + (k : Int) - (l.length : Int) = ((137 + k - l.length : Nat) : Int) := by omega
          rw [e, wrap_u8_nat] at h
          unfold roomAt
          rw [if_neg hkl]
          exact UInt8.toNat_inj.1 (by omega)
        have HRA := Lib.hid hra
        have l1 : ¬ (k : Int) < (l.length : Int) := by omega
        clear hra
        go_wp2_with fail
        go_roundw
        case rel =>
          refine ⟨k + 1, r.set k y, by omega, by go_num, HC1.out, by rw [List.length_set]; exact hr, fun j h hj => ?_, HB1.out⟩
          rw [List.length_set] at h
          by_cases e : k = j
          · subst e
            rw [HRA.out]
            simp
          · simp only [List.getElem_set, e, if_false]
            exact HALL.out j h (by omega)
        case measure => simp [intOf]; omega
    · have hkN : k = N := by omega
      subst hkN
      go_wp2_with fail
      go_ret
      exact ⟨g, k, r, rfl, HC.out, hr, fun i h => HALL.out i h (by omega), HBE.out⟩
end Go.Proofs.YtekaimfabadclaaDoor
/- The laws' mark, wide: an event whose values have marks behind them. -/
namespace Go.Proofs.YtekaimfabadclaaDoor
open Go Go.RowKit

def markV (z : Int) : Val := ⟨1, 77 + z, ⟨#[]⟩, false⟩
def wideAt (l : List Val) (i : Nat) : Val := if i < l.length then l.getD i zeroVal else markV ((i : Int) - (l.length : Int))
theorem wideAt_in (l : List Val) (i : Nat) (h : i < l.length) : wideAt l i = l[i] := by simp [wideAt, h]
theorem wideAt_out (l : List Val) (i : Nat) (h : ¬ i < l.length) : wideAt l i = markV ((i : Int) - (l.length : Int)) := by simp [wideAt, h]

set_option maxRecDepth 100000 in
theorem mark_any (z : Int) (w : World) (h1 : -1000000000000000 ≤ z) (h2 : z ≤ 1000000000000000) : Calls Tryd.prog 54 #[.int .i64 z] w fun en w' => en = .returned (.agg #[.int .i64 1, .int .i64 (77 + z), .string ⟨#[]⟩, .bool false]) ∧ Below w.heap.size w w' := by
  obtain ⟨W1, hW1⟩ : ∃ W1, W1 = w.alloc (Obj.cells #[.int .i64 0, .int .i64 0, .string ⟨#[]⟩, .bool false] 95) := ⟨_, rfl⟩
  have HB1 := Lib.hid (show Below w.heap.size w W1 by rw [hW1]; exact (Below.refl _ _).alloc (Nat.le_refl _) _)
  have HC := Lib.hid (show Cells4 W1 w.heap.size (.int .i64 0) (.int .i64 0) (.string ⟨#[]⟩) (.bool false) by rw [hW1]; exact Cells4.made _ _ _ _ _ _)
  have HW1 := Lib.hid hW1
  have a0 := HC.out.c0
  have b0 := HC.out.f0
  have a1 := HC.out.c1
  have b1 := HC.out.f1
  have a2 := HC.out.c2
  have b2 := HC.out.f2
  have a3 := HC.out.c3
  have b3 := HC.out.f3
  clear hW1
  go_enter Tryd.func54, Tryd.ntmps54
  go_upto_region 1 with fail
  rw [← HW1.out]
  go_wp2_with fail
  refine bodyPost_ret (v := .agg #[.int .i64 1, .int .i64 (77 + z), .string ⟨#[]⟩, .bool false]) (by simp [results, Tryd.results54, go_sem, a0, a1, a2, a3]) rfl ⟨rfl, ?_⟩
  exact (((HB1.out.setCell (Nat.le_refl _) _).setCell (Nat.le_refl _) _).setCell (Nat.le_refl _) _).setCell (Nat.le_refl _) _

/-- A row of values of the call's own. -/
structure VRow (w : World) (B g : Nat) (r : List Val) : Prop where
  c : ∀ i (h : i < r.length), w.cell? ⟨g, i * 4, none⟩ = some (.int .i64 r[i].kind) ∧ w.cell? ⟨g, i * 4 + 1, none⟩ = some (.int .i64 r[i].int) ∧ w.cell? ⟨g, i * 4 + 2, none⟩ = some (.string r[i].str) ∧ w.cell? ⟨g, i * 4 + 3, none⟩ = some (.bool r[i].bool)
  f : ∀ j, j < r.length * 4 → w.frozen? ⟨g, j, none⟩ = false
  lo : B ≤ g
  lt : g < w.heap.size
theorem VRow.keep {w w' : World} {B g : Nat} {r : List Val} (h : VRow w B g r) (hk : w'.heap[g]? = w.heap[g]?) (hs : w.heap.size ≤ w'.heap.size) : VRow w' B g r := by
  have e : ∀ j : Nat, w'.cell? ⟨g, j, none⟩ = w.cell? ⟨g, j, none⟩ := fun j => World.cell?_of_block (w := w) hk
  refine ⟨fun i hi => ?_, fun j hj => (World.frozen?_of_block (w := w) (a := ⟨g, j, none⟩) hk).trans (h.f j hj), h.lo, Nat.lt_of_lt_of_le h.lt hs⟩
  have hc := h.c i hi
  exact ⟨(e _).trans hc.1, (e _).trans hc.2.1, (e _).trans hc.2.2.1, (e _).trans hc.2.2.2⟩
theorem VRow.below {w w' : World} {B g : Nat} {r : List Val} (h : VRow w B g r) (hb : Below w.heap.size w w') : VRow w' B g r := h.keep (hb.block g h.lt) hb.size
theorem VRow.at' {w : World} {B g : Nat} {r : List Val} (h : VRow w B g r) : ValsIn w.heap.size w (some ⟨g, 0, none⟩) r := by
  refine Or.inr ⟨g, 0, rfl, h.lt, fun i hi => ?_⟩
  have := h.c i hi
  rw [Nat.zero_add]
  exact this
theorem ValsIn.take {B : Nat} {w : World} {ao : Option Addr} {l : List Val} (h : ValsIn B w ao l) (n : Nat) : ValsIn B w ao (l.take n) := by
  rcases h with h | ⟨b, o, rfl, h1, h2⟩
  · exact Or.inl (by rw [h]; simp)
  · refine Or.inr ⟨b, o, rfl, h1, fun i hi => ?_⟩
    have hi' : i < l.length := by rw [List.length_take] at hi; omega
    rw [List.getElem_take]
    exact h2 i hi'
def storeV (w : World) (g j : Nat) (v : Val) : World := (((w.setCell ⟨g, j * 4, none⟩ (.int .i64 v.kind)).setCell ⟨g, j * 4 + 1, none⟩ (.int .i64 v.int)).setCell ⟨g, j * 4 + 2, none⟩ (.string v.str)).setCell ⟨g, j * 4 + 3, none⟩ (.bool v.bool)
theorem storeV_below {w wE : World} {g j E : Nat} {v : Val} (hb : Below E wE w) (h : E ≤ g) : Below E wE (storeV w g j v) :=
  (((hb.setCell h _).setCell h _).setCell h _).setCell h _
theorem storeV_size (w : World) (g j : Nat) (v : Val) : (storeV w g j v).heap.size = w.heap.size := by simp [storeV, World.setCell]
theorem set_ne {w : World} {g p q : Nat} {v : Value} (h : p ≠ q) : (w.setCell ⟨g, p, none⟩ v).cell? ⟨g, q, none⟩ = w.cell? ⟨g, q, none⟩ :=
  World.cell?_setCell_other _ _ _ _ (by intro e; injection e with _ e _; exact h e)
theorem VRow.set {w : World} {B g : Nat} {r : List Val} (h : VRow w B g r) (k : Nat) (hk : k < r.length) (a : Val) : VRow (storeV w g k a) B g (r.set k a) := by
  obtain ⟨k0, k1, k2, k3⟩ := h.c k hk
  refine ⟨fun i hi => ?_, fun j hj => ?_, h.lo, by rw [storeV_size]; exact h.lt⟩
  · rw [List.length_set] at hi
    obtain ⟨i0, i1, i2, i3⟩ := h.c i hi
    unfold storeV
    by_cases e : k = i
    · subst e
      rw [List.getElem_set_self]
      refine ⟨?_, ?_, ?_, ?_⟩
      · rw [set_ne (by omega), set_ne (by omega), set_ne (by omega)]
        exact World.cell?_setCell_same _ _ _ k0
      · rw [set_ne (by omega), set_ne (by omega)]
        exact World.cell?_setCell_same _ _ _ ((set_ne (by omega)).trans k1)
      · rw [set_ne (by omega)]
        exact World.cell?_setCell_same _ _ _ ((set_ne (by omega)).trans ((set_ne (by omega)).trans k2))
      · exact World.cell?_setCell_same _ _ _ ((set_ne (by omega)).trans ((set_ne (by omega)).trans ((set_ne (by omega)).trans k3)))
    · rw [List.getElem_set_ne e]
      refine ⟨?_, ?_, ?_, ?_⟩
      · rw [set_ne (by omega), set_ne (by omega), set_ne (by omega), set_ne (by omega)]; exact i0
      · rw [set_ne (by omega), set_ne (by omega), set_ne (by omega), set_ne (by omega)]; exact i1
      · rw [set_ne (by omega), set_ne (by omega), set_ne (by omega), set_ne (by omega)]; exact i2
      · rw [set_ne (by omega), set_ne (by omega), set_ne (by omega), set_ne (by omega)]; exact i3
  · rw [List.length_set] at hj
    unfold storeV
    rw [World.frozen?_setCell, World.frozen?_setCell, World.frozen?_setCell, World.frozen?_setCell]
    exact h.f j hj
theorem made_four (z0 z1 z2 z3 : Value) (N i r : Nat) (hi : i < N) (hr : r < 4) : (madeCells #[z0, z1, z2, z3] (N * 4)).toList[i * 4 + r]? = #[z0, z1, z2, z3][r]? := by
  unfold madeCells
  have e : (i * 4 + r) % 4 = r := by omega
  have h4 : (#[z0, z1, z2, z3] : Array Value).size = 4 := rfl
  have hlt : i * 4 + r < N * 4 := by omega
  rw [Array.getElem?_toList, Array.getElem?_map, Array.getElem?_range]
  simp only [hlt, h4, if_true, Option.map_some, e]
  rcases r with _ | _ | _ | _ | r
  · rfl
  · rfl
  · rfl
  · rfl
  · omega
theorem vrow_made {w : World} {B g N : Nat} (h : w.ownsRow B 95 4 (.slice (some ⟨g, 0, none⟩) N N) N (madeCells #[.int .i64 0, .int .i64 0, .string ⟨#[]⟩, .bool false] (N * 4)).toList) : VRow w B g (List.replicate N zeroVal) := by
  rcases h.2 with ⟨e, _⟩ | ⟨g', cap, cur, e, hb, hh, hn, hc, hs, ht⟩
  · cases e
  · injection e with e1 e2 e3
    injection e1 with e1
    injection e1 with e1
    subst e1
    have hget : ∀ i r, i < N → r < 4 → w.cell? ⟨g, i * 4 + r, none⟩ = #[Value.int .i64 0, .int .i64 0, .string ⟨#[]⟩, .bool false][r]? := by
      intro i r hi hr
      have hg := made_four (.int .i64 0) (.int .i64 0) (.string ⟨#[]⟩) (.bool false) N i r hi hr
      rw [← ht, List.getElem?_take, if_pos (by omega)] at hg
      rw [cell_of_row w g _ _ _ (0, 0) hh]
      simpa using hg
    refine ⟨fun i hi => ?_, fun j hj => by simp [World.frozen?, hh], hb, (Array.getElem?_eq_some_iff.1 hh).1⟩
    have hi' : i < N := by rw [List.length_replicate] at hi; exact hi
    rw [List.getElem_replicate]
    exact ⟨hget i 0 hi' (by omega), hget i 1 hi' (by omega), hget i 2 hi' (by omega), hget i 3 hi' (by omega)⟩
end Go.Proofs.YtekaimfabadclaaDoor
/- The laws' wide and tight, for every event. -/
namespace Go.Proofs.YtekaimfabadclaaDoor
open Go Go.RowKit

/-- What wide answers. -/
def WideTo (e : Ev) (w : World) (en : Ending) (w' : World) : Prop :=
  ∃ g r, en = .returned (.tuple #[evV e (some ⟨g, 0, none⟩) (e.vals.length + 34), .slice (some ⟨g, 0, none⟩) (e.vals.length + 34) (e.vals.length + 34)]) ∧ VRow w' w.heap.size g r ∧ r.length = e.vals.length + 34 ∧ (∀ i (h : i < r.length), r[i] = wideAt e.vals i) ∧ Below w.heap.size w w'

set_option maxHeartbeats 8000000 in
set_option maxRecDepth 100000 in
theorem wide_any (e : Ev) (va : Option Addr) (cap : Nat) (w : World) (hva : ValsIn w.heap.size w va e.vals) (hn : e.vals.length ≤ 3518437208780) :
    Calls Tryd.prog 26 #[evV e va cap] w (WideTo e w) := by
  obtain ⟨i0, hi0, hz0, hz1, hz2⟩ := info_parts Tryd.infoVal
  obtain ⟨W1, hW1⟩ : ∃ W1, W1 = (w.alloc (Obj.cells #[.string e.ty, .int .i64 e.time, .slice va e.vals.length cap] 24)).alloc (Obj.cells #[.string ⟨#[]⟩, .int .i64 0, .slice none 0 0] 24) := ⟨_, rfl⟩
  have hb1 : Below w.heap.size w W1 := by rw [hW1]; exact ((Below.refl _ _).alloc (Nat.le_refl _) _).alloc (by simp) _
  have HB1 := Lib.hid hb1
  have hz1' : w.heap.size + 1 + 1 = W1.heap.size := by rw [hW1]; simp
  have HV1 := Lib.hid (hva.below hb1 (Nat.le_refl _))
  have hyA : W1.heap[w.heap.size + 1]? = some (Obj.cells #[.string ⟨#[]⟩, .int .i64 0, .slice none 0 0] 24 (0, 0)) := by
    have := heap_alloc_new (w.alloc (Obj.cells #[.string e.ty, .int .i64 e.time, .slice va e.vals.length cap] 24)) (Obj.cells #[.string ⟨#[]⟩, .int .i64 0, .slice none 0 0] 24)
    rw [World.size_alloc] at this
    rw [hW1]
    exact this
  have HE := Lib.hid (show Cells3 W1 w.heap.size (.string e.ty) (.int .i64 e.time) (.slice va e.vals.length cap) by rw [hW1]; exact (Cells3.made _ _ _ _ _).keep (Below.heap_alloc _ _ _ (by simp)))
  have HA := Lib.hid (Cells3.of hyA)
  have HW1 := Lib.hid hW1
  obtain ⟨ty, tm, vals⟩ := e
  simp only [evV] at *
  have c2 := HE.out.c2
  obtain ⟨N, hN⟩ : ∃ N, N = vals.length + 34 := ⟨_, rfl⟩
  have hN1 : (vals.length : Int) + 34 = (N : Int) := by omega
  have hN2 : N ≤ 3518437208814 := by omega
  have hN3 : vals.length ≤ N := by omega
  have HN := Lib.hid hN
  have HZ1 := Lib.hid hz1'
  have hzw : w.heap.size + 1 < W1.heap.size := by omega
  clear hva hb1 hW1 hyA hN hz1'
  go_enter Tryd.func26, Tryd.ntmps26
  go_upto_region 1 with fail
  rw [← HW1.out]
  go_upto_region 3 with (at_make; refine wpList_make_full _ rfl _ _ 22 rfl W1.heap.size 95 i0 _ 4 Tryd.underlying22 hi0 hz0 hz1 .i64 .i64 _ _ N rfl rfl (by first | rfl | exact hN1) (by first | rfl | exact hN1) (by rw [hz2]; omega) (by unfold maxLen; omega) (Nat.le_refl _) ?_; intro w2 hown2 hgrow2)
  obtain ⟨g, hg⟩ : ∃ g, g = W1.heap.size := ⟨_, rfl⟩
  have HC2 := Lib.hid (show VRow w2 W1.heap.size g (List.replicate N zeroVal) by rw [hg]; exact vrow_made hown2)
  have hb2 : Below W1.heap.size W1 w2 := below_of_grown hgrow2 rfl
  have HB2 := Lib.hid hb2
  have hgl : W1.heap.size ≤ g := by omega
  rw [← hg]
  have HG := Lib.hid hg
  clear hown2 hgrow2 hb2 hg
  go_wp2_with fail
  have HE2 := Lib.hid (HE.out.below HB2.out)
  have HA2 := Lib.hid (HA.out.below HB2.out)
  have HV2 := Lib.hid ((HV1.out.below HB2.out (by omega)).mono (show w.heap.size ≤ W1.heap.size by omega))
  have l2 : (vals.length : Int) ≤ 3518437208780 := by omega
  have hgr : W1.heap.size ≤ w2.heap.size := HB2.out.size
  clear c2
  go_loopw [6] (fun i wr => ∃ (k : Nat) (r : List Val), k ≤ N ∧ i = .int .i64 k ∧ VRow wr W1.heap.size g r ∧ r.length = N ∧ (∀ j (h : j < r.length), j < k → r[j] = wideAt vals j) ∧ Below W1.heap.size W1 wr) (fun i _ => N - (intOf i).toNat)
  case atStart => exact ⟨0, List.replicate N zeroVal, Nat.zero_le _, rfl, HC2.out, List.length_replicate .., fun j _ h => by omega, HB2.out⟩
  case round =>
    obtain ⟨k, r, hk, rfl, hc, hr, hall, hbel⟩ := hrel
    have HC := Lib.hid hc
    have HALL := Lib.hid hall
    have HBE := Lib.hid hbel
    have HR := Lib.hid hr
    have HEr := Lib.hid (HE.out.below hbel)
    have HVr := Lib.hid (HV1.out.below hbel (by omega))
    have zr := hbel.size
    clear hc hall hbel hr
    by_cases hlt : k < N
    · have k0 : (0 : Int) ≤ (k : Int) := by omega
      have k1 : (k : Int) < (N : Int) := by omega
      have hMK := Lib.hid (mark_any ((k : Int) - (vals.length : Int)) wr (by omega) (by omega))
      go_wp2_with fail
      (with_reducible refine hMK.out.mono ?_); rintro en w3 ⟨rfl, hb3⟩
      have HC3 := Lib.hid (HC.out.below hb3)
      have HB3 := Lib.hid (HBE.out.trans (hb3.mono zr))
      obtain ⟨x0, x1, x2, x3⟩ := HC3.out.c k (by have := HR.out; omega)
      have f0 := HC3.out.f (k * 4) (by have := HR.out; omega)
      have f1 := HC3.out.f (k * 4 + 1) (by have := HR.out; omega)
      have f2 := HC3.out.f (k * 4 + 2) (by have := HR.out; omega)
      have f3 := HC3.out.f (k * 4 + 3) (by have := HR.out; omega)
      clear hb3
      obtain ⟨W4, hW4⟩ : ∃ W4, W4 = storeV w3 g k (markV ((k : Int) - (vals.length : Int))) := ⟨_, rfl⟩
      have HC4 := Lib.hid (show VRow W4 W1.heap.size g (r.set k (markV ((k : Int) - (vals.length : Int)))) by rw [hW4]; exact HC3.out.set k (by have := HR.out; omega) _)
      have HB4 := Lib.hid (show Below W1.heap.size W1 W4 by rw [hW4]; exact storeV_below HB3.out hgl)
      unfold storeV markV at hW4
      simp only at hW4
      have HW4 := Lib.hid hW4
      clear hW4
      go_upto_region 7 with fail
      rw [← HW4.out]
      clear x0 x1 x2 x3 f0 f1 f2 f3
      have HEr4 := Lib.hid (HE.out.below HB4.out)
      by_cases hkl : k < vals.length
      · have l1 : (k : Int) < (vals.length : Int) := by omega
        obtain ⟨b, o, rfl, hbB, hc4⟩ : ∃ b o, va = some ⟨b, o, none⟩ ∧ b < w.heap.size ∧ ∀ i (h : i < vals.length), W4.cell? ⟨b, o + i * 4, none⟩ = some (.int .i64 vals[i].kind) ∧ W4.cell? ⟨b, o + i * 4 + 1, none⟩ = some (.int .i64 vals[i].int) ∧ W4.cell? ⟨b, o + i * 4 + 2, none⟩ = some (.string vals[i].str) ∧ W4.cell? ⟨b, o + i * 4 + 3, none⟩ = some (.bool vals[i].bool) := by
          rcases HV1.out.below HB4.out (by omega) with h | h
          · rw [h] at hkl; simp at hkl
          · exact h
        obtain ⟨v0, v1, v2, v3⟩ := hc4 k hkl
        have HRA := Lib.hid (wideAt_in vals k hkl)
        obtain ⟨⟨vk, vi, vs, vb⟩, hv⟩ : ∃ a, a = vals[k] := ⟨_, rfl⟩
        rw [← hv] at v0 v1 v2 v3 HRA
        simp only at v0 v1 v2 v3
        clear hc4 hv
        have c2 := HEr4.out.c2
        have hrl : k < (r.set k (markV ((k : Int) - (vals.length : Int)))).length := by rw [List.length_set]; have := HR.out; omega
        obtain ⟨x0, x1, x2, x3⟩ := HC4.out.c k hrl
        have f0 := HC4.out.f (k * 4) (by omega)
        have f1 := HC4.out.f (k * 4 + 1) (by omega)
        have f2 := HC4.out.f (k * 4 + 2) (by omega)
        have f3 := HC4.out.f (k * 4 + 3) (by omega)
        rw [List.getElem_set_self] at x0 x1 x2 x3
        obtain ⟨W5, hW5⟩ : ∃ W5, W5 = storeV W4 g k ⟨vk, vi, vs, vb⟩ := ⟨_, rfl⟩
        have HC5 := Lib.hid (show VRow W5 W1.heap.size g ((r.set k (markV ((k : Int) - (vals.length : Int)))).set k ⟨vk, vi, vs, vb⟩) by rw [hW5]; exact HC4.out.set k hrl _)
        have HB5 := Lib.hid (show Below W1.heap.size W1 W5 by rw [hW5]; exact storeV_below HB4.out hgl)
        unfold storeV at hW5
        simp only at hW5
        have HW5 := Lib.hid hW5
        clear hW5 hrl
        go_upto_region 5 with fail
        rw [← HW5.out]
        clear x0 x1 x2 x3 f0 f1 f2 f3 v0 v1 v2 v3 c2
        go_wp2_with fail
        go_roundw
        case rel =>
          refine ⟨k + 1, (r.set k (markV ((k : Int) - (vals.length : Int)))).set k ⟨vk, vi, vs, vb⟩, by omega, by go_num, HC5.out, by rw [List.length_set, List.length_set]; exact HR.out, fun j h hj => ?_, HB5.out⟩
          rw [List.length_set, List.length_set] at h
          by_cases e : k = j
          · subst e
            rw [HRA.out]
            simp
          · simp only [List.getElem_set, e, if_false]
            exact HALL.out j h (by omega)
        case measure => simp [intOf]; omega
      · have l1 : ¬ (k : Int) < (vals.length : Int) := by omega
        have HRA := Lib.hid (wideAt_out vals k hkl)
        go_wp2_with fail
        go_roundw
        case rel =>
          refine ⟨k + 1, r.set k (markV ((k : Int) - (vals.length : Int))), by omega, by go_num, HC4.out, by rw [List.length_set]; exact HR.out, fun j h hj => ?_, HB4.out⟩
          rw [List.length_set] at h
          by_cases e : k = j
          · subst e
            rw [HRA.out]
            simp
          · simp only [List.getElem_set, e, if_false]
            exact HALL.out j h (by omega)
        case measure => simp [intOf]; omega
    · have k1 : ¬ (k : Int) < (N : Int) := by omega
      have HAr := Lib.hid (HA.out.below HBE.out)
      have c2 := HEr.out.c2
      have g2 := HEr.out.f2
      have hne : w.heap.size + 1 ≠ w.heap.size := by omega
      obtain ⟨W5, hW5⟩ : ∃ W5, W5 = wr.setCell ⟨w.heap.size, 2, none⟩ (.slice (some ⟨g, 0, none⟩) vals.length N) := ⟨_, rfl⟩
      have HE5 := Lib.hid (show Cells3 W5 w.heap.size (.string ty) (.int .i64 tm) (.slice (some ⟨g, 0, none⟩) vals.length N) by rw [hW5]; exact HEr.out.set2 _)
      have HA5 := Lib.hid (show Cells3 W5 (w.heap.size + 1) (.string ⟨#[]⟩) (.int .i64 0) (.slice none 0 0) by rw [hW5]; exact HAr.out.other (a := ⟨w.heap.size, 2, none⟩) hne _)
      have HC5 := Lib.hid (show VRow W5 W1.heap.size g r by rw [hW5]; exact HC.out.keep (Below.heap_setCell _ _ _ _ (by simp only; omega)) (by simp [World.setCell]))
      have HB5 := Lib.hid (show Below w.heap.size w W5 by rw [hW5]; exact (HB1.out.trans (HBE.out.mono (by omega))).setCell (Nat.le_refl _) _)
      have HW5 := Lib.hid hW5
      have HRR := Lib.hid (show ∀ i (h : i < r.length), r[i] = wideAt vals i from fun i h => HALL.out i h (by have := HR.out; omega))
      clear hW5
      go_upto_region 10 with fail
      rw [← HW5.out]
      clear c2 g2
      have e0 := HE5.out.c0
      have e1 := HE5.out.c1
      have e2 := HE5.out.c2
      have a0 := HA5.out.c0
      have a1 := HA5.out.c1
      have a2 := HA5.out.c2
      have b0 := HA5.out.f0
      have b1 := HA5.out.f1
      have b2 := HA5.out.f2
      go_wp2_with fail
      refine bodyPost_ret (v := .tuple #[.agg #[.string ty, .int .i64 tm, .slice (some ⟨g, 0, none⟩) vals.length N], .slice (some ⟨g, 0, none⟩) N N]) (by simp [results, Tryd.results26, go_sem, a0, a1, a2]) rfl ⟨g, r, by simp only [evV, HN.out], ?_, by rw [HR.out, HN.out], HRR.out, ?_⟩
      · have h := HC5.out
        exact ⟨((h.keep (w' := ((W5.setCell ⟨w.heap.size + 1, 0, none⟩ (.string ty)).setCell ⟨w.heap.size + 1, 1, none⟩ (.int .i64 tm)).setCell ⟨w.heap.size + 1, 2, none⟩ (.slice (some ⟨g, 0, none⟩) vals.length N)) (by rw [Below.heap_setCell _ _ _ _ (by simp only; omega), Below.heap_setCell _ _ _ _ (by simp only; omega), Below.heap_setCell _ _ _ _ (by simp only; omega)]) (by simp [World.setCell]))).c, ((h.keep (w' := ((W5.setCell ⟨w.heap.size + 1, 0, none⟩ (.string ty)).setCell ⟨w.heap.size + 1, 1, none⟩ (.int .i64 tm)).setCell ⟨w.heap.size + 1, 2, none⟩ (.slice (some ⟨g, 0, none⟩) vals.length N)) (by rw [Below.heap_setCell _ _ _ _ (by simp only; omega), Below.heap_setCell _ _ _ _ (by simp only; omega), Below.heap_setCell _ _ _ _ (by simp only; omega)]) (by simp [World.setCell]))).f, by omega, by simp [World.setCell]; exact h.lt⟩
      · exact ((HB5.out.setCell (by simp) _).setCell (by simp) _).setCell (by simp) _
end Go.Proofs.YtekaimfabadclaaDoor
/- The laws' tight, at what wide made. -/
namespace Go.Proofs.YtekaimfabadclaaDoor
open Go Go.RowKit

theorem wide_take {l r : List Val} (hr : r.length = l.length + 34) (h : ∀ i (h : i < r.length), r[i] = wideAt l i) : r.take l.length = l := by
  apply List.ext_getElem
  · rw [List.length_take, hr]; omega
  · intro i h1 h2
    rw [List.getElem_take, h i (by omega), wideAt_in l i h2]

set_option maxHeartbeats 8000000 in
set_option maxRecDepth 100000 in
theorem tight_any (B : Nat) (e : Ev) (va : Option Addr) (cap g : Nat) (r : List Val) (w : World) (hva : ValsIn w.heap.size w va e.vals) (hn : e.vals.length ≤ 3518437208780) (hg : VRow w B g r) (hr : r.length = e.vals.length + 34) (hall : ∀ i (h : i < r.length), r[i] = wideAt e.vals i) :
    Calls Tryd.prog 28 #[.slice (some ⟨g, 0, none⟩) (e.vals.length + 34) (e.vals.length + 34), evV e va cap] w fun en w' => en = .returned (.bool true) ∧ Below w.heap.size w w' := by
  obtain ⟨W1, hW1⟩ : ∃ W1, W1 = w.alloc (Obj.cells #[.string e.ty, .int .i64 e.time, .slice va e.vals.length cap] 24) := ⟨_, rfl⟩
  have hb1 : Below w.heap.size w W1 := by rw [hW1]; exact (Below.refl _ _).alloc (Nat.le_refl _) _
  have HB1 := Lib.hid hb1
  have hz1 : w.heap.size < W1.heap.size := by rw [hW1]; simp
  have HV1 := Lib.hid (hva.below hb1 (Nat.le_refl _))
  have HG1 := Lib.hid (hg.below hb1)
  have HE := Lib.hid (show Cells3 W1 w.heap.size (.string e.ty) (.int .i64 e.time) (.slice va e.vals.length cap) by rw [hW1]; exact Cells3.made _ _ _ _ _)
  have HW1 := Lib.hid hW1
  have HTK := Lib.hid (wide_take hr hall)
  have HALL := Lib.hid hall
  have HR := Lib.hid hr
  have hgw := hg.lt
  obtain ⟨ty, tm, vals⟩ := e
  simp only [evV] at *
  have c2 := HE.out.c2
  obtain ⟨N, hN⟩ : ∃ N, N = vals.length + 34 := ⟨_, rfl⟩
  have hN1 : (vals.length : Int) + 34 = (N : Int) := by omega
  have e1 : IntKind.i64.wrap (N : Int) = (N : Int) := IntWalk.i64_in _ (by omega)
  have hN2 : N ≤ 3518437208814 := by omega
  have hN3 : vals.length ≤ N := by omega
  have l1 : (vals.length : Int) ≤ (N : Int) := by omega
  have l0 : (0 : Int) ≤ (vals.length : Int) := by omega
  have l2 : (vals.length : Int) ≤ 3518437208780 := by omega
  rw [← hN]
  have HN := Lib.hid hN
  have HVS := Lib.hid (fun (W : World) (hb : Below W1.heap.size W1 W) => vals_same W.heap.size W.heap.size vals (some ⟨g, 0, none⟩) va N cap W (by unfold maxLen; omega) (by have h := ((HG1.out.below hb).at').take vals.length; rw [HTK.out] at h; exact h) (((HV1.out.below hb (by omega)).mono (by have := hb.size; omega))))
  clear hva hb1 hW1 hg hr hall hN
  go_enter Tryd.func28, Tryd.ntmps28
  go_upto_region 1 with fail
  rw [← HW1.out]
  go_wp2_with fail
  go_region_held3 (fun w' => w'.cell? ⟨w.heap.size, 2, none⟩ = some (.slice va vals.length cap))
    (first
      | go_keep
      | exact c2')
    ((first
      | (go_at_call 50; (with_reducible refine (HVS.out _ (Below.refl W1.heap.size W1).drew).mono ?_); rintro en w4 ⟨rfl, hb4⟩; have hbD := (Below.refl W1.heap.size W1).drew.trans hb4; have c2' := (hbD.cell (p := ⟨w.heap.size, 2, none⟩) hz1).trans c2)))
  have HB4 := Lib.hid hbD
  have hz4 : W1.heap.size ≤ w4.heap.size := hbD.size
  clear hbD hb4 c2 c2' e1 HVS
  go_wp2_with fail
  go_loopw [6] (fun i wr => ∃ k : Nat, vals.length ≤ k ∧ k ≤ N ∧ i = .int .i64 k ∧ Below W1.heap.size W1 wr) (fun i _ => N - (intOf i).toNat)
  case atStart => exact ⟨vals.length, Nat.le_refl _, hN3, rfl, HB4.out⟩
  case round =>
    obtain ⟨k, hk0, hk, rfl, hbel⟩ := hrel
    have HBE := Lib.hid hbel
    have HGR := Lib.hid (HG1.out.below hbel)
    have zr := hbel.size
    have k0 : (0 : Int) ≤ (k : Int) := by omega
    clear hbel
    by_cases hlt : k < N
    · have k1 : (k : Int) < (N : Int) := by omega
      have hkr : k < r.length := by rw [HR.out, ← HN.out]; exact hlt
      obtain ⟨x0, x1, x2, x3⟩ := HGR.out.c k hkr
      rw [HALL.out k hkr, wideAt_out vals k (by omega)] at x0 x1 x2 x3
      unfold markV at x0 x1 x2 x3
      simp only at x0 x1 x2 x3
      have e1 : IntKind.i64.wrap ((k : Int) - (vals.length : Int)) = (k : Int) - (vals.length : Int) := IntWalk.i64_in _ (by omega)
      have HMK := Lib.hid (fun (W : World) => mark_any ((k : Int) - (vals.length : Int)) W (by omega) (by omega))
      have hgr : g < wr.heap.size := HGR.out.lt
      clear hkr
      go_wp2_with fail
      go_region_held3 (fun w' => w'.cell? ⟨g, k * 4, none⟩ = some (.int .i64 1) ∧ w'.cell? ⟨g, k * 4 + 1, none⟩ = some (.int .i64 (77 + ((k : Int) - (vals.length : Int)))) ∧ w'.cell? ⟨g, k * 4 + 2, none⟩ = some (.string ⟨#[]⟩) ∧ w'.cell? ⟨g, k * 4 + 3, none⟩ = some (.bool false))
        (first
          | go_keep
          | exact ⟨y0, y1, y2, y3⟩)
        ((first
          | (go_at_call 54; (with_reducible refine (HMK.out _).mono ?_); rintro en w5 ⟨rfl, hb5⟩; have hbD := (Below.refl wr.heap.size wr).drew.trans hb5; have y0 := (hbD.cell (p := ⟨g, k * 4, none⟩) hgr).trans x0; have y1 := (hbD.cell (p := ⟨g, k * 4 + 1, none⟩) hgr).trans x1; have y2 := (hbD.cell (p := ⟨g, k * 4 + 2, none⟩) hgr).trans x2; have y3 := (hbD.cell (p := ⟨g, k * 4 + 3, none⟩) hgr).trans x3)))
      all_goals
        have HB5 := Lib.hid (HBE.out.trans (hbD.mono zr))
        clear hb5 hbD y0 y1 y2 y3
        go_wp2_with fail
        go_roundw
        case rel => exact ⟨k + 1, by omega, by omega, by go_num, HB5.out⟩
        case measure => simp [intOf]; omega
    · have k1 : ¬ (k : Int) < (N : Int) := by omega
      go_wp2_with fail
      go_ret
      exact ⟨rfl, HB1.out.trans (HBE.out.mono (by omega))⟩
end Go.Proofs.YtekaimfabadclaaDoor
/- The walk of the law of numbers. -/
namespace Go.Proofs.YtekaimfabadclaaDoor
open Go Go.RowKit

structure RawX where
  l : List UInt8
  ao : Option Addr
  cap : Nat
def RawsIn (w : World) (ao : Option Addr) (l : List RawX) : Prop :=
  l = [] ∨ ∃ b o, ao = some ⟨b, o, none⟩ ∧ ∀ i (h : i < l.length), w.cell? ⟨b, o + i, none⟩ = some (.slice l[i].ao l[i].l.length l[i].cap) ∧ BytesAt w l[i].ao l[i].l
theorem RawsIn.below {w w' : World} {ao : Option Addr} {l : List RawX} (h : RawsIn w ao l) (hb : Below w.heap.size w w') : RawsIn w' ao l := by
  rcases h with h | ⟨b, o, rfl, h⟩
  · exact Or.inl h
  · exact Or.inr ⟨b, o, rfl, fun i hi => ⟨(hb.cell (p := ⟨b, o + i, none⟩) (World.block_lt_of_cell? w _ (h i hi).1)).trans (h i hi).1, (h i hi).2.below hb⟩⟩
def NumsAt (w : World) (ao : Option Addr) (l : List Int) : Prop :=
  l = [] ∨ ∃ b o, ao = some ⟨b, o, none⟩ ∧ ∀ i (h : i < l.length), w.cell? ⟨b, o + i, none⟩ = some (.int .i64 l[i])
theorem NumsAt.below {w w' : World} {ao : Option Addr} {l : List Int} (h : NumsAt w ao l) (hb : Below w.heap.size w w') : NumsAt w' ao l := by
  rcases h with h | ⟨b, o, rfl, h⟩
  · exact Or.inl h
  · exact Or.inr ⟨b, o, rfl, fun i hi => (hb.cell (p := ⟨b, o + i, none⟩) (World.block_lt_of_cell? w _ (h i hi))).trans (h i hi)⟩
theorem room_bytes {w : World} {B g c : Nat} {l r : List UInt8} (hc : Copy w B g c r) (hr : r.length = l.length + 66) (h : ∀ i (h : i < r.length), r[i] = roomAt l i) : BytesAt w (some ⟨g, 0, none⟩) l :=
  Or.inr ⟨g, 0, rfl, fun i hi => by
    have h1 := hc.cells i (by omega)
    rw [h i (by omega), roomAt_in l i hi] at h1
    exact h1⟩
theorem room_same {l r s : List UInt8} (hr : r.length = l.length + 66) (hs : s.length = l.length + 66) (h : ∀ i (h : i < r.length), r[i] = roomAt l i) (k : ∀ i (h : i < s.length), s[i] = roomAt l i) : r = s :=
  List.ext_getElem (by omega) fun i h1 h2 => by rw [h i h1, k i h2]

set_option maxHeartbeats 8000000 in
set_option maxRecDepth 100000 in
theorem ints_any (ns : List Int) (raws : List RawX) (no ro : Option Addr) (nc rc : Nat) (w : World) (hres : ResAt w) (hn : NumsAt w no ns) (hnb : ∀ n ∈ ns, -9223372036854775808 ≤ n ∧ n ≤ 9223372036854775807) (hnl : ns.length ≤ maxLen) (hr : RawsIn w ro raws) (hrb : ∀ x ∈ raws, x.l.length ≤ x.cap ∧ x.cap ≤ maxLen ∧ x.l.length ≤ 150000000000000) (hrl : raws.length ≤ maxLen) :
    Calls Tryd.prog 6 #[.slice no ns.length nc, .slice ro raws.length rc] w fun en w' => en = .returned (.bool true) ∧ Below w.heap.size w w' := by
  have HN := Lib.hid hn
  have HNB := Lib.hid hnb
  have HR := Lib.hid hr
  have HRB := Lib.hid hrb
  unfold maxLen at hnl hrl
  have HRS := Lib.hid hres
  clear hn hnb hr hrb hres
  go_enter Tryd.func6, Tryd.ntmps6
  go_wp2_with fail
  refine (begun_any w HRS.out).mono ?_; rintro en w1 ⟨rfl, hb1⟩
  have HB1 := Lib.hid hb1
  clear hb1
  go_wp2_with fail
  go_loopw [5] (fun i wr => ∃ k : Nat, k ≤ ns.length ∧ i = .int .i64 k ∧ Below w.heap.size w wr) (fun i _ => ns.length - (intOf i).toNat)
  case atStart => exact ⟨0, Nat.zero_le _, rfl, HB1.out⟩
  case round =>
    obtain ⟨k, hk, rfl, hbel⟩ := hrel
    have HBE := Lib.hid hbel
    clear hbel
    by_cases hlt : k < ns.length
    · obtain ⟨b, o, rfl, hc⟩ : ∃ b o, no = some ⟨b, o, none⟩ ∧ ∀ i (h : i < ns.length), wr.cell? ⟨b, o + i, none⟩ = some (.int .i64 ns[i]) := by
        rcases HN.out.below HBE.out with h | h
        · rw [h] at hlt; simp at hlt
        · exact h
      have hck := hc k hlt
      obtain ⟨v1, v2⟩ := HNB.out ns[k] (List.getElem_mem hlt)
      obtain ⟨n, hx⟩ : ∃ n, n = ns[k] := ⟨_, rfl⟩
      rw [← hx] at hck v1 v2
      have hpl := putB_le n v1 v2
      have hbl := World.block_lt_of_cell? wr _ hck
      have k0 : (0 : Int) ≤ (k : Int) := by omega
      have k1 : (k : Int) < (ns.length : Int) := by omega
      clear hc hx
      go_wp2_with fail
      refine (putInt_any n wr v1 v2).mono ?_; rintro en w2 ⟨u2, rfl, hx2⟩
      obtain ⟨a2, c2, rfl, hy2, _, _⟩ := owned_bytes hx2.own
      have HY2 := Lib.hid hy2
      have HF2 := Lib.hid hx2.fresh
      have hck2 := (hx2.fresh.cell (p := ⟨b, o + k, none⟩) hbl).trans hck
      clear hx2 hy2 hck
      go_wp2_with fail
      refine (refPut_any n w2 v1 v2).mono ?_; rintro en w3 ⟨u3, rfl, hx3⟩
      obtain ⟨a3, c3, rfl, hy3, _, _⟩ := owned_bytes hx3.own
      have HY3 := Lib.hid hy3
      have HF3 := Lib.hid hx3.fresh
      have HB3 := Lib.hid ((HBE.out.trans (HF2.out.mono HBE.out.size)).trans (HF3.out.mono (Nat.le_trans HBE.out.size HF2.out.size)))
      clear hx3 hy3 hck2
      go_wp2_with fail
      refine (same_same (putB n) a2 a3 c2 c3 w3 (by unfold maxLen; omega) (HY2.out.below HF3.out) HY3.out).mono ?_; rintro en w4 ⟨rfl, hb4⟩
      have HB4 := Lib.hid (HB3.out.trans (hb4.mono HB3.out.size))
      clear hb4
      go_wp2_with fail
      go_roundw
      case rel => exact ⟨k + 1, by omega, by go_num, HB4.out⟩
      case measure => simp [intOf]; omega
    · go_wp2_with fail
      go_loopw [7] (fun i wx => ∃ j : Nat, j ≤ raws.length ∧ i = .int .i64 j ∧ Below w.heap.size w wx) (fun i _ => raws.length - (intOf i).toNat)
      case atStart => exact ⟨0, Nat.zero_le _, rfl, HBE.out⟩
      case round =>
        obtain ⟨j, hj, rfl, hbel⟩ := hrel
        have HBJ := Lib.hid hbel
        clear hbel
        by_cases hjl : j < raws.length
        · obtain ⟨b, o, rfl, hc⟩ : ∃ b o, ro = some ⟨b, o, none⟩ ∧ ∀ i (h : i < raws.length), wr.cell? ⟨b, o + i, none⟩ = some (.slice raws[i].ao raws[i].l.length raws[i].cap) ∧ BytesAt wr raws[i].ao raws[i].l := by
            rcases HR.out.below HBJ.out with h | h
            · rw [h] at hjl; simp at hjl
            · exact h
          obtain ⟨hcj, hby⟩ := hc j hjl
          obtain ⟨q1, q2, q3⟩ := HRB.out raws[j] (List.getElem_mem hjl)
          obtain ⟨x, hx⟩ : ∃ x, x = raws[j] := ⟨_, rfl⟩
          rw [← hx] at hcj hby q1 q2 q3
          obtain ⟨l, xa, xc⟩ := x
          simp only at hcj hby q1 q2 q3
          have HBY := Lib.hid hby
          have hbl := World.block_lt_of_cell? wr _ hcj
          have j0 : (0 : Int) ≤ (j : Int) := by omega
          have j1 : (j : Int) < (raws.length : Int) := by omega
          have HCJ := Lib.hid hcj
          clear hc hx hby
          go_wp2_with fail
          refine (roomy_any l xa xc wr HBY.out q1 q3).mono ?_; rintro en w2 ⟨g2, c2, r2, rfl, hc2, hr2, ha2, hb2⟩
          have HC2 := Lib.hid hc2
          have HA2 := Lib.hid ha2
          have HB2 := Lib.hid hb2
          have hcj2 := (hb2.cell (p := ⟨b, o + j, none⟩) hbl).trans HCJ.out
          have hcl := hc2.len
          have hcm := hc2.cap
          have HLR := Lib.hid hr2
          have l0 : (0 : Int) ≤ (l.length : Int) := by omega
          have l1 : (l.length : Int) ≤ (c2 : Int) := by omega
          have l2 : l.length ≤ c2 := by omega
          clear hc2 ha2 hb2 hcj hr2
          go_wp2_with fail
          refine (int_any l (some ⟨g2, 0, none⟩) c2 w2 (room_bytes HC2.out HLR.out HA2.out) (by unfold maxLen; omega)).mono ?_; rintro en w3 ⟨rfl, rfl⟩
          go_wp2_with fail
          refine (refInt_any l xa xc w2 (HBY.out.below HB2.out) q1 q2).mono ?_; rintro en w4 ⟨rfl, hb4⟩
          have HB4 := Lib.hid (HB2.out.trans (hb4.mono HB2.out.size))
          have HC4 := Lib.hid (HC2.out.below (by have := HLR.out; omega) hb4)
          have hcj4 := (HB4.out.cell (p := ⟨b, o + j, none⟩) hbl).trans HCJ.out
          have e1 : ((intB l).1 != (intB l).1) = false := by simp
          have e2 : (((intB l).2.1 : Int) != ((intB l).2.1 : Int)) = false := by simp
          have e3 : ((intB l).2.2 != (intB l).2.2) = false := by simp
          clear hb4 hcj2
          go_wp2_with fail
          refine (roomy_any l xa xc w4 (HBY.out.below HB4.out) q1 q3).mono ?_; rintro en w5 ⟨g5, c5, r5, rfl, hc5, hr5, ha5, hb5⟩
          have HC5 := Lib.hid hc5
          have hrs := room_same HLR.out hr5 HA2.out ha5
          have HC45 := Lib.hid (HC4.out.below (by have := HLR.out; omega) hb5)
          have HB5 := Lib.hid (HB4.out.trans (hb5.mono HB4.out.size))
          subst hrs
          have HSS := same_same r2 (some ⟨g2, 0, none⟩) (some ⟨g5, 0, none⟩) c2 c5 w5 (Nat.le_trans HC45.out.len HC45.out.cap) HC45.out.at' HC5.out.at'
          rw [HLR.out] at HSS
          have HS5 := Lib.hid HSS
          clear hc5 hr5 ha5 hb5 HSS hcj4
          go_wp2_with fail
          refine HS5.out.mono ?_; rintro en w6 ⟨rfl, hb6⟩
          have HB6 := Lib.hid (HBJ.out.trans ((HB5.out.trans (hb6.mono HB5.out.size)).mono HBJ.out.size))
          clear hb6
          go_wp2_with fail
          go_roundw
          case rel => exact ⟨j + 1, by omega, by go_num, HB6.out⟩
          case measure => simp [intOf]; omega
        · go_wp2_with fail
          go_ret
          exact ⟨rfl, HBJ.out⟩
end Go.Proofs.YtekaimfabadclaaDoor
/- Numbers and lists of bytes that came in. -/
namespace Go.Proofs.YtekaimfabadclaaDoor
open Go Go.ChangeShapes Go.WideShapes Go.ChangeAt Go.RowKit

theorem cellsBs : Tryd.prog.cellsOf 25 = 1 := by kernel_rfl
section
variable {H : Type} {enc : TypeId × Value → H} {W : World} {base : Nat} {spare : Nat → Bool} {held : Bool}
theorem spot_none {a : Addr} {v : Value} (h : W.cell? (a.add 0) = some v) : a.spot = none := by
  obtain ⟨b, o, sp⟩ := a
  cases sp with
  | none => rfl
  | some x =>
    simp [World.cell?, Addr.add] at h
    split at h <;> cases h
theorem add_none (b o k : Nat) : (⟨b, o, none⟩ : Addr).add k = ⟨b, o + k, none⟩ := by
  unfold Addr.add
  split
  · subst_vars; rfl
  · rfl
set_option maxRecDepth 100000 in
theorem nums_trod {fuel : Nat} {cs : List Value} {x : DataW H × List MemPlace} (h : DataW.trod enc Tryd.prog W base spare held fuel 46 cs = some x) :
    ∃ (l : List Int) (ao : Option Addr) (cap : Nat), cs = [.slice ao l.length cap] ∧ NumsAt W ao l ∧ l.length ≤ maxLen ∧ ∀ n ∈ l, -9223372036854775808 ≤ n ∧ n ≤ 9223372036854775807 := by
  rcases DataW.trod_slice Tryd.underlying46 h with ⟨h0, _⟩ | ⟨a, len, cap, elems, rest, n, _, rfl, rfl, hb, hl, hm, hlen, hel, _, _⟩
  · exact ⟨[], none, 0, h0, Or.inl rfl, by simp, by simp⟩
  · have each : ∀ i, i < len → ∃ v : Int, (-9223372036854775808 ≤ v ∧ v ≤ 9223372036854775807) ∧ W.cell? (a.add i) = some (.int .i64 v) := by
      intro i hi
      have h1 := hel i hi
      rw [List.getElem?_eq_getElem (by omega), cellsI64, Nat.mul_one] at h1
      cases hc : W.cells? base (a.add i) 1 with
      | none => rw [hc] at h1; cases h1
      | some c =>
        rw [hc] at h1
        obtain ⟨z, e0, _, wz⟩ := DataW.trod_int Tryd.underlying2 h1
        subst e0
        exact ⟨z, bounds_i64 wz, cell_of_cells?_one hc⟩
    obtain ⟨f, hf⟩ : ∃ f : Nat → Int, ∀ i, i < len → (-9223372036854775808 ≤ f i ∧ f i ≤ 9223372036854775807) ∧ W.cell? (a.add i) = some (.int .i64 (f i)) :=
      ⟨fun i => if h : i < len then (each i h).choose else 0, fun i hi => by simp only [hi, dif_pos]; exact (each i hi).choose_spec⟩
    have hll : ((List.range len).map f).length = len := by simp
    refine ⟨(List.range len).map f, some a, cap, by rw [hll], ?_, by rw [hll]; omega, ?_⟩
    · rcases Nat.eq_zero_or_pos len with h0 | h0
      · subst h0
        exact Or.inl rfl
      · have hs := spot_none (hf 0 h0).2
        obtain ⟨b, o, sp⟩ := a
        simp only at hs
        subst hs
        refine Or.inr ⟨b, o, rfl, fun i hi => ?_⟩
        have h3 := (hf i (by simpa using hi)).2
        rw [add_none] at h3
        simpa using h3
    · intro v hv
      obtain ⟨i, hi, rfl⟩ := List.mem_map.1 hv
      exact (hf i (by simpa using hi)).1
theorem weights_all {P : Program} {e : TypeId} : ∀ {l : List (DataW H)} {d : DataW H}, d ∈ l → ∀ n ∈ d.weights P e, n ∈ DataW.weightsAll P e l
  | x :: r, d, hd, n, hn => by
    simp only [DataW.weightsAll, List.mem_append]
    rcases List.mem_cons.1 hd with rfl | hd
    · exact Or.inl hn
    · exact Or.inr (weights_all hd n hn)
set_option maxRecDepth 100000 in
theorem raws_trod {fuel : Nat} {cs : List Value} {x : DataW H × List MemPlace} (h : DataW.trod enc Tryd.prog W base spare held fuel 47 cs = some x) :
    ∃ (l : List RawX) (ao : Option Addr) (cap : Nat), cs = [.slice ao l.length cap] ∧ RawsIn W ao l ∧ l.length ≤ maxLen ∧ ∀ y ∈ l, y.l.length ≤ y.cap ∧ y.cap ≤ maxLen ∧ ((∀ n ∈ x.1.weights Tryd.prog 47, n ≤ reachBytes) → y.l.length ≤ reachBytes) := by
  rcases DataW.trod_slice Tryd.underlying47 h with ⟨h0, _⟩ | ⟨a, len, cap, elems, rest, n, _, rfl, rfl, hb, hl, hm, hlen, hel, _, _⟩
  · exact ⟨[], none, 0, h0, Or.inl rfl, by simp, by simp⟩
  · have each : ∀ i, i < len → ∃ y : RawX, (y.l.length ≤ y.cap ∧ y.cap ≤ maxLen ∧ ((∀ n ∈ (DataW.slice (elems.map (·.1)) (rest.map (·.1))).weights Tryd.prog 47, n ≤ reachBytes) → y.l.length ≤ reachBytes)) ∧ W.cell? (a.add i) = some (.slice y.ao y.l.length y.cap) ∧ BytesAt W y.ao y.l := by
      intro i hi
      have h1 := hel i hi
      rw [List.getElem?_eq_getElem (by omega), cellsBs, Nat.mul_one] at h1
      cases hc : W.cells? base (a.add i) 1 with
      | none => rw [hc] at h1; cases h1
      | some c =>
        rw [hc] at h1
        obtain ⟨l, ao, cp, rfl, _, hy, q1, q2, q3⟩ := bytes_trod h1
        refine ⟨⟨l, ao, cp⟩, ⟨q1, q2, fun hw => q3 fun n hn => hw n ?_⟩, cell_of_cells?_one hc, hy⟩
        simp only [DataW.weights, Tryd.underlying47, List.mem_cons, List.mem_append]
        exact Or.inr (Or.inl (weights_all (List.mem_map_of_mem (List.getElem_mem (by omega))) n hn))
    obtain ⟨f, hf⟩ : ∃ f : Nat → RawX, ∀ i, i < len → ((f i).l.length ≤ (f i).cap ∧ (f i).cap ≤ maxLen ∧ ((∀ n ∈ (DataW.slice (elems.map (·.1)) (rest.map (·.1))).weights Tryd.prog 47, n ≤ reachBytes) → (f i).l.length ≤ reachBytes)) ∧ W.cell? (a.add i) = some (.slice (f i).ao (f i).l.length (f i).cap) ∧ BytesAt W (f i).ao (f i).l :=
      ⟨fun i => if h : i < len then (each i h).choose else ⟨[], none, 0⟩, fun i hi => by simp only [hi, dif_pos]; exact (each i hi).choose_spec⟩
    have hll : ((List.range len).map f).length = len := by simp
    refine ⟨(List.range len).map f, some a, cap, by rw [hll], ?_, by rw [hll]; omega, ?_⟩
    · rcases Nat.eq_zero_or_pos len with h0 | h0
      · subst h0
        exact Or.inl rfl
      · have hs := spot_none (hf 0 h0).2.1
        obtain ⟨b, o, sp⟩ := a
        simp only at hs
        subst hs
        refine Or.inr ⟨b, o, rfl, fun i hi => ?_⟩
        have h3 := (hf i (by simpa using hi)).2
        rw [add_none] at h3
        simpa using h3
    · intro v hv
      obtain ⟨i, hi, rfl⟩ := List.mem_map.1 hv
      exact (hf i (by simpa using hi)).1
end
end Go.Proofs.YtekaimfabadclaaDoor
/- Events that came in, with what their weights tell. -/
namespace Go.Proofs.YtekaimfabadclaaDoor
open Go Go.ChangeShapes Go.WideShapes Go.ChangeAt Go.RowKit

section
variable {H : Type} {enc : TypeId × Value → H} {W : World} {base : Nat} {spare : Nat → Bool} {held : Bool}
theorem bytesVal : Tryd.prog.bytesOf 95 = 40 := by kernel_rfl
set_option maxRecDepth 100000 in
theorem vals_weight {fuel : Nat} {ao : Option Addr} {L cap : Nat} {x : DataW H × List MemPlace} (h : DataW.trod enc Tryd.prog W base spare held fuel 22 [.slice ao L cap] = some x) (hw : ∀ n ∈ x.1.weights Tryd.prog 22, n ≤ reachBytes) : L ≤ 3518437208780 := by
  rcases DataW.trod_slice Tryd.underlying22 h with ⟨h0, _⟩ | ⟨a, len, cap', elems, rest, n, _, e, rfl, hb, hl, hm, hlen, hel, _, _⟩
  · cases h0; omega
  · cases e
    have h1 := hw ((elems.length + rest.length) * Tryd.prog.bytesOf 95) (by simp [DataW.weights, Tryd.underlying22])
    rw [bytesVal] at h1
    unfold reachBytes at h1
    omega
set_option maxRecDepth 100000 in
theorem event_weight {fuel : Nat} {s v : Value} {va : Option Addr} {L cap : Nat} {x : DataW H × List MemPlace} (h : DataW.trod enc Tryd.prog W base spare held fuel 24 [s, v, .slice va L cap] = some x) (hw : ∀ n ∈ x.1.weights Tryd.prog 24, n ≤ reachBytes) : L ≤ 3518437208780 := by
  obtain ⟨y0, y1, y2, n, rfl, hl, h0, h1, h2⟩ := Go.Deep.trod_struct3 Tryd.underlying24 h
  simp only [cellsI64, cellsStr, cellsVals, List.drop_zero, List.drop_succ_cons, List.take_succ_cons, List.take_zero] at h0 h1 h2
  refine vals_weight h2 (fun m hm => hw m ?_)
  simp [DataW.weights, Tryd.underlying24, DataW.weightsEach, hm]
set_option maxRecDepth 100000 in
theorem evsW_trod {fuel : Nat} {cs : List Value} {d : DataW H × List MemPlace} (h : DataW.trod enc Tryd.prog W base spare held fuel 38 cs = some d) :
    ∃ (l : List EvX) (ao : Option Addr) (cap : Nat), cs = [.slice ao l.length cap] ∧ EvsIn W.heap.size W ao l ∧ l.length ≤ cap ∧ cap ≤ maxLen ∧ ∀ x ∈ l, (∀ a ∈ x.ev.vals, valGo a) ∧ x.ev.vals.length ≤ maxLen ∧ ((∀ n ∈ d.1.weights Tryd.prog 38, n ≤ reachBytes) → x.ev.vals.length ≤ 3518437208780) := by
  rcases DataW.trod_slice Tryd.underlying38 h with ⟨h0, _⟩ | ⟨a, len, cap, elems, rest, n, _, rfl, rfl, hb, hl, hm, hlen, hel, _, _⟩
  · exact ⟨[], none, 0, h0, Or.inl rfl, by simp, by simp, by simp⟩
  · have each : ∀ i, i < len → ∃ v : EvX, ((∀ a ∈ v.ev.vals, valGo a) ∧ v.ev.vals.length ≤ maxLen ∧ ((∀ n ∈ (DataW.slice (elems.map (·.1)) (rest.map (·.1))).weights Tryd.prog 38, n ≤ reachBytes) → v.ev.vals.length ≤ 3518437208780)) ∧ ValsIn W.heap.size W v.va v.ev.vals ∧ ∀ j, j < 3 → W.cell? (a.add (i * 3 + j)) = v.cells[j]? := by
      intro i hi
      have h1 := hel i hi
      rw [List.getElem?_eq_getElem (by omega), cellsEv] at h1
      cases hc : W.cells? base (a.add (i * 3)) 3 with
      | none => rw [hc] at h1; cases h1
      | some c =>
        rw [hc] at h1
        obtain ⟨e, va, vc, rfl, hv, hvl, hvi⟩ := event_trod h1
        refine ⟨⟨e, va, vc⟩, ⟨fun a ha => hvi a ha, hvl, fun hw => event_weight h1 fun n hn => hw n (by
          simp only [DataW.weights, Tryd.underlying38, List.mem_cons, List.mem_append]
          exact Or.inr (Or.inl (weights_all (List.mem_map_of_mem (List.getElem_mem (by omega))) n hn)))⟩, hv, fun j hj => ?_⟩
        have h2 := (World.cells?_some hc).2.2 j hj
        rw [Addr.add_add] at h2
        exact h2
    obtain ⟨f, hf⟩ : ∃ f : Nat → EvX, ∀ i, i < len → ((∀ a ∈ (f i).ev.vals, valGo a) ∧ (f i).ev.vals.length ≤ maxLen ∧ ((∀ n ∈ (DataW.slice (elems.map (·.1)) (rest.map (·.1))).weights Tryd.prog 38, n ≤ reachBytes) → (f i).ev.vals.length ≤ 3518437208780)) ∧ ValsIn W.heap.size W (f i).va (f i).ev.vals ∧ ∀ j, j < 3 → W.cell? (a.add (i * 3 + j)) = (f i).cells[j]? :=
      ⟨fun i => if h : i < len then (each i h).choose else ⟨zeroEv, none, 0⟩, fun i hi => by simp only [hi, dif_pos]; exact (each i hi).choose_spec⟩
    have hll : ((List.range len).map f).length = len := by simp
    refine ⟨(List.range len).map f, some a, cap, by rw [hll], ?_, by rw [hll]; omega, hm, ?_⟩
    · rcases Nat.eq_zero_or_pos len with h0 | h0
      · subst h0
        exact Or.inl rfl
      · obtain ⟨b, o, sp⟩ := a
        have hsp : sp = none := by
          have h3 := (hf 0 h0).2.2 0 (by omega)
          cases sp with
          | none => rfl
          | some x =>
            simp [World.cell?, Addr.add, EvX.cells] at h3
            split at h3 <;> cases h3
        subst hsp
        have ea : ∀ k, (⟨b, o, none⟩ : Addr).add k = ⟨b, o + k, none⟩ := by
          intro k
          unfold Addr.add
          split
          · subst_vars; rfl
          · rfl
        have hlt : b < W.heap.size := by
          have h3 := (hf 0 h0).2.2 0 (by omega)
          rw [ea] at h3
          exact World.block_lt_of_cell? W _ h3
        refine Or.inr ⟨b, o, rfl, hlt, fun i hi => ?_⟩
        have hi' : i < len := by simpa using hi
        have h3 := (hf i hi').2.2
        simp only [List.getElem_map, List.getElem_range]
        have g0 := h3 0 (by omega)
        have g1 := h3 1 (by omega)
        have g2 := h3 2 (by omega)
        rw [ea] at g0 g1 g2
        exact ⟨⟨g0, g1, g2⟩, (hf i hi').2.1⟩
    · intro v hv
      obtain ⟨i, hi, rfl⟩ := List.mem_map.1 hv
      exact (hf i (by simpa using hi)).1
end
end Go.Proofs.YtekaimfabadclaaDoor
