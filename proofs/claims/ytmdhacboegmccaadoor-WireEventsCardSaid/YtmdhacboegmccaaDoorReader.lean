/- Package wire, the reader: refuse, number, single, text. -/
import Derived.Test.YtmdhacboegmccaaDoorEncode
namespace Go.Proofs.YtmdhacboegmccaaDoor
open Go Go.RowKit

/-- Bytes that lie from an address on, in another block than the reader's. -/
def BytesOff (rb B : Nat) (w : World) (ao : Option Addr) (l : List UInt8) : Prop :=
  l = [] ∨ ∃ b o, ao = some ⟨b, o, none⟩ ∧ b ≠ rb ∧ b < B ∧ ∀ i (h : i < l.length), w.cell? ⟨b, o + i, none⟩ = some (.int .u8 (l[i].toNat : Int))
theorem BytesOff.at' {rb B : Nat} {w : World} {ao : Option Addr} {l : List UInt8} (h : BytesOff rb B w ao l) : BytesAt w ao l := by
  rcases h with h | ⟨b, o, h1, _, _, h2⟩
  · exact Or.inl h
  · exact Or.inr ⟨b, o, h1, h2⟩
theorem BytesOff.keep {rb B : Nat} {w w' : World} {ao : Option Addr} {l : List UInt8} (h : BytesOff rb B w ao l) (hg : w.grownBy w' (some rb)) : BytesOff rb B w' ao l := by
  rcases h with h | ⟨b, o, rfl, h1, h2, h3⟩
  · exact Or.inl h
  · exact Or.inr ⟨b, o, rfl, h1, h2, fun i hi => hg.cell (h3 i hi) (fun e => h1 (Option.some.inj e))⟩
theorem BytesOff.drop {rb B : Nat} {w : World} {b o : Nat} {sp : Option _} {l : List UInt8} (n : Nat) (h : BytesOff rb B w (some ⟨b, o, sp⟩) l) : BytesOff rb B w (some ⟨b, o + n, sp⟩) (l.drop n) := by
  rcases h with h | ⟨b', o', e, h1, h2, h3⟩
  · exact Or.inl (by rw [h]; simp)
  · cases e
    refine Or.inr ⟨b, o + n, rfl, h1, h2, fun i hi => ?_⟩
    have hi' : n + i < l.length := by rw [List.length_drop] at hi; omega
    have := h3 (n + i) hi'
    rw [← Nat.add_assoc] at this
    rw [this]
    simp
/-- The reader in memory. -/
structure RdAt (w : World) (rb B : Nat) (r : Rd) : Prop where
  ex : ∃ ao cap, w.cell? ⟨rb, 0, none⟩ = some (.slice ao r.rest.length cap) ∧ r.rest.length ≤ cap ∧ cap ≤ maxLen ∧ BytesOff rb B w ao r.rest
  c1 : w.cell? ⟨rb, 1, none⟩ = some (.int .i64 r.fault)
  f0 : w.frozen? ⟨rb, 0, none⟩ = false
  f1 : w.frozen? ⟨rb, 1, none⟩ = false
theorem RdAt.lt {w : World} {rb B : Nat} {r : Rd} (h : RdAt w rb B r) : rb < w.heap.size := World.block_lt_of_cell? w _ h.c1
/-- The reader's step: nothing but its block has turned. -/
structure RdTo (rb B : Nat) (w w' : World) (r' : Rd) : Prop where
  grown : w.grownBy w' (some rb)
  at' : RdAt w' rb B r'
theorem RdTo.trans {rb B : Nat} {w w' w'' : World} {r' r'' : Rd} (h : RdTo rb B w w' r') (k : RdTo rb B w' w'' r'') : RdTo rb B w w'' r'' := ⟨grownBy_trans h.grown k.grown (Or.inl rfl), k.at'⟩
theorem RdAt.below {w w' : World} {rb B : Nat} {r : Rd} (h : RdAt w rb B r) (hb : Below w.heap.size w w') : RdAt w' rb B r := by
  obtain ⟨ao, cap, c0, h1, h2, h3⟩ := h.ex
  have hl := h.lt
  exact ⟨⟨ao, cap, (hb.cell (p := ⟨rb, 0, none⟩) hl).trans c0, h1, h2, h3.keep (grownBy_of_below hb _)⟩, (hb.cell (p := ⟨rb, 1, none⟩) hl).trans h.c1, (hb.frozen (p := ⟨rb, 0, none⟩) hl).trans h.f0, (hb.frozen (p := ⟨rb, 1, none⟩) hl).trans h.f1⟩
theorem RdTo.below {rb B : Nat} {w w' w'' : World} {r' : Rd} (h : RdTo rb B w w' r') (hb : Below w'.heap.size w' w'') : RdTo rb B w w'' r' := ⟨grownBy_trans h.grown (grownBy_of_below hb (some rb)) (Or.inl rfl), h.at'.below hb⟩
theorem RdTo.refl {rb B : Nat} {w : World} {r : Rd} (h : RdAt w rb B r) : RdTo rb B w w r := ⟨grownBy_refl _ _, h⟩
theorem grown_set (w : World) (rb o : Nat) (x : Value) : w.grownBy (w.setCell ⟨rb, o, none⟩ x) (some rb) := ⟨rfl, rfl, rfl, by simp [World.setCell], fun k _ hne => Below.heap_setCell _ _ _ _ (by intro e; subst e; exact hne rfl)⟩
/-- The reader's bytes set anew. -/
theorem RdAt.setRest {w : World} {rb B : Nat} {r : Rd} (h : RdAt w rb B r) (ao : Option Addr) (cap : Nat) (l : List UInt8) (h1 : l.length ≤ cap) (h2 : cap ≤ maxLen) (h3 : BytesOff rb B w ao l) : RdTo rb B w (w.setCell ⟨rb, 0, none⟩ (.slice ao l.length cap)) ⟨l, r.fault⟩ := by
  obtain ⟨_, _, c0, _⟩ := h.ex
  have hg := grown_set w rb 0 (.slice ao l.length cap)
  refine ⟨hg, ⟨⟨ao, cap, World.cell?_setCell_same _ _ _ c0, h1, h2, h3.keep hg⟩, (World.cell?_setCell_other _ _ _ _ (by intro e; cases e)).trans h.c1, (World.frozen?_setCell _ _ _ _).trans h.f0, (World.frozen?_setCell _ _ _ _).trans h.f1⟩⟩
theorem RdAt.setFault {w : World} {rb B : Nat} {r : Rd} (h : RdAt w rb B r) (f : Int) : RdTo rb B w (w.setCell ⟨rb, 1, none⟩ (.int .i64 f)) ⟨r.rest, f⟩ := by
  obtain ⟨ao, cap, c0, h1, h2, h3⟩ := h.ex
  have hg := grown_set w rb 1 (.int .i64 f)
  exact ⟨hg, ⟨⟨ao, cap, (World.cell?_setCell_other _ _ _ _ (by intro e; cases e)).trans c0, h1, h2, h3.keep hg⟩, World.cell?_setCell_same _ _ _ h.c1, (World.frozen?_setCell _ _ _ _).trans h.f0, (World.frozen?_setCell _ _ _ _).trans h.f1⟩⟩

set_option maxRecDepth 100000 in
theorem refuse_any (rb B : Nat) (r : Rd) (f : Int) (w : World) (hr : RdAt w rb B r) :
    Calls Tryd.prog 78 #[.pointer (some ⟨rb, 0, none⟩), .int .i64 f] w fun en w' => en = .returned (.tuple #[]) ∧ RdTo rb B w w' (r.refuse f) := by
  obtain ⟨ao, cap, c0, _⟩ := hr.ex
  have c1 := hr.c1
  have f0 := hr.f0
  have f1 := hr.f1
  have HR := Lib.hid hr
  clear hr
  cases h : (r.fault == 0)
  · have HE := Lib.hid (show r.refuse f = r by unfold Rd.refuse; rw [if_neg (by simpa using h)])
    go_enter Tryd.func78, Tryd.ntmps78
    go_wp2_with fail
    exact bodyPost_end (v := .tuple #[]) (by simp [results, Tryd.results78, go_sem]) rfl ⟨rfl, by rw [HE.out]; exact RdTo.refl HR.out⟩
  · have HE := Lib.hid (show r.refuse f = ⟨[], f⟩ by unfold Rd.refuse; rw [if_pos (by simpa using h)])
    go_enter Tryd.func78, Tryd.ntmps78
    go_wp2_with fail
    have h1 := HR.out.setFault f
    have h2 := h1.trans (h1.at'.setRest none 0 [] (Nat.le_refl _) (by unfold maxLen; omega) (Or.inl rfl))
    exact bodyPost_end (v := .tuple #[]) (by simp [results, Tryd.results78, go_sem]) rfl ⟨rfl, by rw [HE.out]; exact h2⟩

theorem numberR_int (lo hi : Int) (r : Rd) : numberR lo hi r = if (intB r.rest).2.2 = 0 then (if (intB r.rest).1 < lo ∨ hi < (intB r.rest).1 then (0, r.refuse 31) else ((intB r.rest).1, ⟨r.rest.drop (intB r.rest).2.1, r.fault⟩)) else (0, r.refuse (intB r.rest).2.2) := by
  unfold numberR intB
  by_cases h : (readZ 0 0 r.rest).2.2 = 0
  · simp only [if_pos h, if_true]
  · simp only [if_neg h]
theorem intB_ok (l : List UInt8) (h : (intB l).2.2 = 0) : 1 ≤ (intB l).2.1 ∧ (intB l).2.1 ≤ l.length ∧ -9223372036854775808 ≤ (intB l).1 ∧ (intB l).1 ≤ 9223372036854775807 := by
  unfold intB at h ⊢
  by_cases h0 : (readZ 0 0 l).2.2 = 0
  · rw [if_pos h0]
    obtain ⟨z, r, e1, e2, e3, _, e5, _⟩ := read_back l 0 0 (readZ 0 0 l).1 (readZ 0 0 l).2.1 (by omega) (Prod.ext rfl (Prod.ext rfl h0))
    have e2' : (readZ 0 0 l).1 = z := by rw [e2]; simp
    have hz := putZ_pos z
    have hb := unz_bd z (by simpa using e3)
    have hl : l.length = (putZ z).length + r.length := by rw [e1, List.length_append]
    simp only
    rw [e2', e5]
    exact ⟨by omega, by omega, hb.1, hb.2⟩
  · rw [if_neg h0] at h
    exact absurd h h0

set_option maxHeartbeats 8000000 in
set_option maxRecDepth 100000 in
theorem number_any (rb B : Nat) (r : Rd) (lo hi : Int) (w : World) (hr : RdAt w rb B r) :
    Calls Tryd.prog 79 #[.pointer (some ⟨rb, 0, none⟩), .int .i64 lo, .int .i64 hi] w fun en w' => en = .returned (.int .i64 (numberR lo hi r).1) ∧ RdTo rb B w w' (numberR lo hi r).2 := by
  obtain ⟨ao, cap, c0, hcap, hcm, hoff⟩ := hr.ex
  have HN := Lib.hid (numberR_int lo hi r)
  have HI := Lib.hid (intB_ok r.rest)
  have HINT := Lib.hid (int_any r.rest ao cap w hoff.at' (Nat.le_trans hcap hcm))
  have HOFF := Lib.hid hoff
  have f0 := hr.f0
  have HR := Lib.hid hr
  obtain ⟨⟨v, n, f⟩, hv⟩ : ∃ x, x = intB r.rest := ⟨_, rfl⟩
  rw [← hv] at HN HI HINT
  simp only at HN HI HINT
  clear hv hr hoff
  unfold maxLen at hcm
  cases hf : (f == 0)
  · have HE := Lib.hid (show numberR lo hi r = (0, r.refuse f) by rw [HN.out, if_neg (by simpa using hf)])
    have hf2 : (f != 0) = true := by simp [bne, hf]
    go_enter Tryd.func79, Tryd.ntmps79
    go_wp2_with fail
    refine HINT.out.mono ?_; rintro e w1 ⟨rfl, rfl⟩
    go_wp2_with fail
    refine (refuse_any rb B r f _ HR.out).mono ?_; rintro e w2 ⟨rfl, hto⟩
    go_wp2_with fail
    go_ret
    exact ⟨by rw [HE.out]; rfl, by rw [HE.out]; exact hto⟩
  · obtain rfl : f = 0 := by simpa using hf
    have hb := HI.out rfl
    by_cases hb1 : v < lo ∨ hi < v
    · have HE := Lib.hid (show numberR lo hi r = (0, r.refuse 31) by rw [HN.out, if_pos rfl, if_pos hb1])
      have hb2 : v < lo ∨ (lo ≤ v ∧ hi < v) := by omega
      clear hb1 hf
      rcases hb2 with h1 | ⟨h1, h2⟩
      all_goals
        go_enter Tryd.func79, Tryd.ntmps79
        go_wp2_with fail
        refine HINT.out.mono ?_; rintro e w1 ⟨rfl, rfl⟩
        go_wp2_with fail
        refine (refuse_any rb B r 31 _ HR.out).mono ?_; rintro e w2 ⟨rfl, hto⟩
        go_wp2_with fail
        go_ret
        exact ⟨by rw [HE.out]; rfl, by rw [HE.out]; exact hto⟩
    · have HE := Lib.hid (show numberR lo hi r = (v, ⟨r.rest.drop n, r.fault⟩) by rw [HN.out, if_pos rfl, if_neg hb1])
      have h1 : lo ≤ v := by omega
      have h2 : v ≤ hi := by omega
      have h3 : n ≤ r.rest.length := hb.2.1
      have h0 : 0 < n := by omega
      clear hb1 hf hb
      obtain ⟨b, o, rfl, hcl⟩ : ∃ b o, ao = some ⟨b, o, none⟩ ∧ True := by
        rcases HOFF.out with h | ⟨b, o, h, _⟩
        · exfalso; rw [h] at h3; simp at h3; omega
        · exact ⟨b, o, h, trivial⟩
      by_cases hc : n = cap
      · have hnl : n = r.rest.length := by omega
        have HTO := Lib.hid (show RdTo rb B w (w.setCell ⟨rb, 0, none⟩ (.slice (some ⟨b, o, none⟩) (r.rest.length - n) (cap - n))) ⟨r.rest.drop n, r.fault⟩ by
          have h := HR.out.setRest (some ⟨b, o, none⟩) (cap - n) (r.rest.drop n) (by rw [List.length_drop]; omega) (by unfold maxLen; omega) (Or.inl (List.drop_of_length_le (by omega)))
          rw [List.length_drop] at h
          exact h)
        clear hnl
        subst hc
        go_enter Tryd.func79, Tryd.ntmps79
        go_wp2_with fail
        refine HINT.out.mono ?_; rintro e w1 ⟨rfl, rfl⟩
        go_wp2_with fail
        go_ret
        refine ⟨by rw [HE.out]; rfl, ?_⟩
        rw [HE.out]
        have h := HTO.out
        have e : r.rest.length - n = 0 := by omega
        rw [Nat.sub_self, e] at h
        exact h
      · have HTO := Lib.hid (show RdTo rb B w (w.setCell ⟨rb, 0, none⟩ (.slice (some ⟨b, o + n, none⟩) (r.rest.length - n) (cap - n))) ⟨r.rest.drop n, r.fault⟩ by
          have h := HR.out.setRest (some ⟨b, o + n, none⟩) (cap - n) (r.rest.drop n) (by rw [List.length_drop]; omega) (by unfold maxLen; omega) (BytesOff.drop n HOFF.out)
          rw [List.length_drop] at h
          exact h)
        go_enter Tryd.func79, Tryd.ntmps79
        go_wp2_with fail
        refine HINT.out.mono ?_; rintro e w1 ⟨rfl, rfl⟩
        go_wp2_with fail
        go_ret
        exact ⟨by rw [HE.out]; rfl, by rw [HE.out]; exact HTO.out⟩

set_option maxHeartbeats 8000000 in
set_option maxRecDepth 100000 in
theorem single_any (rb B : Nat) (r : Rd) (lo hi : Nat) (w : World) (hr : RdAt w rb B r) :
    Calls Tryd.prog 88 #[.pointer (some ⟨rb, 0, none⟩), .int .u8 lo, .int .u8 hi] w fun en w' => en = .returned (.int .u8 ((singleR lo hi r).1 : Nat)) ∧ RdTo rb B w w' (singleR lo hi r).2 := by
  obtain ⟨ao, cap, c0, hcap, hcm, hoff⟩ := hr.ex
  have HOFF := Lib.hid hoff
  have f0 := hr.f0
  have HR := Lib.hid hr
  clear hr hoff
  unfold maxLen at hcm
  obtain ⟨l, f⟩ := r
  simp only at c0 hcap HOFF
  cases l with
  | nil =>
    go_enter Tryd.func88, Tryd.ntmps88
    go_wp2_with fail
    refine (refuse_any rb B ⟨[], f⟩ 30 _ HR.out).mono ?_; rintro e w2 ⟨rfl, hto⟩
    go_wp2_with fail
    go_ret
    exact ⟨rfl, hto⟩
  | cons x l =>
    obtain ⟨b, o, rfl, hbr, hbl, hc⟩ : ∃ b o, ao = some ⟨b, o, none⟩ ∧ b ≠ rb ∧ b < B ∧ ∀ i (h : i < (x :: l).length), w.cell? ⟨b, o + i, none⟩ = some (.int .u8 ((x :: l)[i].toNat : Int)) := by
      rcases HOFF.out with h | h
      · cases h
      · exact h
    have h0 : w.cell? ⟨b, o, none⟩ = some (.int .u8 (x.toNat : Int)) := hc 0 (by simp)
    have hx := x.toNat_lt
    have hll : (x :: l).length = l.length + 1 := rfl
    rw [hll] at c0 hcap
    clear hc hll
    by_cases hb1 : x.toNat < lo ∨ hi < x.toNat
    · have HE := Lib.hid (show singleR lo hi ⟨x :: l, f⟩ = (0, (⟨x :: l, f⟩ : Rd).refuse 31) by simp only [singleR]; rw [if_pos hb1])
      have hb2 : x.toNat < lo ∨ (¬ x.toNat < lo ∧ hi < x.toNat) := by omega
      clear hb1
      rcases hb2 with h1 | ⟨h1, h2⟩
      all_goals
        go_enter Tryd.func88, Tryd.ntmps88
        go_wp2_with fail
        refine (refuse_any rb B ⟨x :: l, f⟩ 31 _ HR.out).mono ?_; rintro e w2 ⟨rfl, hto⟩
        go_wp2_with fail
        go_ret
        exact ⟨by rw [HE.out]; rfl, by rw [HE.out]; exact hto⟩
    · have HE := Lib.hid (show singleR lo hi ⟨x :: l, f⟩ = (x.toNat, ⟨l, f⟩) by simp only [singleR]; rw [if_neg hb1])
      have h1 : ¬ x.toNat < lo := by omega
      have h2 : ¬ hi < x.toNat := by omega
      clear hb1
      by_cases hc : cap = 1
      · subst hc
        obtain rfl : l = [] := List.eq_nil_of_length_eq_zero (by omega)
        have HTO := Lib.hid (show RdTo rb B w (w.setCell ⟨rb, 0, none⟩ (.slice (some ⟨b, o, none⟩) 0 0)) ⟨[], f⟩ from HR.out.setRest (some ⟨b, o, none⟩) 0 [] (Nat.le_refl _) (by unfold maxLen; omega) (Or.inl rfl))
        go_enter Tryd.func88, Tryd.ntmps88
        go_wp2_with fail
        go_ret
        exact ⟨by rw [HE.out]; rfl, by rw [HE.out]; exact HTO.out⟩
      · have HTO := Lib.hid (show RdTo rb B w (w.setCell ⟨rb, 0, none⟩ (.slice (some ⟨b, o + 1, none⟩) l.length (cap - 1))) ⟨l, f⟩ from HR.out.setRest (some ⟨b, o + 1, none⟩) (cap - 1) l (by omega) (by unfold maxLen; omega) (BytesOff.drop 1 HOFF.out))
        go_enter Tryd.func88, Tryd.ntmps88
        go_wp2_with fail
        go_ret
        exact ⟨by rw [HE.out]; rfl, by rw [HE.out]; exact HTO.out⟩
end Go.Proofs.YtmdhacboegmccaaDoor
