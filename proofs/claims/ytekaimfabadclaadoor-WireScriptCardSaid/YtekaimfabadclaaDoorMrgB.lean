/- Texts put together: Reader, RText, RValue, REvent, Decode, Eq, Tick, Front, Number, OneForm, SumWalk, Pack. -/
import Derived.Outline
import Derived.Deep.RegionLaw
import Derived.Laws.AppendOwnNone
import Derived.Maps.AppendAt
import Derived.Deep.DeepAppendWide
import Derived.Test.YtekaimfabadclaaDoorMrgA
/- Package wire, the reader: refuse, number, single, text. -/
namespace Go.Proofs.YtekaimfabadclaaDoor
open Go Go.RowKit

/-- Bytes that lie from an address on, in another block than the reader's. -/
def BytesOff (rb B : Nat) (w : World) (ao : Option Addr) (l : List UInt8) : Prop :=
  l = [] ∨ ∃ b o, ao = some ⟨b, o, none⟩ ∧ b ≠ rb ∧ b < B ∧ ∀ i (h : i < l.length), w.cell? ⟨b, o + i, none⟩ = some (.int .u8 (l[i].toNat : Int))
theorem BytesOff.at' {rb B : Nat} {w : World} {ao : Option Addr} {l : List UInt8} (h : BytesOff rb B w ao l) : BytesAt w ao l := by
  rcases h with h | ⟨b, o, h1, _, _, h2⟩
  · exact Or.inl h
  · exact Or.inr ⟨b, o, h1, h2⟩
theorem BytesOff.keep {rb B : Nat} {w w' : World} {ao : Option Addr} {l : List UInt8} (h : BytesOff rb B w ao l) (hg : w.grownBy w' (some rb)) : BytesOff rb B w' ao l := by
  rcases h with h | ⟨b, o, rfl, h1, h2, h3⟩
  · exact Or.inl h
  · exact Or.inr ⟨b, o, rfl, h1, h2, fun i hi => hg.cell (h3 i hi) (fun e => h1 (Option.some.inj e))⟩
theorem BytesOff.drop {rb B : Nat} {w : World} {b o : Nat} {sp : Option _} {l : List UInt8} (n : Nat) (h : BytesOff rb B w (some ⟨b, o, sp⟩) l) : BytesOff rb B w (some ⟨b, o + n, sp⟩) (l.drop n) := by
  rcases h with h | ⟨b', o', e, h1, h2, h3⟩
  · exact Or.inl (by rw [h]; simp)
  · cases e
    refine Or.inr ⟨b, o + n, rfl, h1, h2, fun i hi => ?_⟩
    have hi' : n + i < l.length := by rw [List.length_drop] at hi; omega
    have := h3 (n + i) hi'
    rw [← Nat.add_assoc] at this
    rw [this]
    simp
/-- The reader in memory. -/
structure RdAt (w : World) (rb B : Nat) (r : Rd) : Prop where
  ex : ∃ ao cap, w.cell? ⟨rb, 0, none⟩ = some (.slice ao r.rest.length cap) ∧ r.rest.length ≤ cap ∧ cap ≤ maxLen ∧ BytesOff rb B w ao r.rest
  c1 : w.cell? ⟨rb, 1, none⟩ = some (.int .i64 r.fault)
  f0 : w.frozen? ⟨rb, 0, none⟩ = false
  f1 : w.frozen? ⟨rb, 1, none⟩ = false
theorem RdAt.lt {w : World} {rb B : Nat} {r : Rd} (h : RdAt w rb B r) : rb < w.heap.size := World.block_lt_of_cell? w _ h.c1
/-- The reader's step: nothing but its block has turned. -/
structure RdTo (rb B : Nat) (w w' : World) (r' : Rd) : Prop where
  grown : w.grownBy w' (some rb)
  at' : RdAt w' rb B r'
theorem RdTo.trans {rb B : Nat} {w w' w'' : World} {r' r'' : Rd} (h : RdTo rb B w w' r') (k : RdTo rb B w' w'' r'') : RdTo rb B w w'' r'' := ⟨grownBy_trans h.grown k.grown (Or.inl rfl), k.at'⟩
theorem RdAt.below {w w' : World} {rb B : Nat} {r : Rd} (h : RdAt w rb B r) (hb : Below w.heap.size w w') : RdAt w' rb B r := by
  obtain ⟨ao, cap, c0, h1, h2, h3⟩ := h.ex
  have hl := h.lt
  exact ⟨⟨ao, cap, (hb.cell (p := ⟨rb, 0, none⟩) hl).trans c0, h1, h2, h3.keep (grownBy_of_below hb _)⟩, (hb.cell (p := ⟨rb, 1, none⟩) hl).trans h.c1, (hb.frozen (p := ⟨rb, 0, none⟩) hl).trans h.f0, (hb.frozen (p := ⟨rb, 1, none⟩) hl).trans h.f1⟩
theorem RdTo.below {rb B : Nat} {w w' w'' : World} {r' : Rd} (h : RdTo rb B w w' r') (hb : Below w'.heap.size w' w'') : RdTo rb B w w'' r' := ⟨grownBy_trans h.grown (grownBy_of_below hb (some rb)) (Or.inl rfl), h.at'.below hb⟩
theorem RdTo.refl {rb B : Nat} {w : World} {r : Rd} (h : RdAt w rb B r) : RdTo rb B w w r := ⟨grownBy_refl _ _, h⟩
theorem grown_set (w : World) (rb o : Nat) (x : Value) : w.grownBy (w.setCell ⟨rb, o, none⟩ x) (some rb) := ⟨rfl, rfl, rfl, by simp [World.setCell], fun k _ hne => Below.heap_setCell _ _ _ _ (by intro e; subst e; exact hne rfl)⟩
/-- The reader's bytes set anew. -/
theorem RdAt.setRest {w : World} {rb B : Nat} {r : Rd} (h : RdAt w rb B r) (ao : Option Addr) (cap : Nat) (l : List UInt8) (h1 : l.length ≤ cap) (h2 : cap ≤ maxLen) (h3 : BytesOff rb B w ao l) : RdTo rb B w (w.setCell ⟨rb, 0, none⟩ (.slice ao l.length cap)) ⟨l, r.fault⟩ := by
  obtain ⟨_, _, c0, _⟩ := h.ex
  have hg := grown_set w rb 0 (.slice ao l.length cap)
  refine ⟨hg, ⟨⟨ao, cap, World.cell?_setCell_same _ _ _ c0, h1, h2, h3.keep hg⟩, (World.cell?_setCell_other _ _ _ _ (by intro e; cases e)).trans h.c1, (World.frozen?_setCell _ _ _ _).trans h.f0, (World.frozen?_setCell _ _ _ _).trans h.f1⟩⟩
theorem RdAt.setFault {w : World} {rb B : Nat} {r : Rd} (h : RdAt w rb B r) (f : Int) : RdTo rb B w (w.setCell ⟨rb, 1, none⟩ (.int .i64 f)) ⟨r.rest, f⟩ := by
  obtain ⟨ao, cap, c0, h1, h2, h3⟩ := h.ex
  have hg := grown_set w rb 1 (.int .i64 f)
  exact ⟨hg, ⟨⟨ao, cap, (World.cell?_setCell_other _ _ _ _ (by intro e; cases e)).trans c0, h1, h2, h3.keep hg⟩, World.cell?_setCell_same _ _ _ h.c1, (World.frozen?_setCell _ _ _ _).trans h.f0, (World.frozen?_setCell _ _ _ _).trans h.f1⟩⟩

set_option maxRecDepth 100000 in
theorem refuse_any (rb B : Nat) (r : Rd) (f : Int) (w : World) (hr : RdAt w rb B r) :
    Calls Tryd.prog 78 #[.pointer (some ⟨rb, 0, none⟩), .int .i64 f] w fun en w' => en = .returned (.tuple #[]) ∧ RdTo rb B w w' (r.refuse f) := by
  obtain ⟨ao, cap, c0, _⟩ := hr.ex
  have c1 := hr.c1
  have f0 := hr.f0
  have f1 := hr.f1
  have HR := Lib.hid hr
  clear hr
  cases h : (r.fault == 0)
  · have HE := Lib.hid (show r.refuse f = r by unfold Rd.refuse; rw [if_neg (by simpa using h)])
    go_enter Tryd.func78, Tryd.ntmps78
    go_wp2_with fail
    exact bodyPost_end (v := .tuple #[]) (by simp [results, Tryd.results78, go_sem]) rfl ⟨rfl, by rw [HE.out]; exact RdTo.refl HR.out⟩
  · have HE := Lib.hid (show r.refuse f = ⟨[], f⟩ by unfold Rd.refuse; rw [if_pos (by simpa using h)])
    go_enter Tryd.func78, Tryd.ntmps78
    go_wp2_with fail
    have h1 := HR.out.setFault f
    have h2 := h1.trans (h1.at'.setRest none 0 [] (Nat.le_refl _) (by unfold maxLen; omega) (Or.inl rfl))
    exact bodyPost_end (v := .tuple #[]) (by simp [results, Tryd.results78, go_sem]) rfl ⟨rfl, by rw [HE.out]; exact h2⟩

theorem numberR_int (lo hi : Int) (r : Rd) : numberR lo hi r = if (intB r.rest).2.2 = 0 then (if (intB r.rest).1 < lo ∨ hi < (intB r.rest).1 then (0, r.refuse 31) else ((intB r.rest).1, ⟨r.rest.drop (intB r.rest).2.1, r.fault⟩)) else (0, r.refuse (intB r.rest).2.2) := by
  unfold numberR intB
  by_cases h : (readZ 0 0 r.rest).2.2 = 0
  · simp only [if_pos h, if_true]
  · simp only [if_neg h]
theorem intB_ok (l : List UInt8) (h : (intB l).2.2 = 0) : 1 ≤ (intB l).2.1 ∧ (intB l).2.1 ≤ l.length ∧ -9223372036854775808 ≤ (intB l).1 ∧ (intB l).1 ≤ 9223372036854775807 := by
  unfold intB at h ⊢
  by_cases h0 : (readZ 0 0 l).2.2 = 0
  · rw [if_pos h0]
    obtain ⟨z, r, e1, e2, e3, _, e5, _⟩ := read_back l 0 0 (readZ 0 0 l).1 (readZ 0 0 l).2.1 (by omega) (Prod.ext rfl (Prod.ext rfl h0))
    have e2' : (readZ 0 0 l).1 = z := by rw [e2]; simp
    have hz := putZ_pos z
    have hb := unz_bd z (by simpa using e3)
    have hl : l.length = (putZ z).length + r.length := by rw [e1, List.length_append]
    simp only
    rw [e2', e5]
    exact ⟨by omega, by omega, hb.1, hb.2⟩
  · rw [if_neg h0] at h
    exact absurd h h0

set_option maxHeartbeats 8000000 in
set_option maxRecDepth 100000 in
theorem number_any (rb B : Nat) (r : Rd) (lo hi : Int) (w : World) (hr : RdAt w rb B r) :
    Calls Tryd.prog 79 #[.pointer (some ⟨rb, 0, none⟩), .int .i64 lo, .int .i64 hi] w fun en w' => en = .returned (.int .i64 (numberR lo hi r).1) ∧ RdTo rb B w w' (numberR lo hi r).2 := by
  obtain ⟨ao, cap, c0, hcap, hcm, hoff⟩ := hr.ex
  have HN := Lib.hid (numberR_int lo hi r)
  have HI := Lib.hid (intB_ok r.rest)
  have HINT := Lib.hid (int_any r.rest ao cap w hoff.at' (Nat.le_trans hcap hcm))
  have HOFF := Lib.hid hoff
  have f0 := hr.f0
  have HR := Lib.hid hr
  obtain ⟨⟨v, n, f⟩, hv⟩ : ∃ x, x = intB r.rest := ⟨_, rfl⟩
  rw [← hv] at HN HI HINT
  simp only at HN HI HINT
  clear hv hr hoff
  unfold maxLen at hcm
  cases hf : (f == 0)
  · have HE := Lib.hid (show numberR lo hi r = (0, r.refuse f) by rw [HN.out, if_neg (by simpa using hf)])
    have hf2 : (f != 0) = true := by simp [bne, hf]
    go_enter Tryd.func79, Tryd.ntmps79
    go_wp2_with fail
    refine HINT.out.mono ?_; rintro e w1 ⟨rfl, rfl⟩
    go_wp2_with fail
    refine (refuse_any rb B r f _ HR.out).mono ?_; rintro e w2 ⟨rfl, hto⟩
    go_wp2_with fail
    go_ret
    exact ⟨by rw [HE.out]; rfl, by rw [HE.out]; exact hto⟩
  · obtain rfl : f = 0 := by simpa using hf
    have hb := HI.out rfl
    by_cases hb1 : v < lo ∨ hi < v
    · have HE := Lib.hid (show numberR lo hi r = (0, r.refuse 31) by rw [HN.out, if_pos rfl, if_pos hb1])
      have hb2 : v < lo ∨ (lo ≤ v ∧ hi < v) := by omega
      clear hb1 hf
      rcases hb2 with h1 | ⟨h1, h2⟩
      all_goals
        go_enter Tryd.func79, Tryd.ntmps79
        go_wp2_with fail
        refine HINT.out.mono ?_; rintro e w1 ⟨rfl, rfl⟩
        go_wp2_with fail
        refine (refuse_any rb B r 31 _ HR.out).mono ?_; rintro e w2 ⟨rfl, hto⟩
        go_wp2_with fail
        go_ret
        exact ⟨by rw [HE.out]; rfl, by rw [HE.out]; exact hto⟩
    · have HE := Lib.hid (show numberR lo hi r = (v, ⟨r.rest.drop n, r.fault⟩) by rw [HN.out, if_pos rfl, if_neg hb1])
      have h1 : lo ≤ v := by omega
      have h2 : v ≤ hi := by omega
      have h3 : n ≤ r.rest.length := hb.2.1
      have h0 : 0 < n := by omega
      clear hb1 hf hb
      obtain ⟨b, o, rfl, hcl⟩ : ∃ b o, ao = some ⟨b, o, none⟩ ∧ True := by
        rcases HOFF.out with h | ⟨b, o, h, _⟩
        · exfalso; rw [h] at h3; simp at h3; omega
        · exact ⟨b, o, h, trivial⟩
      by_cases hc : n = cap
      · have hnl : n = r.rest.length := by omega
        have HTO := Lib.hid (show RdTo rb B w (w.setCell ⟨rb, 0, none⟩ (.slice (some ⟨b, o, none⟩) (r.rest.length - n) (cap - n))) ⟨r.rest.drop n, r.fault⟩ by
          have h := HR.out.setRest (some ⟨b, o, none⟩) (cap - n) (r.rest.drop n) (by rw [List.length_drop]; omega) (by unfold maxLen; omega) (Or.inl (List.drop_of_length_le (by omega)))
          rw [List.length_drop] at h
          exact h)
        clear hnl
        subst hc
        go_enter Tryd.func79, Tryd.ntmps79
        go_wp2_with fail
        refine HINT.out.mono ?_; rintro e w1 ⟨rfl, rfl⟩
        go_wp2_with fail
        go_ret
        refine ⟨by rw [HE.out]; rfl, ?_⟩
        rw [HE.out]
        have h := HTO.out
        have e : r.rest.length - n = 0 := by omega
        rw [Nat.sub_self, e] at h
        exact h
      · have HTO := Lib.hid (show RdTo rb B w (w.setCell ⟨rb, 0, none⟩ (.slice (some ⟨b, o + n, none⟩) (r.rest.length - n) (cap - n))) ⟨r.rest.drop n, r.fault⟩ by
          have h := HR.out.setRest (some ⟨b, o + n, none⟩) (cap - n) (r.rest.drop n) (by rw [List.length_drop]; omega) (by unfold maxLen; omega) (BytesOff.drop n HOFF.out)
          rw [List.length_drop] at h
          exact h)
        go_enter Tryd.func79, Tryd.ntmps79
        go_wp2_with fail
        refine HINT.out.mono ?_; rintro e w1 ⟨rfl, rfl⟩
        go_wp2_with fail
        go_ret
        exact ⟨by rw [HE.out]; rfl, by rw [HE.out]; exact HTO.out⟩

set_option maxHeartbeats 8000000 in
set_option maxRecDepth 100000 in
theorem single_any (rb B : Nat) (r : Rd) (lo hi : Nat) (w : World) (hr : RdAt w rb B r) :
    Calls Tryd.prog 88 #[.pointer (some ⟨rb, 0, none⟩), .int .u8 lo, .int .u8 hi] w fun en w' => en = .returned (.int .u8 ((singleR lo hi r).1 : Nat)) ∧ RdTo rb B w w' (singleR lo hi r).2 := by
  obtain ⟨ao, cap, c0, hcap, hcm, hoff⟩ := hr.ex
  have HOFF := Lib.hid hoff
  have f0 := hr.f0
  have HR := Lib.hid hr
  clear hr hoff
  unfold maxLen at hcm
  obtain ⟨l, f⟩ := r
  simp only at c0 hcap HOFF
  cases l with
  | nil =>
    go_enter Tryd.func88, Tryd.ntmps88
    go_wp2_with fail
    refine (refuse_any rb B ⟨[], f⟩ 30 _ HR.out).mono ?_; rintro e w2 ⟨rfl, hto⟩
    go_wp2_with fail
    go_ret
    exact ⟨rfl, hto⟩
  | cons x l =>
    obtain ⟨b, o, rfl, hbr, hbl, hc⟩ : ∃ b o, ao = some ⟨b, o, none⟩ ∧ b ≠ rb ∧ b < B ∧ ∀ i (h : i < (x :: l).length), w.cell? ⟨b, o + i, none⟩ = some (.int .u8 ((x :: l)[i].toNat : Int)) := by
      rcases HOFF.out with h | h
      · cases h
      · exact h
    have h0 : w.cell? ⟨b, o, none⟩ = some (.int .u8 (x.toNat : Int)) := hc 0 (by simp)
    have hx := x.toNat_lt
    have hll : (x :: l).length = l.length + 1 := rfl
    rw [hll] at c0 hcap
    clear hc hll
    by_cases hb1 : x.toNat < lo ∨ hi < x.toNat
    · have HE := Lib.hid (show singleR lo hi ⟨x :: l, f⟩ = (0, (⟨x :: l, f⟩ : Rd).refuse 31) by simp only [singleR]; rw [if_pos hb1])
      have hb2 : x.toNat < lo ∨ (¬ x.toNat < lo ∧ hi < x.toNat) := by omega
      clear hb1
      rcases hb2 with h1 | ⟨h1, h2⟩
      all_goals
        go_enter Tryd.func88, Tryd.ntmps88
        go_wp2_with fail
        refine (refuse_any rb B ⟨x :: l, f⟩ 31 _ HR.out).mono ?_; rintro e w2 ⟨rfl, hto⟩
        go_wp2_with fail
        go_ret
        exact ⟨by rw [HE.out]; rfl, by rw [HE.out]; exact hto⟩
    · have HE := Lib.hid (show singleR lo hi ⟨x :: l, f⟩ = (x.toNat, ⟨l, f⟩) by simp only [singleR]; rw [if_neg hb1])
      have h1 : ¬ x.toNat < lo := by omega
      have h2 : ¬ hi < x.toNat := by omega
      clear hb1
      by_cases hc : cap = 1
      · subst hc
        obtain rfl : l = [] := List.eq_nil_of_length_eq_zero (by omega)
        have HTO := Lib.hid (show RdTo rb B w (w.setCell ⟨rb, 0, none⟩ (.slice (some ⟨b, o, none⟩) 0 0)) ⟨[], f⟩ from HR.out.setRest (some ⟨b, o, none⟩) 0 [] (Nat.le_refl _) (by unfold maxLen; omega) (Or.inl rfl))
        go_enter Tryd.func88, Tryd.ntmps88
        go_wp2_with fail
        go_ret
        exact ⟨by rw [HE.out]; rfl, by rw [HE.out]; exact HTO.out⟩
      · have HTO := Lib.hid (show RdTo rb B w (w.setCell ⟨rb, 0, none⟩ (.slice (some ⟨b, o + 1, none⟩) l.length (cap - 1))) ⟨l, f⟩ from HR.out.setRest (some ⟨b, o + 1, none⟩) (cap - 1) l (by omega) (by unfold maxLen; omega) (BytesOff.drop 1 HOFF.out))
        go_enter Tryd.func88, Tryd.ntmps88
        go_wp2_with fail
        go_ret
        exact ⟨by rw [HE.out]; rfl, by rw [HE.out]; exact HTO.out⟩
end Go.Proofs.YtekaimfabadclaaDoor
/- Package wire, the reader: text. -/
namespace Go.Proofs.YtekaimfabadclaaDoor
open Go Go.RowKit

theorem textR_eq (lo hi : Int) (r : Rd) : textR lo hi r = if ((numberR lo hi r).2.rest.length : Int) < (numberR lo hi r).1 then (⟨#[]⟩, (numberR lo hi r).2.refuse 30) else (⟨((numberR lo hi r).2.rest.take (numberR lo hi r).1.toNat).toArray⟩, ⟨(numberR lo hi r).2.rest.drop (numberR lo hi r).1.toNat, (numberR lo hi r).2.fault⟩) := by
  unfold textR mapped andThen bytesR
  by_cases h : ((numberR lo hi r).2.rest.length : Int) < (numberR lo hi r).1
  · rw [if_pos h, if_pos h]
  · rw [if_neg h, if_neg h]
theorem numberR_lo (lo hi : Int) (h0 : 0 ≤ lo) (r : Rd) : 0 ≤ (numberR lo hi r).1 ∧ ((numberR lo hi r).1 ≤ hi ∨ (numberR lo hi r).1 = 0) := by
  unfold numberR
  split
  · split
    · exact ⟨Int.le_refl _, Or.inr rfl⟩
    · exact ⟨by simp only; omega, Or.inl (by simp only; omega)⟩
  · exact ⟨Int.le_refl _, Or.inr rfl⟩

theorem conv_nil (ao : Option Addr) (cap : Nat) (w : World) : (convert 25 9 (.slice ao 0 cap)).run Tryd.prog w = .ok (.string ⟨#[]⟩) w := by
  cases ao with
  | none =>
    rw [run_convert_bytes_string w 25 9 5 none 0 cap Tryd.underlying25 Tryd.underlying5 Tryd.underlying9]
    rfl
  | some a => exact run_convert_bytes_back (P := Tryd.prog) w 25 9 5 a cap [] Tryd.underlying25 Tryd.underlying5 Tryd.underlying9 (fun j hj => absurd hj (by simp))
theorem conv_take (l : List UInt8) (n b o cap : Nat) (w : World) (hn : n ≤ l.length) (hc : ∀ i (h : i < l.length), w.cell? ⟨b, o + i, none⟩ = some (.int .u8 (l[i].toNat : Int))) : (convert 25 9 (.slice (some ⟨b, o, none⟩) n cap)).run Tryd.prog w = .ok (.string ⟨(l.take n).toArray⟩) w := by
  have h := run_convert_bytes_back (P := Tryd.prog) w 25 9 5 ⟨b, o, none⟩ cap (l.take n) Tryd.underlying25 Tryd.underlying5 Tryd.underlying9 (fun j hj => by
    have hj' : j < l.length := by rw [List.length_take] at hj; omega
    have e : (⟨b, o, none⟩ : Addr).add j = ⟨b, o + j, none⟩ := by
      unfold Addr.add
      split
      · subst_vars; rfl
      · rfl
    rw [e, hc j hj']
    simp)
  rw [List.length_take, Nat.min_eq_left hn] at h
  exact h

set_option maxHeartbeats 8000000 in
set_option maxRecDepth 100000 in
theorem text_any (rb B : Nat) (r : Rd) (lo hi : Int) (w : World) (hr : RdAt w rb B r) (hlo : 0 ≤ lo) (hhi : hi ≤ 1000) :
    Calls Tryd.prog 77 #[.pointer (some ⟨rb, 0, none⟩), .int .i64 lo, .int .i64 hi] w fun en w' => en = .returned (.string (textR lo hi r).1) ∧ RdTo rb B w w' (textR lo hi r).2 := by
  have HT := Lib.hid (textR_eq lo hi r)
  have HNL := Lib.hid (numberR_lo lo hi hlo r)
  have HNUM := Lib.hid (number_any rb B r lo hi w hr)
  obtain ⟨⟨m, r1⟩, hm⟩ : ∃ x, x = numberR lo hi r := ⟨_, rfl⟩
  rw [← hm] at HT HNL HNUM
  simp only at HT HNL HNUM
  have hm0 := HNL.out.1
  obtain ⟨n, rfl⟩ : ∃ n : Nat, m = (n : Int) := ⟨m.toNat, by omega⟩
  have hn1000 : n ≤ 1000 := by have := HNL.out.2; omega
  rw [Int.toNat_natCast] at HT
  clear hm hr hm0
  go_enter Tryd.func77, Tryd.ntmps77
  go_wp2_with fail
  refine HNUM.out.mono ?_; rintro e w1 ⟨rfl, hto1⟩
  have HTO1 := Lib.hid hto1
  obtain ⟨ao, cap, c0, hcap, hcm, hoff⟩ := hto1.at'.ex
  have f0 := hto1.at'.f0
  have HOFF := Lib.hid hoff
  clear hoff hto1
  unfold maxLen at hcm
  by_cases hlt : r1.rest.length < n
  · have HE := Lib.hid (show textR lo hi r = (⟨#[]⟩, r1.refuse 30) by rw [HT.out, if_pos (by omega)])
    go_wp2_with fail
    refine (refuse_any rb B r1 30 _ HTO1.out.at').mono ?_; rintro e w2 ⟨rfl, hto⟩
    go_wp2_with fail
    go_ret
    exact ⟨by rw [HE.out]; rfl, by rw [HE.out]; exact HTO1.out.trans hto⟩
  · have HE := Lib.hid (show textR lo hi r = (⟨(r1.rest.take n).toArray⟩, ⟨r1.rest.drop n, r1.fault⟩) by rw [HT.out, if_neg (by omega)])
    by_cases h0 : n = 0
    · subst h0
      have hcv := conv_nil ao cap w1
      have HTO := Lib.hid (HTO1.out.at'.setRest ao cap r1.rest hcap (by unfold maxLen; omega) HOFF.out)
      go_wp2_with fail
      go_ret
      refine ⟨by rw [HE.out]; rfl, ?_⟩
      rw [HE.out]
      exact HTO1.out.trans HTO.out
    · obtain ⟨b, o, rfl, hbr, hbl, hc⟩ : ∃ b o, ao = some ⟨b, o, none⟩ ∧ b ≠ rb ∧ b < B ∧ ∀ i (h : i < r1.rest.length), w1.cell? ⟨b, o + i, none⟩ = some (.int .u8 (r1.rest[i].toNat : Int)) := by
        rcases HOFF.out with h | h
        · exfalso; rw [h] at hlt; simp at hlt; omega
        · exact h
      have hcv := conv_take r1.rest n b o cap w1 (by omega) hc
      have hle : n ≤ r1.rest.length := by omega
      have hpos : 0 < n := by omega
      clear hc
      by_cases hcp : n = cap
      · have HTO := Lib.hid (show RdTo rb B w1 (w1.setCell ⟨rb, 0, none⟩ (.slice (some ⟨b, o, none⟩) 0 0)) ⟨r1.rest.drop n, r1.fault⟩ by
          have h := HTO1.out.at'.setRest (some ⟨b, o, none⟩) 0 [] (Nat.le_refl _) (by unfold maxLen; omega) (Or.inl rfl)
          rw [List.drop_of_length_le (by omega)]
          exact h)
        subst hcp
        have hrl : r1.rest.length = n := by omega
        go_wp2_with fail
        go_ret
        refine ⟨by rw [HE.out]; rfl, ?_⟩
        rw [HE.out]
        have h := HTO1.out.trans HTO.out
        have e1 : r1.rest.length - n = 0 := by omega
        first | exact h | (rw [e1, Nat.sub_self]; exact h)
      · have HTO := Lib.hid (show RdTo rb B w1 (w1.setCell ⟨rb, 0, none⟩ (.slice (some ⟨b, o + n, none⟩) (r1.rest.length - n) (cap - n))) ⟨r1.rest.drop n, r1.fault⟩ by
          have h := HTO1.out.at'.setRest (some ⟨b, o + n, none⟩) (cap - n) (r1.rest.drop n) (by rw [List.length_drop]; omega) (by unfold maxLen; omega) (BytesOff.drop n HOFF.out)
          rw [List.length_drop] at h
          exact h)
        go_wp2_with fail
        go_ret
        exact ⟨by rw [HE.out]; rfl, by rw [HE.out]; exact HTO1.out.trans HTO.out⟩
end Go.Proofs.YtekaimfabadclaaDoor
/- Package wire, the reader: value. -/
namespace Go.Proofs.YtekaimfabadclaaDoor
open Go Go.RowKit

theorem RdTo.pre {rb B : Nat} {w w1 w' : World} {r : Rd} (hb : Below w.heap.size w w1) (h : RdTo rb B w1 w' r) : RdTo rb B w w' r := ⟨grownBy_trans (grownBy_of_below hb (some rb)) h.grown (Or.inl rfl), h.at'⟩
/-- The reader beside memory that is written: from a block on, the reader's own one left out. -/
theorem RdAt.keep {w w' : World} {rb B : Nat} {r : Rd} (h : RdAt w rb B r) (hh : w'.heap[rb]? = w.heap[rb]?) (hk : ∀ k, k < B → w'.heap[k]? = w.heap[k]?) : RdAt w' rb B r := by
  obtain ⟨ao, cap, c0, h1, h2, h3⟩ := h.ex
  refine ⟨⟨ao, cap, (World.cell?_of_block (a := ⟨rb, 0, none⟩) hh).trans c0, h1, h2, ?_⟩, (World.cell?_of_block (a := ⟨rb, 1, none⟩) hh).trans h.c1, (World.frozen?_of_block (a := ⟨rb, 0, none⟩) hh).trans h.f0, (World.frozen?_of_block (a := ⟨rb, 1, none⟩) hh).trans h.f1⟩
  rcases h3 with h3 | ⟨b, o, e, g1, g2, g3⟩
  · exact Or.inl h3
  · exact Or.inr ⟨b, o, e, g1, g2, fun i hi => (World.cell?_of_block (a := ⟨b, o + i, none⟩) (hk b g2)).trans (g3 i hi)⟩
theorem RdTo.keep {rb B : Nat} {w w' w'' : World} {r : Rd} {row : Option Nat} (h : RdTo rb B w w' r) (hg : w'.grownBy w'' row) (hB : B ≤ w.heap.size) (hrb : rb < w.heap.size) (hr : ∀ k, row = some k → w.heap.size ≤ k) : RdTo rb B w w'' r := by
  have hz := h.grown.size
  refine ⟨grownBy_trans h.grown hg (Or.inr (fun g e => hr g e)), h.at'.keep (hg.block rb (by omega) (fun e => by have := hr rb e.symm; omega)) (fun k hk => hg.block k (by omega) (fun e => by have := hr k e.symm; omega))⟩
theorem RdTo.set {rb B : Nat} {w w' : World} {r : Rd} {a : Addr} (h : RdTo rb B w w' r) (hB : B ≤ w.heap.size) (hrb : rb < w.heap.size) (ha : w.heap.size ≤ a.block) (x : Value) : RdTo rb B w (w'.setCell a x) r :=
  h.keep (row := some a.block) ⟨rfl, rfl, rfl, by simp [World.setCell], fun k _ hne => Below.heap_setCell _ _ _ _ (fun e => hne (by rw [e]))⟩ hB hrb (fun k e => by cases e; exact ha)
/-- A block of four cells of the call's own. -/
structure Cells4 (w : World) (b : Nat) (v0 v1 v2 v3 : Value) : Prop where
  c0 : w.cell? ⟨b, 0, none⟩ = some v0
  c1 : w.cell? ⟨b, 1, none⟩ = some v1
  c2 : w.cell? ⟨b, 2, none⟩ = some v2
  c3 : w.cell? ⟨b, 3, none⟩ = some v3
  f0 : w.frozen? ⟨b, 0, none⟩ = false
  f1 : w.frozen? ⟨b, 1, none⟩ = false
  f2 : w.frozen? ⟨b, 2, none⟩ = false
  f3 : w.frozen? ⟨b, 3, none⟩ = false
theorem Cells4.of {w : World} {b : Nat} {v0 v1 v2 v3 : Value} {t : TypeId} (h : w.heap[b]? = some (Obj.cells #[v0, v1, v2, v3] t (0, 0))) : Cells4 w b v0 v1 v2 v3 :=
  ⟨by simp [World.cell?, h], by simp [World.cell?, h], by simp [World.cell?, h], by simp [World.cell?, h], by simp [World.frozen?, h], by simp [World.frozen?, h], by simp [World.frozen?, h], by simp [World.frozen?, h]⟩
theorem Cells4.made (w : World) (v0 v1 v2 v3 : Value) (t : TypeId) : Cells4 (w.alloc (Obj.cells #[v0, v1, v2, v3] t)) w.heap.size v0 v1 v2 v3 := Cells4.of (heap_alloc_new _ _)
theorem Cells4.keep {w w' : World} {b : Nat} {v0 v1 v2 v3 : Value} (h : Cells4 w b v0 v1 v2 v3) (hh : w'.heap[b]? = w.heap[b]?) : Cells4 w' b v0 v1 v2 v3 :=
  ⟨(World.cell?_of_block (a := ⟨b, 0, none⟩) hh).trans h.c0, (World.cell?_of_block (a := ⟨b, 1, none⟩) hh).trans h.c1, (World.cell?_of_block (a := ⟨b, 2, none⟩) hh).trans h.c2, (World.cell?_of_block (a := ⟨b, 3, none⟩) hh).trans h.c3,
   (World.frozen?_of_block (a := ⟨b, 0, none⟩) hh).trans h.f0, (World.frozen?_of_block (a := ⟨b, 1, none⟩) hh).trans h.f1, (World.frozen?_of_block (a := ⟨b, 2, none⟩) hh).trans h.f2, (World.frozen?_of_block (a := ⟨b, 3, none⟩) hh).trans h.f3⟩
theorem Cells4.lt {w : World} {b : Nat} {v0 v1 v2 v3 : Value} (h : Cells4 w b v0 v1 v2 v3) : b < w.heap.size := World.block_lt_of_cell? w _ h.c0
theorem Cells4.to {rb B : Nat} {w w' : World} {b : Nat} {v0 v1 v2 v3 : Value} {r : Rd} (h : Cells4 w b v0 v1 v2 v3) (ht : RdTo rb B w w' r) (hne : b ≠ rb) : Cells4 w' b v0 v1 v2 v3 := h.keep (ht.grown.block b h.lt (fun e => hne (Option.some.inj e)))
theorem Cells4.alloc {w : World} {b : Nat} {v0 v1 v2 v3 : Value} (h : Cells4 w b v0 v1 v2 v3) (o : Obj) : Cells4 (w.alloc o) b v0 v1 v2 v3 := h.keep (Below.heap_alloc _ _ _ h.lt)
theorem singleR_le (lo hi : Nat) (r : Rd) : (singleR lo hi r).1 ≤ hi := by
  unfold singleR
  split
  · exact Nat.zero_le _
  · split
    · exact Nat.zero_le _
    · simp only; omega

theorem bool_nat (n : Nat) : (n == 1) = ((n : Int) == 1) := by
  rw [Bool.eq_iff_iff, beq_iff_eq, beq_iff_eq]
  omega
set_option maxHeartbeats 8000000 in
set_option maxRecDepth 100000 in
theorem value_any (rb B : Nat) (r : Rd) (w : World) (hr : RdAt w rb B r) (hB : B ≤ w.heap.size) :
    Calls Tryd.prog 80 #[.pointer (some ⟨rb, 0, none⟩)] w fun en w' => en = .returned (valueR r).1.v ∧ RdTo rb B w w' (valueR r).2 := by
  have hrl := hr.lt
  obtain ⟨W0, hW0⟩ : ∃ W0, W0 = w.alloc (Obj.cells #[.int .i64 0, .int .i64 0, .string ⟨#[]⟩, .bool false] 95) := ⟨_, rfl⟩
  have hb0 : Below w.heap.size w W0 := by rw [hW0]; exact (Below.refl _ _).alloc (Nat.le_refl _) _
  have HB0 := Lib.hid hb0
  have HR0 := Lib.hid (hr.below hb0)
  have HA0 := Lib.hid (show Cells4 W0 w.heap.size (.int .i64 0) (.int .i64 0) (.string ⟨#[]⟩) (.bool false) by rw [hW0]; exact Cells4.made _ _ _ _ _ _)
  have hz0 : w.heap.size < W0.heap.size := by rw [hW0]; simp
  have HW0 := Lib.hid hW0
  have HV := Lib.hid (show valueR r = ((tailR (singleR 1 3 r).1 (singleR 1 3 r).2).1, (tailR (singleR 1 3 r).1 (singleR 1 3 r).2).2) from rfl)
  have hk3 := singleR_le 1 3 r
  have HS := Lib.hid (single_any rb B r 1 3 W0 HR0.out)
  obtain ⟨⟨k, r1⟩, hkr⟩ : ∃ x, x = singleR 1 3 r := ⟨_, rfl⟩
  rw [← hkr] at HV HS hk3
  simp only at HV HS hk3
  clear hr hb0 hW0 hkr
  have hne : w.heap.size ≠ rb := by omega
  have hk : k = 0 ∨ k = 1 ∨ k = 2 ∨ k = 3 := by omega
  clear hk3
  go_enter Tryd.func80, Tryd.ntmps80
  go_upto_region 1 with fail
  rw [← HW0.out]
  go_wp2_with fail
  (refine HS.out.mono ?_); rintro e w1 ⟨rfl, hto1⟩
  have HTO1 := Lib.hid hto1
  have HA1 := Lib.hid (HA0.out.to hto1 hne)
  have hz1 : w.heap.size < w1.heap.size := Nat.lt_of_lt_of_le hz0 hto1.grown.size
  clear hto1
  rcases hk with rfl | rfl | rfl | rfl
  · obtain ⟨W2, hW2⟩ : ∃ W2, W2 = w1.alloc (Obj.cells #[.int .i64 0, .int .i64 0, .string ⟨#[]⟩, .bool false] 95) := ⟨_, rfl⟩
    have hb2 : Below w1.heap.size w1 W2 := by rw [hW2]; exact (Below.refl _ _).alloc (Nat.le_refl _) _
    have HTO2 := Lib.hid ((RdTo.pre HB0.out HTO1.out).below hb2)
    have HA2 := Lib.hid (show Cells4 W2 w.heap.size (.int .i64 0) (.int .i64 0) (.string ⟨#[]⟩) (.bool false) by rw [hW2]; exact HA1.out.alloc _)
    obtain ⟨V, hV⟩ : ∃ V, V = w1.heap.size := ⟨_, rfl⟩
    have HV2 := Lib.hid (show Cells4 W2 V (.int .i64 0) (.int .i64 0) (.string ⟨#[]⟩) (.bool false) by rw [hW2, hV]; exact Cells4.made _ _ _ _ _ _)
    have hVw : w.heap.size < V := by omega
    have HW2 := Lib.hid hW2
    have HVE := Lib.hid hV
    have hVr : V ≠ rb := by omega
    have hVA : V ≠ w.heap.size := by omega
    have hAV : w.heap.size ≠ V := by omega
    clear hb2 hW2 hV
    have v0 := HV2.out.c0
    have HE := Lib.hid (show valueR r = (⟨0, 0, ⟨#[]⟩, false⟩, r1) by rw [HV.out]; rfl)
    clear v0
    have a0 := HA2.out.c0
    have b0 := HA2.out.f0
    have v0 := HV2.out.c0
    have a1 := HA2.out.c1
    have b1 := HA2.out.f1
    have v1 := HV2.out.c1
    have a2 := HA2.out.c2
    have b2 := HA2.out.f2
    have v2 := HV2.out.c2
    have a3 := HA2.out.c3
    have b3 := HA2.out.f3
    have v3 := HV2.out.c3
    go_upto_region 2 with fail
    rw [← HW2.out, ← HVE.out]
    go_wp2_with fail
    refine bodyPost_ret (v := .agg #[.int .i64 0, .int .i64 0, .string ⟨#[]⟩, .bool false]) (by simp [results, Tryd.results80, go_sem, a0, a1, a2, a3]) rfl ⟨by rw [HE.out]; rfl, ?_⟩
    rw [HE.out]
    exact (((HTO2.out.set hB hrl (Nat.le_refl _) _).set hB hrl (Nat.le_refl _) _).set hB hrl (Nat.le_refl _) _).set hB hrl (Nat.le_refl _) _
  · obtain ⟨W2, hW2⟩ : ∃ W2, W2 = w1.alloc (Obj.cells #[.int .i64 1, .int .i64 0, .string ⟨#[]⟩, .bool false] 95) := ⟨_, rfl⟩
    have hb2 : Below w1.heap.size w1 W2 := by rw [hW2]; exact (Below.refl _ _).alloc (Nat.le_refl _) _
    have HTO2 := Lib.hid ((RdTo.pre HB0.out HTO1.out).below hb2)
    have HA2 := Lib.hid (show Cells4 W2 w.heap.size (.int .i64 0) (.int .i64 0) (.string ⟨#[]⟩) (.bool false) by rw [hW2]; exact HA1.out.alloc _)
    obtain ⟨V, hV⟩ : ∃ V, V = w1.heap.size := ⟨_, rfl⟩
    have HV2 := Lib.hid (show Cells4 W2 V (.int .i64 1) (.int .i64 0) (.string ⟨#[]⟩) (.bool false) by rw [hW2, hV]; exact Cells4.made _ _ _ _ _ _)
    have hVw : w.heap.size < V := by omega
    have HW2 := Lib.hid hW2
    have HVE := Lib.hid hV
    have hVr : V ≠ rb := by omega
    have hVA : V ≠ w.heap.size := by omega
    have hAV : w.heap.size ≠ V := by omega
    clear hb2 hW2 hV
    have v0 := HV2.out.c0
    go_upto_region 2 with fail
    rw [← HW2.out, ← HVE.out]
    go_wp2_with fail
    clear v0
    (refine (number_any rb B r1 (-9223372036854775808) 9223372036854775807 W2 HTO2.out.at').mono ?_); rintro e w3 ⟨rfl, hto3⟩
    have HA3 := Lib.hid (HA2.out.to hto3 hne)
    have HV3 := Lib.hid (HV2.out.to hto3 hVr)
    have HTO3 := Lib.hid (HTO2.out.trans hto3)
    clear hto3
    have a0 := HA3.out.c0
    have b0 := HA3.out.f0
    have v0 := HV3.out.c0
    have a1 := HA3.out.c1
    have b1 := HA3.out.f1
    have v1 := HV3.out.c1
    have a2 := HA3.out.c2
    have b2 := HA3.out.f2
    have v2 := HV3.out.c2
    have a3 := HA3.out.c3
    have b3 := HA3.out.f3
    have v3 := HV3.out.c3
    have g1 := HV3.out.f1
    have HE := Lib.hid (show valueR r = (⟨1, (numberR (-9223372036854775808) 9223372036854775807 r1).1, ⟨#[]⟩, false⟩, (numberR (-9223372036854775808) 9223372036854775807 r1).2) by rw [HV.out]; rfl)
    go_wp2_with fail
    refine bodyPost_ret (v := .agg #[.int .i64 1, .int .i64 (numberR (-9223372036854775808) 9223372036854775807 r1).1, .string ⟨#[]⟩, .bool false]) (by simp [results, Tryd.results80, go_sem, a0, a1, a2, a3]) rfl ⟨by rw [HE.out]; rfl, ?_⟩
    rw [HE.out]
    exact ((((HTO3.out.set hB hrl (Nat.le_of_lt hVw) _).set hB hrl (Nat.le_refl _) _).set hB hrl (Nat.le_refl _) _).set hB hrl (Nat.le_refl _) _).set hB hrl (Nat.le_refl _) _
  · obtain ⟨W2, hW2⟩ : ∃ W2, W2 = w1.alloc (Obj.cells #[.int .i64 2, .int .i64 0, .string ⟨#[]⟩, .bool false] 95) := ⟨_, rfl⟩
    have hb2 : Below w1.heap.size w1 W2 := by rw [hW2]; exact (Below.refl _ _).alloc (Nat.le_refl _) _
    have HTO2 := Lib.hid ((RdTo.pre HB0.out HTO1.out).below hb2)
    have HA2 := Lib.hid (show Cells4 W2 w.heap.size (.int .i64 0) (.int .i64 0) (.string ⟨#[]⟩) (.bool false) by rw [hW2]; exact HA1.out.alloc _)
    obtain ⟨V, hV⟩ : ∃ V, V = w1.heap.size := ⟨_, rfl⟩
    have HV2 := Lib.hid (show Cells4 W2 V (.int .i64 2) (.int .i64 0) (.string ⟨#[]⟩) (.bool false) by rw [hW2, hV]; exact Cells4.made _ _ _ _ _ _)
    have hVw : w.heap.size < V := by omega
    have HW2 := Lib.hid hW2
    have HVE := Lib.hid hV
    have hVr : V ≠ rb := by omega
    have hVA : V ≠ w.heap.size := by omega
    have hAV : w.heap.size ≠ V := by omega
    clear hb2 hW2 hV
    have v0 := HV2.out.c0
    go_upto_region 2 with fail
    rw [← HW2.out, ← HVE.out]
    go_wp2_with fail
    clear v0
    (refine (text_any rb B r1 0 256 W2 HTO2.out.at' (by omega) (by omega)).mono ?_); rintro e w3 ⟨rfl, hto3⟩
    have HA3 := Lib.hid (HA2.out.to hto3 hne)
    have HV3 := Lib.hid (HV2.out.to hto3 hVr)
    have HTO3 := Lib.hid (HTO2.out.trans hto3)
    clear hto3
    have a0 := HA3.out.c0
    have b0 := HA3.out.f0
    have v0 := HV3.out.c0
    have a1 := HA3.out.c1
    have b1 := HA3.out.f1
    have v1 := HV3.out.c1
    have a2 := HA3.out.c2
    have b2 := HA3.out.f2
    have v2 := HV3.out.c2
    have a3 := HA3.out.c3
    have b3 := HA3.out.f3
    have v3 := HV3.out.c3
    have g2 := HV3.out.f2
    have HE := Lib.hid (show valueR r = (⟨2, 0, (textR 0 256 r1).1, false⟩, (textR 0 256 r1).2) by rw [HV.out]; rfl)
    go_wp2_with fail
    refine bodyPost_ret (v := .agg #[.int .i64 2, .int .i64 0, .string (textR 0 256 r1).1, .bool false]) (by simp [results, Tryd.results80, go_sem, a0, a1, a2, a3]) rfl ⟨by rw [HE.out]; rfl, ?_⟩
    rw [HE.out]
    exact ((((HTO3.out.set hB hrl (Nat.le_of_lt hVw) _).set hB hrl (Nat.le_refl _) _).set hB hrl (Nat.le_refl _) _).set hB hrl (Nat.le_refl _) _).set hB hrl (Nat.le_refl _) _
  · obtain ⟨W2, hW2⟩ : ∃ W2, W2 = w1.alloc (Obj.cells #[.int .i64 3, .int .i64 0, .string ⟨#[]⟩, .bool false] 95) := ⟨_, rfl⟩
    have hb2 : Below w1.heap.size w1 W2 := by rw [hW2]; exact (Below.refl _ _).alloc (Nat.le_refl _) _
    have HTO2 := Lib.hid ((RdTo.pre HB0.out HTO1.out).below hb2)
    have HA2 := Lib.hid (show Cells4 W2 w.heap.size (.int .i64 0) (.int .i64 0) (.string ⟨#[]⟩) (.bool false) by rw [hW2]; exact HA1.out.alloc _)
    obtain ⟨V, hV⟩ : ∃ V, V = w1.heap.size := ⟨_, rfl⟩
    have HV2 := Lib.hid (show Cells4 W2 V (.int .i64 3) (.int .i64 0) (.string ⟨#[]⟩) (.bool false) by rw [hW2, hV]; exact Cells4.made _ _ _ _ _ _)
    have hVw : w.heap.size < V := by omega
    have HW2 := Lib.hid hW2
    have HVE := Lib.hid hV
    have hVr : V ≠ rb := by omega
    have hVA : V ≠ w.heap.size := by omega
    have hAV : w.heap.size ≠ V := by omega
    clear hb2 hW2 hV
    have v0 := HV2.out.c0
    go_upto_region 2 with fail
    rw [← HW2.out, ← HVE.out]
    go_wp2_with fail
    clear v0
    (refine (single_any rb B r1 0 1 W2 HTO2.out.at').mono ?_); rintro e w3 ⟨rfl, hto3⟩
    have HA3 := Lib.hid (HA2.out.to hto3 hne)
    have HV3 := Lib.hid (HV2.out.to hto3 hVr)
    have HTO3 := Lib.hid (HTO2.out.trans hto3)
    clear hto3
    have a0 := HA3.out.c0
    have b0 := HA3.out.f0
    have v0 := HV3.out.c0
    have a1 := HA3.out.c1
    have b1 := HA3.out.f1
    have v1 := HV3.out.c1
    have a2 := HA3.out.c2
    have b2 := HA3.out.f2
    have v2 := HV3.out.c2
    have a3 := HA3.out.c3
    have b3 := HA3.out.f3
    have v3 := HV3.out.c3
    have g3 := HV3.out.f3
    have HE := Lib.hid (show valueR r = (⟨3, 0, ⟨#[]⟩, ((singleR 0 1 r1).1 : Int) == 1⟩, (singleR 0 1 r1).2) by rw [HV.out]; exact Prod.ext (congrArg (fun b => (⟨3, 0, ⟨#[]⟩, b⟩ : Val)) (bool_nat _)) rfl)
    go_wp2_with fail
    refine bodyPost_ret (v := .agg #[.int .i64 3, .int .i64 0, .string ⟨#[]⟩, .bool (((singleR 0 1 r1).1 : Int) == 1)]) (by simp [results, Tryd.results80, go_sem, a0, a1, a2, a3]) rfl ⟨by rw [HE.out]; rfl, ?_⟩
    rw [HE.out]
    exact ((((HTO3.out.set hB hrl (Nat.le_of_lt hVw) _).set hB hrl (Nat.le_refl _) _).set hB hrl (Nat.le_refl _) _).set hB hrl (Nat.le_refl _) _).set hB hrl (Nat.le_refl _) _
end Go.Proofs.YtekaimfabadclaaDoor
/- Package wire, the reader: event. -/
namespace Go.Proofs.YtekaimfabadclaaDoor
open Go Go.RowKit

/-- A value's cells. -/
def Val.cells (a : Val) : List Value := [.int .i64 a.kind, .int .i64 a.int, .string a.str, .bool a.bool]
/-- The cells of a list of values. -/
def valCells (l : List Val) : List Value := l.flatMap fun a => a.cells
theorem valCells_length (l : List Val) : (valCells l).length = l.length * 4 := by
  induction l with
  | nil => rfl
  | cons a r ih =>
    simp only [valCells, List.flatMap_cons, List.length_append, List.length_cons, Val.cells, List.length_nil] at ih ⊢
    omega
theorem valCells_get (l : List Val) (i : Nat) (h : i < l.length) : (valCells l)[i * 4]? = some (.int .i64 l[i].kind) ∧ (valCells l)[i * 4 + 1]? = some (.int .i64 l[i].int) ∧ (valCells l)[i * 4 + 2]? = some (.string l[i].str) ∧ (valCells l)[i * 4 + 3]? = some (.bool l[i].bool) := by
  induction l generalizing i with
  | nil => simp at h
  | cons a r ih =>
    cases i with
    | zero => simp [valCells, Val.cells]
    | succ i =>
      have := ih i (by simp at h; omega)
      have e1 : (i + 1) * 4 = i * 4 + 4 := by omega
      rw [e1]
      simp only [valCells, Val.cells, List.flatMap_cons, List.cons_append, List.nil_append, List.getElem_cons_succ] at this ⊢
      exact ⟨this.1, this.2.1, this.2.2.1, this.2.2.2⟩
theorem valCells_snoc (l : List Val) (a : Val) : valCells (l ++ [a]) = valCells l ++ a.cells := by simp [valCells]
theorem Tryd.infoVal : (Tryd.prog.info? 95).map (fun i => (i.zero, i.size, i.bytes)) = some (some (.agg #[.int .i64 0, .int .i64 0, .string ⟨#[]⟩, .bool false]), 4, 40) := by kernel_rfl
/-- A block of three cells of the call's own. -/
structure Cells3 (w : World) (b : Nat) (v0 v1 v2 : Value) : Prop where
  c0 : w.cell? ⟨b, 0, none⟩ = some v0
  c1 : w.cell? ⟨b, 1, none⟩ = some v1
  c2 : w.cell? ⟨b, 2, none⟩ = some v2
  f0 : w.frozen? ⟨b, 0, none⟩ = false
  f1 : w.frozen? ⟨b, 1, none⟩ = false
  f2 : w.frozen? ⟨b, 2, none⟩ = false
theorem Cells3.of {w : World} {b : Nat} {v0 v1 v2 : Value} {t : TypeId} (h : w.heap[b]? = some (Obj.cells #[v0, v1, v2] t (0, 0))) : Cells3 w b v0 v1 v2 :=
  ⟨by simp [World.cell?, h], by simp [World.cell?, h], by simp [World.cell?, h], by simp [World.frozen?, h], by simp [World.frozen?, h], by simp [World.frozen?, h]⟩
theorem Cells3.made (w : World) (v0 v1 v2 : Value) (t : TypeId) : Cells3 (w.alloc (Obj.cells #[v0, v1, v2] t)) w.heap.size v0 v1 v2 := Cells3.of (heap_alloc_new _ _)
theorem Cells3.keep {w w' : World} {b : Nat} {v0 v1 v2 : Value} (h : Cells3 w b v0 v1 v2) (hh : w'.heap[b]? = w.heap[b]?) : Cells3 w' b v0 v1 v2 :=
  ⟨(World.cell?_of_block (a := ⟨b, 0, none⟩) hh).trans h.c0, (World.cell?_of_block (a := ⟨b, 1, none⟩) hh).trans h.c1, (World.cell?_of_block (a := ⟨b, 2, none⟩) hh).trans h.c2,
   (World.frozen?_of_block (a := ⟨b, 0, none⟩) hh).trans h.f0, (World.frozen?_of_block (a := ⟨b, 1, none⟩) hh).trans h.f1, (World.frozen?_of_block (a := ⟨b, 2, none⟩) hh).trans h.f2⟩
theorem Cells3.lt {w : World} {b : Nat} {v0 v1 v2 : Value} (h : Cells3 w b v0 v1 v2) : b < w.heap.size := World.block_lt_of_cell? w _ h.c0
theorem Cells3.to {rb B : Nat} {w w' : World} {b : Nat} {v0 v1 v2 : Value} {r : Rd} (h : Cells3 w b v0 v1 v2) (ht : RdTo rb B w w' r) (hne : b ≠ rb) : Cells3 w' b v0 v1 v2 := h.keep (ht.grown.block b h.lt (fun e => hne (Option.some.inj e)))
theorem Cells3.below {w w' : World} {b : Nat} {v0 v1 v2 : Value} (h : Cells3 w b v0 v1 v2) (hb : Below w.heap.size w w') : Cells3 w' b v0 v1 v2 := h.keep (hb.block b h.lt)
theorem Cells3.grown {w w' : World} {b : Nat} {v0 v1 v2 : Value} {row : Option Nat} (h : Cells3 w b v0 v1 v2) (hg : w.grownBy w' row) (hne : some b ≠ row) : Cells3 w' b v0 v1 v2 := h.keep (hg.block b h.lt hne)
theorem Cells3.set0 {w : World} {b : Nat} {v0 v1 v2 : Value} (h : Cells3 w b v0 v1 v2) (x : Value) : Cells3 (w.setCell ⟨b, 0, none⟩ x) b x v1 v2 :=
  ⟨World.cell?_setCell_same _ _ _ h.c0, (World.cell?_setCell_other _ _ _ _ (by intro e; cases e)).trans h.c1, (World.cell?_setCell_other _ _ _ _ (by intro e; cases e)).trans h.c2, (World.frozen?_setCell _ _ _ _).trans h.f0, (World.frozen?_setCell _ _ _ _).trans h.f1, (World.frozen?_setCell _ _ _ _).trans h.f2⟩
theorem Cells3.set1 {w : World} {b : Nat} {v0 v1 v2 : Value} (h : Cells3 w b v0 v1 v2) (x : Value) : Cells3 (w.setCell ⟨b, 1, none⟩ x) b v0 x v2 :=
  ⟨(World.cell?_setCell_other _ _ _ _ (by intro e; cases e)).trans h.c0, World.cell?_setCell_same _ _ _ h.c1, (World.cell?_setCell_other _ _ _ _ (by intro e; cases e)).trans h.c2, (World.frozen?_setCell _ _ _ _).trans h.f0, (World.frozen?_setCell _ _ _ _).trans h.f1, (World.frozen?_setCell _ _ _ _).trans h.f2⟩
theorem Cells3.set2 {w : World} {b : Nat} {v0 v1 v2 : Value} (h : Cells3 w b v0 v1 v2) (x : Value) : Cells3 (w.setCell ⟨b, 2, none⟩ x) b v0 v1 x :=
  ⟨(World.cell?_setCell_other _ _ _ _ (by intro e; cases e)).trans h.c0, (World.cell?_setCell_other _ _ _ _ (by intro e; cases e)).trans h.c1, World.cell?_setCell_same _ _ _ h.c2, (World.frozen?_setCell _ _ _ _).trans h.f0, (World.frozen?_setCell _ _ _ _).trans h.f1, (World.frozen?_setCell _ _ _ _).trans h.f2⟩
theorem Cells3.other {w : World} {b : Nat} {v0 v1 v2 : Value} (h : Cells3 w b v0 v1 v2) {a : Addr} (hne : b ≠ a.block) (x : Value) : Cells3 (w.setCell a x) b v0 v1 v2 := h.keep (Below.heap_setCell _ _ _ _ hne)
theorem owns_to {rb B : Nat} {w w' : World} {r : Rd} {base : Nat} {e : TypeId} {size : Nat} {v : Value} {n : Nat} {xs : List Value} (h : w.ownsRow base e size v n xs) (ht : RdTo rb B w w' r) (hb : rb < base) : w'.ownsRow base e size v n xs :=
  h.kept ht.grown (by
    cases hv : v.ownBlock with
    | none => exact Or.inl rfl
    | some g =>
      right
      intro e
      have := (h.lt g hv).1
      injection e with e
      omega)
theorem own_base {w : World} {base base' : Nat} {e : TypeId} {size : Nat} {v : Value} {n : Nat} {xs : List Value} (h : w.ownsRow base e size v n xs) (hb : base' ≤ base) : w.ownsRow base' e size v n xs := by
  obtain ⟨h1, h2⟩ := h
  refine ⟨h1, ?_⟩
  rcases h2 with h2 | ⟨g, cap, cur, hv, hg, hh, r⟩
  · exact Or.inl h2
  · exact Or.inr ⟨g, cap, cur, hv, by omega, hh, r⟩
/-- What is read behind the type's name, as the program reads it. -/
theorem eventR_eq (r : Rd) (s : ByteArray) (r1 r3 r4 : Rd) (t c : Int) (h1 : textR 1 32 r = (s, r1)) (h3 : numberR 0 4611686018427387904 (if nameB s = true then r1 else r1.refuse 31) = (t, r3)) (h4 : numberR 0 16 r3 = (c, r4)) :
    eventR r = (⟨s, t, (timesR valueR c.toNat r4).1⟩, (timesR valueR c.toNat r4).2) := by
  unfold eventR mapped andThen lookR
  simp only [h1, h3, h4]
theorem timesR_step (n : Nat) (r : Rd) (acc : List Val) : (acc ++ (timesR valueR (n + 1) r).1, (timesR valueR (n + 1) r).2) = ((acc ++ [(valueR r).1]) ++ (timesR valueR n (valueR r).2).1, (timesR valueR n (valueR r).2).2) := by
  simp [timesR]

set_option maxHeartbeats 8000000 in
set_option maxRecDepth 100000 in
theorem event_any (rb B : Nat) (r : Rd) (w : World) (hres : ResAt w) (hr : RdAt w rb B r) (hB : B ≤ w.heap.size) (hrb : 0 ≠ rb) :
    Calls Tryd.prog 49 #[.pointer (some ⟨rb, 0, none⟩)] w fun en w' => (∃ g cap, en = .returned (.agg #[.string (eventR r).1.ty, .int .i64 (eventR r).1.time, .slice (some ⟨g, 0, none⟩) (eventR r).1.vals.length cap]) ∧ w'.ownsRow w.heap.size 95 4 (.slice (some ⟨g, 0, none⟩) (eventR r).1.vals.length cap) (eventR r).1.vals.length (valCells (eventR r).1.vals)) ∧ RdTo rb B w w' (eventR r).2 := by
  obtain ⟨i0, hi0, hz0, hz1, hz2⟩ := info_parts Tryd.infoVal
  have hrl := hr.lt
  obtain ⟨W0, hW0⟩ : ∃ W0, W0 = w.alloc (Obj.cells #[.string ⟨#[]⟩, .int .i64 0, .slice none 0 0] 24) := ⟨_, rfl⟩
  have hb0 : Below w.heap.size w W0 := by rw [hW0]; exact (Below.refl _ _).alloc (Nat.le_refl _) _
  have HB0 := Lib.hid hb0
  have HR0 := Lib.hid (hr.below hb0)
  have HRES := Lib.hid (hres.below hb0)
  have HA0 := Lib.hid (show Cells3 W0 w.heap.size (.string ⟨#[]⟩) (.int .i64 0) (.slice none 0 0) by rw [hW0]; exact Cells3.made _ _ _ _ _)
  have hzw : w.heap.size < W0.heap.size := by rw [hW0]; simp
  have HW0 := Lib.hid hW0
  have hne : w.heap.size ≠ rb := by omega
  obtain ⟨⟨s, r1⟩, h1⟩ : ∃ x, textR 1 32 r = x := ⟨_, rfl⟩
  obtain ⟨r2, h2⟩ : ∃ x, (if nameB s = true then r1 else r1.refuse 31) = x := ⟨_, rfl⟩
  obtain ⟨⟨tm, r3⟩, h3⟩ : ∃ x, numberR 0 4611686018427387904 r2 = x := ⟨_, rfl⟩
  obtain ⟨⟨c, r4⟩, h4⟩ : ∃ x, numberR 0 16 r3 = x := ⟨_, rfl⟩
  have hc := numberR_lo 0 16 (by omega) r3
  rw [h4] at hc
  simp only at hc
  obtain ⟨n, rfl⟩ : ∃ n : Nat, c = (n : Int) := ⟨c.toNat, by omega⟩
  have hn16 : n ≤ 16 := by omega
  have hev := eventR_eq r s r1 r3 r4 tm n h1 (by rw [h2]; exact h3) h4
  rw [Int.toNat_natCast] at hev
  have HEV := Lib.hid hev
  have H1 := Lib.hid h1
  have H2 := Lib.hid h2
  have H3 := Lib.hid h3
  have H4 := Lib.hid h4
  clear hr hb0 hres hW0 h1 h2 h3 h4 hc hev
  go_enter Tryd.func49, Tryd.ntmps49
  go_upto_region 1 with fail
  rw [← HW0.out]
  go_wp2_with fail
  (refine (text_any rb B r 1 32 W0 HR0.out (by omega) (by omega)).mono ?_); rintro e w1 ⟨rfl, hto1⟩
  rw [H1.out] at hto1 ⊢
  have HTO1 := Lib.hid hto1
  have HA1 := Lib.hid (HA0.out.to hto1 hne)
  have hz1' : w.heap.size < w1.heap.size := Nat.lt_of_lt_of_le hzw hto1.grown.size
  have HRES1 := Lib.hid (show ResAt w1 by
    have hl := HRES.out.lt
    obtain ⟨ty, fr, hg⟩ := HRES.out
    exact ⟨ty, fr, (hto1.grown.block _ hl (fun e => hrb (Option.some.inj e))).trans hg⟩)
  clear hto1
  obtain ⟨E, hE⟩ : ∃ E, E = w1.heap.size := ⟨_, rfl⟩
  obtain ⟨W2, hW2⟩ : ∃ W2, W2 = w1.alloc (Obj.cells #[.string s, .int .i64 0, .slice none 0 0] 24) := ⟨_, rfl⟩
  have hb2 : Below w1.heap.size w1 W2 := by rw [hW2]; exact (Below.refl _ _).alloc (Nat.le_refl _) _
  have HTO2 := Lib.hid ((RdTo.pre HB0.out HTO1.out).below hb2)
  have HA2 := Lib.hid (HA1.out.below hb2)
  have HRES2 := Lib.hid (HRES1.out.below hb2)
  have HE2 := Lib.hid (show Cells3 W2 E (.string s) (.int .i64 0) (.slice none 0 0) by rw [hW2, hE]; exact Cells3.made _ _ _ _ _)
  have hEw : w.heap.size < E := by omega
  have hEr : E ≠ rb := by omega
  have hEA : w.heap.size ≠ E := by omega
  have HW2 := Lib.hid hW2
  have HEE := Lib.hid hE
  clear hb2 hW2 hE
  have e0 := HE2.out.c0
  go_upto_region 2 with fail
  rw [← HW2.out, ← HEE.out]
  go_wp2_with fail
  (refine (name_any s W2 HRES2.out).mono ?_); rintro e w3 ⟨rfl, hb3⟩
  have HTO3 := Lib.hid (HTO2.out.below hb3)
  have HA3 := Lib.hid (HA2.out.below hb3)
  have HE3 := Lib.hid (HE2.out.below hb3)
  clear hb3 e0
  have hz3 : E < w3.heap.size := HE3.out.lt
  go_upto_if 11 with fail
  go_cut [] (fun wx => RdTo rb B w wx r2 ∧ Cells3 wx w.heap.size (.string ⟨#[]⟩) (.int .i64 0) (.slice none 0 0) ∧ Cells3 wx E (.string s) (.int .i64 0) (.slice none 0 0))
  case first =>
    cases hnb : nameB s
    · have HNR := Lib.hid (show r1.refuse 31 = r2 by rw [← H2.out, hnb]; rfl)
      have HNB := Lib.hid hnb
      clear hnb
      go_wp2_with fail
      (refine (refuse_any rb B r1 31 w3 HTO3.out.at').mono ?_); rintro e w4 ⟨rfl, hto4⟩
      rw [HNR.out] at hto4
      have HTO4 := Lib.hid hto4
      clear hto4
      go_wp2_with fail
      go_meet
      exact ⟨HTO3.out.trans HTO4.out, HA3.out.to HTO4.out hne, HE3.out.to HTO4.out hEr⟩
    · have HNR := Lib.hid (show r1 = r2 by rw [← H2.out, hnb]; rfl)
      have HNB := Lib.hid hnb
      clear hnb
      go_wp2_with fail
      go_meet
      exact ⟨HNR.out ▸ HTO3.out, HA3.out, HE3.out⟩
  case rest =>
    obtain ⟨hto4, ha4, he4⟩ := hcut
    obtain ⟨W4, hW4⟩ : ∃ W4, W4 = wc := ⟨_, rfl⟩
    rw [← hW4] at hto4 ha4 he4 ⊢
    clear hW4
    have HTO4 := Lib.hid hto4
    have HA4 := Lib.hid ha4
    have HE4 := Lib.hid he4
    clear hto4 ha4 he4
    go_wp2_with fail
    (refine (number_any rb B r2 0 4611686018427387904 W4 HTO4.out.at').mono ?_); rintro e w5 ⟨rfl, hto5⟩
    rw [H3.out] at hto5 ⊢
    have HTO5 := Lib.hid (HTO4.out.trans hto5)
    have HA5 := Lib.hid (HA4.out.to hto5 hne)
    have HE5 := Lib.hid (HE4.out.to hto5 hEr)
    clear hto5
    have e1 := HE5.out.c1
    have f1 := HE5.out.f1
    obtain ⟨W6, hW6⟩ : ∃ W6, W6 = w5.setCell ⟨E, 1, none⟩ (.int .i64 tm) := ⟨_, rfl⟩
    have HTO6 := Lib.hid (show RdTo rb B w W6 r3 by rw [hW6]; exact HTO5.out.set hB hrl (by simp; omega) _)
    have HA6 := Lib.hid (show Cells3 W6 w.heap.size (.string ⟨#[]⟩) (.int .i64 0) (.slice none 0 0) by rw [hW6]; exact HA5.out.other hEA _)
    have HE6 := Lib.hid (show Cells3 W6 E (.string s) (.int .i64 tm) (.slice none 0 0) by rw [hW6]; exact HE5.out.set1 _)
    have HW6 := Lib.hid hW6
    clear hW6
    go_upto_region 5 with fail
    rw [← HW6.out]
    clear e1 f1
    go_wp2_with fail
    (refine (number_any rb B r3 0 16 W6 HTO6.out.at').mono ?_); rintro e w7 ⟨rfl, hto7⟩
    rw [H4.out] at hto7 ⊢
    have HTO7 := Lib.hid (HTO6.out.trans hto7)
    have HA7 := Lib.hid (HA6.out.to hto7 hne)
    have HE7 := Lib.hid (HE6.out.to hto7 hEr)
    have hz7 : E < w7.heap.size := HE7.out.lt
    clear hto7
    have e2 := HE7.out.c2
    have f2 := HE7.out.f2
    go_upto_region 7 with (at_make; refine wpList_make_own _ rfl _ _ 22 rfl (E + 1) 95 i0 _ 4 Tryd.underlying22 hi0 hz0 hz1 .i64 .i64 _ n rfl rfl rfl (by rw [hz2]; omega) (by unfold maxLen; omega) (by omega) ?_; intro w8 hown8 hgrow8; have e2 := hgrow8.cell e2 (by simp); have f2 := (hgrow8.frozen_far ⟨E, 2, none⟩ (by simpa using hz7) (by simp)).trans f2)
    obtain ⟨gg0, hgg0⟩ : ∃ g, g = w7.heap.size := ⟨_, rfl⟩
    rw [← hgg0] at hown8 ⊢
    obtain ⟨W9, hW9⟩ : ∃ W9, W9 = w8.setCell ⟨E, 2, none⟩ (.slice (some ⟨gg0, 0, none⟩) 0 n) := ⟨_, rfl⟩
    have HTO9 := Lib.hid (show RdTo rb B w W9 r4 by rw [hW9]; exact (HTO7.out.keep hgrow8 hB hrl (fun k e => by cases e)).set hB hrl (by simp; omega) _)
    have HA9 := Lib.hid (show Cells3 W9 w.heap.size (.string ⟨#[]⟩) (.int .i64 0) (.slice none 0 0) by rw [hW9]; exact (HA7.out.grown hgrow8 (by simp)).other hEA _)
    have HE9 := Lib.hid (show Cells3 W9 E (.string s) (.int .i64 tm) (.slice (some ⟨gg0, 0, none⟩) 0 n) by rw [hW9]; exact (HE7.out.grown hgrow8 (by simp)).set2 _)
    have HO9 := Lib.hid (show W9.ownsRow (E + 1) 95 4 (.slice (some ⟨gg0, 0, none⟩) 0 n) 0 (valCells []) by rw [hW9]; exact ownsRow_setCell_below hown8 (by simp) _)
    rw [← hW9]
    clear hW9 hown8 hgrow8 hgg0 e2 f2
    go_wp2_with fail
    go_loopw [23] (fun i wr => ∃ (k : Nat) (rk : Rd) (acc : List Val) (gg cp : Nat), k ≤ n ∧ i = .int .i64 k ∧ acc.length = k ∧ timesR valueR n r4 = (acc ++ (timesR valueR (n - k) rk).1, (timesR valueR (n - k) rk).2) ∧ RdTo rb B w wr rk ∧ Cells3 wr w.heap.size (.string ⟨#[]⟩) (.int .i64 0) (.slice none 0 0) ∧ Cells3 wr E (.string s) (.int .i64 tm) (.slice (some ⟨gg, 0, none⟩) k cp) ∧ wr.ownsRow (E + 1) 95 4 (.slice (some ⟨gg, 0, none⟩) k cp) k (valCells acc)) (fun i _ => n - (intOf i).toNat)
    case atStart => exact ⟨0, r4, [], gg0, n, Nat.zero_le _, rfl, rfl, rfl, HTO9.out, HA9.out, HE9.out, HO9.out⟩
    case round =>
      obtain ⟨k, rk, acc, gg, cp, hk, rfl, hacc, htm, hto, ha, he, ho⟩ := hrel
      have HACC := Lib.hid hacc
      have HTM := Lib.hid htm
      have HTO := Lib.hid hto
      have HA := Lib.hid ha
      have HE := Lib.hid he
      have HO := Lib.hid ho
      have hEl := he.lt
      have hzr := hto.grown.size
      have hgl := (ho.lt gg rfl).1
      have hgl2 := (ho.lt gg rfl).2
      clear hacc htm hto ha he ho
      by_cases hlt : k < n
      · have e2 := HE.out.c2
        have f2 := HE.out.f2
        obtain ⟨⟨⟨vk, vi, vs, vb⟩, rn⟩, hvr⟩ : ∃ x, x = valueR rk := ⟨_, rfl⟩
        have HVAL := Lib.hid (fun (W : World) (h : RdAt W rb B rk) (hb : B ≤ W.heap.size) => value_any rb B rk W h hb)
        rw [← hvr] at HVAL
        simp only [Val.v] at HVAL
        have HVR := Lib.hid hvr
        clear hvr
        have hggE : some E ≠ some gg := by intro e; injection e; omega
        have hggA : some w.heap.size ≠ some gg := by intro e; injection e; omega
        have hggr : gg ≠ rb := by omega
        have hwg : w.heap.size ≤ gg := by omega
        have hEw' : w.heap.size ≤ E := by omega
        go_wp2_with fail
        go_region_law (first
          | (refine step_append_lies _ (by rfl) _ _ _ (by rfl) (E + 1) 95 i0 _ 4 40 Tryd.underlying22 hi0 hz0 hz1 hz2 rfl (by omega) (.slice (some ⟨gg, 0, none⟩) k cp) k (valCells acc) (by rfl) (HO5.out.alloc _) ⟨_, 0, none⟩ 1 1 (Val.cells ⟨vk, vi, vs, vb⟩) (by rfl) (by rfl) (World.news_of_block (cs := #[.int .i64 vk, .int .i64 vi, .string vs, .bool vb]) (t := 95) (fr := (0, 0)) (heap_alloc_new _ _)) (by simp [Val.cells, Value.oneCell']) (by omega) (by unfold maxLen; omega) (by omega) (by simp; omega) _ rfl ?_; intro g2 cap2 w6 hown6 hgrow6 hat6 hlt6; have hE6 := (HE5.out.below ((Below.refl _ w5').alloc (Nat.le_refl _) (Obj.cells #[.int .i64 vk, .int .i64 vi, .string vs, .bool vb] 95))).grown hgrow6 hggE; have q2 := hE6.c2; have q3 := hE6.f2)
          | (go_simp; go_at_call 80; refine (HVAL.out _ (by first | exact HTO.out.at' | exact HTO.out.at'.below (Below.refl _ wr).drew) (by first | (simp; omega) | omega)).mono ?_; rintro e w5' ⟨rfl, hto5⟩; have HTO5 := Lib.hid (HTO.out.trans (RdTo.pre (Below.refl _ wr).drew hto5)); have HE5 := Lib.hid (HE.out.to (RdTo.pre (Below.refl _ wr).drew hto5) hEr); have HA5 := Lib.hid (HA.out.to (RdTo.pre (Below.refl _ wr).drew hto5) hne); have HO5 := Lib.hid (owns_to HO.out (RdTo.pre (Below.refl _ wr).drew hto5) (by omega)); have e2' := HE5.out.c2; have f2' := HE5.out.f2; have hz5 : E < w5'.heap.size := HE5.out.lt))
        all_goals
          have hb5 : Below w5'.heap.size w5' (w5'.alloc (Obj.cells #[.int .i64 vk, .int .i64 vi, .string vs, .bool vb] 95)) := (Below.refl _ w5').alloc (Nat.le_refl _) _
          have HREL := Lib.hid (show RdTo rb B w (w6.setCell ⟨E, 2, none⟩ (.slice (some ⟨g2, 0, none⟩) (k + 1) cap2)) rn from ((HTO5.out.below hb5).keep hgrow6 hB hrl (fun j e => by cases e; exact hwg)).set hB hrl hEw' _)
          have HRELA := Lib.hid (show Cells3 (w6.setCell ⟨E, 2, none⟩ (.slice (some ⟨g2, 0, none⟩) (k + 1) cap2)) w.heap.size (.string ⟨#[]⟩) (.int .i64 0) (.slice none 0 0) from ((HA5.out.below hb5).grown hgrow6 hggA).other hEA _)
          have HRELE := Lib.hid (hE6.set2 (.slice (some ⟨g2, 0, none⟩) (k + 1) cap2))
          have HRELO := Lib.hid (show (w6.setCell ⟨E, 2, none⟩ (.slice (some ⟨g2, 0, none⟩) (k + 1) cap2)).ownsRow (E + 1) 95 4 (.slice (some ⟨g2, 0, none⟩) (k + 1) cap2) (k + 1) (valCells (acc ++ [⟨vk, vi, vs, vb⟩])) by rw [valCells_snoc]; exact ownsRow_setCell_below hown6 (by simp) _)
          have HRELT := Lib.hid (show timesR valueR n r4 = ((acc ++ [⟨vk, vi, vs, vb⟩]) ++ (timesR valueR (n - (k + 1)) rn).1, (timesR valueR (n - (k + 1)) rn).2) by
            have e : n - k = (n - (k + 1)) + 1 := by omega
            rw [HTM.out, e, timesR_step, ← HVR.out])
          clear hb5 hown6 hgrow6 hat6 hlt6 hE6 q2 q3 e2' f2' hto5 e2 f2
          go_wp2_with fail
          go_roundw
          case rel => exact ⟨k + 1, rn, acc ++ [⟨vk, vi, vs, vb⟩], g2, cap2, by omega, by go_num, by rw [List.length_append, HACC.out]; rfl, HRELT.out, HREL.out, HRELA.out, HRELE.out, HRELO.out⟩
          case measure => simp [intOf]; omega
      · have HFIN := Lib.hid (show timesR valueR n r4 = (acc, rk) by
          rw [HTM.out, show n - k = 0 from by omega]
          simp [timesR])
        have hkn : k = n := by omega
        have HE0 := Lib.hid (show eventR r = (⟨s, tm, acc⟩, rk) by rw [HEV.out, HFIN.out])
        have e0 := HE.out.c0
        have e1 := HE.out.c1
        have e2 := HE.out.c2
        have a0 := HA.out.c0
        have a1 := HA.out.c1
        have a2 := HA.out.c2
        have b0 := HA.out.f0
        have b1 := HA.out.f1
        have b2 := HA.out.f2
        subst hkn
        go_wp2_with fail
        have hlen : acc.length = k := HACC.out
        refine bodyPost_ret (v := .agg #[.string s, .int .i64 tm, .slice (some ⟨gg, 0, none⟩) k cp]) (by simp [results, Tryd.results49, go_sem, a0, a1, a2]) rfl ⟨⟨gg, cp, by rw [HE0.out]; simp only [hlen], ?_⟩, ?_⟩
        · rw [HE0.out]
          simp only [hlen]
          exact own_base (ownsRow_setCell_below (ownsRow_setCell_below (ownsRow_setCell_below HO.out (by simp; omega) _) (by simp; omega) _) (by simp; omega) _) (by omega)
        · rw [HE0.out]
          exact ((HTO.out.set hB hrl (Nat.le_refl _) _).set hB hrl (Nat.le_refl _) _).set hB hrl (Nat.le_refl _) _
end Go.Proofs.YtekaimfabadclaaDoor
/- Package wire: Decode, for any bytes. -/
namespace Go.Proofs.YtekaimfabadclaaDoor
open Go Go.RowKit

theorem RdTo.fresh {rb B : Nat} {w W w' : World} {r : Rd} (hb : Below w.heap.size w W) (h : RdTo rb B W w' r) (hrb : w.heap.size ≤ rb) : Below w.heap.size w w' :=
  hb.grown h.grown hb.size (fun k e => by cases e; exact hrb)

set_option maxHeartbeats 8000000 in
set_option maxRecDepth 100000 in
theorem decode_core (l : List UInt8) (ao : Option Addr) (cap : Nat) (w : World) (hres : ResAt w) (hb : BytesAt w ao l) (hlc : l.length ≤ cap) (hcm : cap ≤ maxLen) :
    Calls Tryd.prog 17 #[.slice ao l.length cap] w fun en w' => (((eventR ⟨l, 0⟩).2.fault = 0 ∧ ∃ g c, en = .returned (.tuple #[.agg #[.string (eventR ⟨l, 0⟩).1.ty, .int .i64 (eventR ⟨l, 0⟩).1.time, .slice (some ⟨g, 0, none⟩) (eventR ⟨l, 0⟩).1.vals.length c], .int .i64 ((l.length : Int) - ((eventR ⟨l, 0⟩).2.rest.length : Int)), .int .i64 0]) ∧ w'.ownsRow w.heap.size 95 4 (.slice (some ⟨g, 0, none⟩) (eventR ⟨l, 0⟩).1.vals.length c) (eventR ⟨l, 0⟩).1.vals.length (valCells (eventR ⟨l, 0⟩).1.vals)) ∨ ((eventR ⟨l, 0⟩).2.fault ≠ 0 ∧ en = .returned (.tuple #[.agg #[.string ⟨#[]⟩, .int .i64 0, .slice none 0 0], .int .i64 0, .int .i64 (eventR ⟨l, 0⟩).2.fault]))) ∧ Below w.heap.size w w' := by
  obtain ⟨W1, hW1⟩ : ∃ W1, W1 = (w.alloc (Obj.cells #[.string ⟨#[]⟩, .int .i64 0, .slice none 0 0] 24)).alloc (Obj.cells #[.slice ao l.length cap, .int .i64 0] 88) := ⟨_, rfl⟩
  have hb1 : Below w.heap.size w W1 := by rw [hW1]; exact ((Below.refl _ _).alloc (Nat.le_refl _) _).alloc (by simp) _
  have hz1 : w.heap.size + 2 = W1.heap.size := by rw [hW1]; simp
  have hy : W1.heap[w.heap.size + 1]? = some (Obj.cells #[.slice ao l.length cap, .int .i64 0] 88 (0, 0)) := by
    have := heap_alloc_new (w.alloc (Obj.cells #[.string ⟨#[]⟩, .int .i64 0, .slice none 0 0] 24)) (Obj.cells #[.slice ao l.length cap, .int .i64 0] 88)
    rw [World.size_alloc] at this
    rw [hW1]
    exact this
  have hy1 : W1.heap[w.heap.size]? = some (Obj.cells #[.string ⟨#[]⟩, .int .i64 0, .slice none 0 0] 24 (0, 0)) := by
    rw [hW1, Below.heap_alloc _ _ _ (by simp)]
    exact heap_alloc_new w _
  have hr1 : RdAt W1 (w.heap.size + 1) w.heap.size ⟨l, 0⟩ := by
    refine ⟨⟨ao, cap, by simp [World.cell?, hy], hlc, hcm, ?_⟩, by simp [World.cell?, hy], by simp [World.frozen?, hy], by simp [World.frozen?, hy]⟩
    rcases hb with h | ⟨b, o, rfl, h⟩
    · exact Or.inl h
    · cases l with
      | nil => exact Or.inl rfl
      | cons x l =>
        have hl := World.block_lt_of_cell? w _ (h 0 (by simp))
        simp only at hl
        exact Or.inr ⟨b, o, rfl, by omega, hl, fun i hi => (hb1.cell (p := ⟨b, o + i, none⟩) hl).trans (h i hi)⟩
  have HR1 := Lib.hid hr1
  have HA1 := Lib.hid (Cells3.of hy1)
  have HRES := Lib.hid (hres.below hb1)
  have HB1 := Lib.hid hb1
  have hg := hres.lt
  have hrb : 0 ≠ w.heap.size + 1 := by omega
  have HW1 := Lib.hid hW1
  obtain ⟨⟨ev, r'⟩, hev⟩ : ∃ x, x = eventR ⟨l, 0⟩ := ⟨_, rfl⟩
  have HEV := Lib.hid (event_any (w.heap.size + 1) w.heap.size ⟨l, 0⟩ W1 HRES.out HR1.out (by omega) hrb)
  rw [← hev] at HEV ⊢
  simp only at HEV ⊢
  clear hres hb hb1 hy hy1 hr1 hW1 hev
  unfold maxLen at hcm
  go_enter Tryd.func17, Tryd.ntmps17
  go_upto_region 2 with fail
  rw [← HW1.out]
  go_wp2_with fail
  (refine HEV.out.mono ?_); rintro e w2 ⟨⟨g, c, rfl, hown⟩, hto⟩
  have HTO := Lib.hid hto
  have HOWN := Lib.hid hown
  have hz2 := hto.grown.size
  have hA2 := HA1.out.to hto (by omega)
  have hE2 := Cells3.made w2 (.string ev.ty) (.int .i64 ev.time) (.slice (some ⟨g, 0, none⟩) ev.vals.length c) 24
  obtain ⟨W3, hW3⟩ : ∃ W3, W3 = w2.alloc (Obj.cells #[.string ev.ty, .int .i64 ev.time, .slice (some ⟨g, 0, none⟩) ev.vals.length c] 24) := ⟨_, rfl⟩
  obtain ⟨E, hE⟩ : ∃ E, E = w2.heap.size := ⟨_, rfl⟩
  have hb3 : Below w2.heap.size w2 W3 := by rw [hW3]; exact (Below.refl _ _).alloc (Nat.le_refl _) _
  rw [← hW3, ← hE] at hE2
  have HE3 := Lib.hid hE2
  have HA3 := Lib.hid (hA2.below hb3)
  have HR3 := Lib.hid (hto.at'.below hb3)
  have HB3 := Lib.hid ((RdTo.fresh HB1.out hto (by omega)).trans (hb3.mono (by omega)))
  have HO3 := Lib.hid (owns_below hown hb3)
  have hEA : w.heap.size ≠ E := by omega
  have HW3 := Lib.hid hW3
  have HEE := Lib.hid hE
  clear hto hown hA2 hE2 hW3 hE hb3
  go_upto_region 3 with fail
  rw [← HW3.out, ← HEE.out]
  obtain ⟨ao', cap', c0, hc', hcm', _⟩ := HR3.out.ex
  have c1 := HR3.out.c1
  have e0 := HE3.out.c0
  have e1 := HE3.out.c1
  have e2 := HE3.out.c2
  have a0 := HA3.out.c0
  have a1 := HA3.out.c1
  have a2 := HA3.out.c2
  have b0 := HA3.out.f0
  have b1 := HA3.out.f1
  have b2 := HA3.out.f2
  unfold maxLen at hcm'
  cases hf : (r'.fault == 0)
  · have hf2 : (r'.fault != 0) = true := by simp [bne, hf]
    have HF := Lib.hid (show r'.fault ≠ 0 by simpa using hf)
    go_wp2_with fail
    go_region
    all_goals
      go_wp2_with fail
      refine bodyPost_ret (v := .tuple #[.agg #[.string ⟨#[]⟩, .int .i64 0, .slice none 0 0], .int .i64 0, .int .i64 r'.fault]) (by simp [results, Tryd.results17, go_sem, a0, a1, a2]) rfl ⟨Or.inr ⟨HF.out, rfl⟩, ?_⟩
      exact (((HB3.out.setCell (Nat.le_refl _) _).setCell (Nat.le_refl _) _).setCell (Nat.le_refl _) _).drew
  · have HF := Lib.hid (show r'.fault = 0 by simpa using hf)
    have hf2 : (r'.fault != 0) = false := by simp [bne, hf]
    have hw : IntKind.i64.wrap ((l.length : Int) - (r'.rest.length : Int)) = (l.length : Int) - (r'.rest.length : Int) := IntWalk.i64_in _ (by omega)
    go_wp2_with fail
    go_region
    all_goals
      go_wp2_with fail
      refine bodyPost_ret (v := .tuple #[.agg #[.string ev.ty, .int .i64 ev.time, .slice (some ⟨g, 0, none⟩) ev.vals.length c], .int .i64 ((l.length : Int) - (r'.rest.length : Int)), .int .i64 0]) (by simp [results, Tryd.results17, go_sem, a0, a1, a2]) rfl ⟨Or.inl ⟨HF.out, g, c, rfl, ?_⟩, ?_⟩
      · have h := ownsRow_setCell_below (ownsRow_setCell_below (ownsRow_setCell_below HO3.out (a := ⟨w.heap.size, 0, none⟩) (by simp; omega) (.string ev.ty)) (a := ⟨w.heap.size, 1, none⟩) (by simp; omega) (.int .i64 ev.time)) (a := ⟨w.heap.size, 2, none⟩) (by simp; omega) (.slice (some ⟨g, 0, none⟩) ev.vals.length c)
        exact own_base h (by omega)
      · exact (((HB3.out.setCell (Nat.le_refl _) _).setCell (Nat.le_refl _) _).setCell (Nat.le_refl _) _).drew
end Go.Proofs.YtekaimfabadclaaDoor
/- The laws' same, vals, events at what is the same; an event with its form. -/
namespace Go.Proofs.YtekaimfabadclaaDoor
open Go Go.RowKit

theorem below_drewN {B : Nat} {a w : World} (h : Below B a w) (n : Nat) : Below B a (w.drewN n) := ⟨h.os, h.tape, h.output, h.size, h.block⟩

set_option maxHeartbeats 8000000 in
set_option maxRecDepth 100000 in
theorem same_same (l : List UInt8) (ao bo : Option Addr) (ca cb : Nat) (w : World) (hl : l.length ≤ maxLen) (ha : BytesAt w ao l) (hb : BytesAt w bo l) :
    Calls Tryd.prog 22 #[.slice ao l.length ca, .slice bo l.length cb] w fun e w' => e = .returned (.bool true) ∧ Below w.heap.size w w' := by
  have HA := Lib.hid ha
  have HB := Lib.hid hb
  unfold maxLen at hl
  have q2 : ((l.length : Int) != (l.length : Int)) = false := by simp
  clear ha hb
  go_enter Tryd.func22, Tryd.ntmps22
  go_wp2_with fail
  go_loopw [5] (fun i wr => ∃ k d : Nat, k ≤ l.length ∧ i = .int .i64 k ∧ wr = w.drewN d) (fun i _ => l.length - (intOf i).toNat)
  case atStart => exact ⟨0, 0, Nat.zero_le _, rfl, rfl⟩
  case round =>
    obtain ⟨k, d, hk, rfl, rfl⟩ := hrel
    by_cases hlt : k < l.length
    · obtain ⟨b, o, rfl, hca⟩ : ∃ b o, ao = some ⟨b, o, none⟩ ∧ ∀ i (h : i < l.length), w.cell? ⟨b, o + i, none⟩ = some (.int .u8 (l[i].toNat : Int)) := by
        rcases HA.out with h | h
        · rw [h] at hlt; simp at hlt
        · exact h
      obtain ⟨b2, o2, rfl, hcb⟩ : ∃ b o, bo = some ⟨b, o, none⟩ ∧ ∀ i (h : i < l.length), w.cell? ⟨b, o + i, none⟩ = some (.int .u8 (l[i].toNat : Int)) := by
        rcases HB.out with h | h
        · rw [h] at hlt; simp at hlt
        · exact h
      have g1 := hca k hlt
      have g3 := hcb k hlt
      obtain ⟨x, hx⟩ : ∃ x, x = l[k] := ⟨_, rfl⟩
      rw [← hx] at g1 g3
      clear hx hca hcb
      have b1 : (0 : Int) ≤ (k : Int) := by omega
      have b2 : (k : Int) < (l.length : Int) := by omega
      go_wp2_with fail
      go_quiet (fail)
      go_wp2_with fail
      go_roundw
      case rel => exact ⟨k + 1, d + nq, by omega, by go_num, by simp [World.drewN]⟩
      case measure => simp [intOf]; omega
    · go_wp2_with fail
      go_ret
      exact ⟨rfl, below_drewN (Below.refl _ _) _⟩

set_option maxHeartbeats 8000000 in
set_option maxRecDepth 100000 in
theorem vals_same (B C : Nat) (l : List Val) (ao bo : Option Addr) (ca cb : Nat) (w : World) (hl : l.length ≤ maxLen) (ha : ValsIn B w ao l) (hb : ValsIn C w bo l) :
    Calls Tryd.prog 50 #[.slice ao l.length ca, .slice bo l.length cb] w fun e w' => e = .returned (.bool true) ∧ Below w.heap.size w w' := by
  have HA := Lib.hid ha
  have HB := Lib.hid hb
  unfold maxLen at hl
  have q2 : ((l.length : Int) != (l.length : Int)) = false := by simp
  clear ha hb
  go_enter Tryd.func50, Tryd.ntmps50
  go_wp2_with fail
  go_loopw [5] (fun i wr => ∃ k d : Nat, k ≤ l.length ∧ i = .int .i64 k ∧ wr = w.drewN d) (fun i _ => l.length - (intOf i).toNat)
  case atStart => exact ⟨0, 0, Nat.zero_le _, rfl, rfl⟩
  case round =>
    obtain ⟨k, d, hk, rfl, rfl⟩ := hrel
    by_cases hlt : k < l.length
    · obtain ⟨b, o, rfl, _, hca⟩ : ∃ b o, ao = some ⟨b, o, none⟩ ∧ b < B ∧ ∀ i (h : i < l.length), w.cell? ⟨b, o + i * 4, none⟩ = some (.int .i64 l[i].kind) ∧ w.cell? ⟨b, o + i * 4 + 1, none⟩ = some (.int .i64 l[i].int) ∧ w.cell? ⟨b, o + i * 4 + 2, none⟩ = some (.string l[i].str) ∧ w.cell? ⟨b, o + i * 4 + 3, none⟩ = some (.bool l[i].bool) := by
        rcases HA.out with h | h
        · rw [h] at hlt; simp at hlt
        · exact h
      obtain ⟨b2, o2, rfl, _, hcb⟩ : ∃ b o, bo = some ⟨b, o, none⟩ ∧ b < C ∧ ∀ i (h : i < l.length), w.cell? ⟨b, o + i * 4, none⟩ = some (.int .i64 l[i].kind) ∧ w.cell? ⟨b, o + i * 4 + 1, none⟩ = some (.int .i64 l[i].int) ∧ w.cell? ⟨b, o + i * 4 + 2, none⟩ = some (.string l[i].str) ∧ w.cell? ⟨b, o + i * 4 + 3, none⟩ = some (.bool l[i].bool) := by
        rcases HB.out with h | h
        · rw [h] at hlt; simp at hlt
        · exact h
      obtain ⟨g1, g2, g3, g4⟩ := hca k hlt
      obtain ⟨h1, h2, h3, h4⟩ := hcb k hlt
      obtain ⟨⟨vk, vi, vs, vb⟩, hx⟩ : ∃ x, x = l[k] := ⟨_, rfl⟩
      rw [← hx] at g1 g2 g3 g4 h1 h2 h3 h4
      simp only at g1 g2 g3 g4 h1 h2 h3 h4
      clear hx hca hcb
      have b1 : (0 : Int) ≤ (k : Int) := by omega
      have b2 : (k : Int) < (l.length : Int) := by omega
      go_wp2_with fail
      go_quiet (fail)
      go_wp2_with fail
      go_roundw
      case rel => exact ⟨k + 1, d + nq, by omega, by go_num, by simp [World.drewN]⟩
      case measure => simp [intOf]; omega
    · go_wp2_with fail
      go_ret
      exact ⟨rfl, below_drewN (Below.refl _ _) _⟩

set_option maxHeartbeats 8000000 in
set_option maxRecDepth 100000 in
theorem events_same (B C : Nat) (e : Ev) (ao bo : Option Addr) (ca cb : Nat) (w : World) (hl : e.vals.length ≤ maxLen) (hB : B ≤ w.heap.size) (hC : C ≤ w.heap.size) (ha : ValsIn B w ao e.vals) (hb : ValsIn C w bo e.vals) :
    Calls Tryd.prog 18 #[evV e ao ca, evV e bo cb] w fun en w' => en = .returned (.bool true) ∧ Below w.heap.size w w' := by
  obtain ⟨ty, tm, vals⟩ := e
  simp only [evV] at *
  obtain ⟨W1, hW1⟩ : ∃ W1, W1 = (w.alloc (Obj.cells #[.string ty, .int .i64 tm, .slice ao vals.length ca] 24)).alloc (Obj.cells #[.string ty, .int .i64 tm, .slice bo vals.length cb] 24) := ⟨_, rfl⟩
  have hb1 : Below w.heap.size w W1 := by rw [hW1]; exact ((Below.refl _ _).alloc (Nat.le_refl _) _).alloc (by simp) _
  have hy : W1.heap[w.heap.size + 1]? = some (Obj.cells #[.string ty, .int .i64 tm, .slice bo vals.length cb] 24 (0, 0)) := by
    have := heap_alloc_new (w.alloc (Obj.cells #[.string ty, .int .i64 tm, .slice ao vals.length ca] 24)) (Obj.cells #[.string ty, .int .i64 tm, .slice bo vals.length cb] 24)
    rw [World.size_alloc] at this
    rw [hW1]
    exact this
  have hy1 : W1.heap[w.heap.size]? = some (Obj.cells #[.string ty, .int .i64 tm, .slice ao vals.length ca] 24 (0, 0)) := by
    rw [hW1, Below.heap_alloc _ _ _ (by simp)]
    exact heap_alloc_new w _
  have hz : w.heap.size ≤ W1.heap.size := hb1.size
  have c0 := (Cells3.of hy1).c0
  have c1 := (Cells3.of hy1).c1
  have c2 := (Cells3.of hy1).c2
  have d0 := (Cells3.of hy).c0
  have d1 := (Cells3.of hy).c1
  have d2 := (Cells3.of hy).c2
  have HV := Lib.hid (vals_same B C vals ao bo ca cb W1 hl (ha.below hb1 hB) (hb.below hb1 hC))
  have HB1 := Lib.hid hb1
  have HW1 := Lib.hid hW1
  have q1 : (ty.toList == ty.toList) = true := by simp
  clear hy hy1 hb1 hW1 ha hb
  go_enter Tryd.func18, Tryd.ntmps18
  go_upto_region 1 with fail
  rw [← HW1.out]
  go_wp2_with fail
  refine HV.out.mono ?_; rintro e w2 ⟨rfl, hb2⟩
  go_wp2_with fail
  go_ret
  exact ⟨rfl, HB1.out.trans (hb2.mono hz)⟩

/-- An event, and its form. -/
def tickE : Ev := ⟨⟨#[84, 105, 99, 107]⟩, 5, [⟨1, 12, ⟨#[]⟩, false⟩, ⟨2, 0, ⟨#[97, 98]⟩, false⟩, ⟨3, 0, ⟨#[]⟩, true⟩]⟩
def tickB : List UInt8 := [8, 84, 105, 99, 107, 10, 6, 1, 24, 2, 4, 97, 98, 3, 1]
theorem putB_small (n : Int) (z : Nat) (h : zz n = z) (hz : z < 128) : putB n = [UInt8.ofNat z] := by unfold putB; rw [h, putZ_small hz]
theorem tick_form : evE tickE = tickB := by
  have p4 := putB_small 4 8 (by decide) (by decide)
  have p5 := putB_small 5 10 (by decide) (by decide)
  have p3 := putB_small 3 6 (by decide) (by decide)
  have p12 := putB_small 12 24 (by decide) (by decide)
  have p2 := putB_small 2 4 (by decide) (by decide)
  have s4 : (((⟨#[84, 105, 99, 107]⟩ : ByteArray).size : Nat) : Int) = 4 := rfl
  have s2 : (((⟨#[97, 98]⟩ : ByteArray).size : Nat) : Int) = 2 := rfl
  have s3 : ((tickE.vals.length : Nat) : Int) = 3 := rfl
  unfold evE
  rw [s3]
  simp only [tickE, textE, s4, p4, p5, p3, List.flatMap_cons, List.flatMap_nil, valE, valTail, p12, s2, p2, if_true]
  decide
theorem tick_ok : evOk tickE := by
  refine ⟨by decide +kernel, by decide, by decide, ?_⟩
  intro v hv
  simp only [tickE, List.mem_cons, List.mem_nil_iff, or_false] at hv
  rcases hv with rfl | rfl | rfl
  · exact ⟨by decide +kernel, by decide, by decide⟩
  · exact ⟨by decide +kernel, by decide, by decide⟩
  · exact ⟨by decide +kernel, by decide, by decide⟩
end Go.Proofs.YtekaimfabadclaaDoor
/- The laws' tick and begun. -/
namespace Go.Proofs.YtekaimfabadclaaDoor
open Go Go.RowKit

theorem bytes_of_block {w : World} {b : Nat} {l : List UInt8} {t : TypeId} (h : w.heap[b]? = some (Obj.cells (bytesC l).toArray t (0, 0))) : BytesAt w (some ⟨b, 0, none⟩) l := by
  refine Or.inr ⟨b, 0, rfl, fun i hi => ?_⟩
  rw [Nat.zero_add, cell_of_row w b i _ t (0, 0) h]
  simpa using bytesC_get l i hi
theorem vals_of_block {w : World} {b B : Nat} {l : List Val} {t : TypeId} (hB : b < B) (h : w.heap[b]? = some (Obj.cells (valCells l).toArray t (0, 0))) : ValsIn B w (some ⟨b, 0, none⟩) l := by
  refine Or.inr ⟨b, 0, rfl, hB, fun i hi => ?_⟩
  have hg := valCells_get l i hi
  rw [Nat.zero_add, cell_of_row w b _ _ t (0, 0) h, cell_of_row w b _ _ t (0, 0) h, cell_of_row w b _ _ t (0, 0) h, cell_of_row w b _ _ t (0, 0) h]
  simpa using hg

set_option maxHeartbeats 8000000 in
set_option maxRecDepth 100000 in
theorem tick_any (w : World) : Calls Tryd.prog 44 #[] w fun en w' => (∃ g h : Nat, en = .returned (.tuple #[evV tickE (some ⟨g, 0, none⟩) 3, .slice (some ⟨h, 0, none⟩) tickB.length 15]) ∧ ValsIn w'.heap.size w' (some ⟨g, 0, none⟩) tickE.vals ∧ BytesAt w' (some ⟨h, 0, none⟩) tickB) ∧ Below w.heap.size w w' := by
  have HW := Lib.hid (show ∀ (a v e b : Obj), (((w.alloc a).alloc v).alloc e).heap.size = w.heap.size + 1 + 1 + 1 ∧ ((((w.alloc a).alloc v).alloc e).alloc b).heap[w.heap.size + 1]? = some v ∧ ((((w.alloc a).alloc v).alloc e).alloc b).heap[w.heap.size + 1 + 1 + 1]? = some b ∧ Below w.heap.size w ((((w.alloc a).alloc v).alloc e).alloc b) by
    intro a v e b
    have h1 := heap_alloc_new (w.alloc a) v
    have h2 := heap_alloc_new (((w.alloc a).alloc v).alloc e) b
    rw [World.size_alloc] at h1
    rw [World.size_alloc, World.size_alloc, World.size_alloc] at h2
    refine ⟨by simp, ?_, h2, ((((Below.refl _ w).alloc (Nat.le_refl _) a).alloc (by simp) v).alloc (by simp; omega) e).alloc (by simp; omega) b⟩
    rw [Below.heap_alloc _ _ _ (by simp), Below.heap_alloc _ _ _ (by simp)]
    exact h1)
  go_enter Tryd.func44, Tryd.ntmps44
  go_wp2_with fail
  obtain ⟨_, h2, h3, h4⟩ := HW.out (Obj.cells #[.string ⟨#[84, 105, 99, 107]⟩, .int .i64 5, .slice (some ⟨w.heap.size + 1, 0, none⟩) 3 3] 24) (Obj.cells (valCells tickE.vals).toArray 95) (Obj.cells #[.string ⟨#[84, 105, 99, 107]⟩, .int .i64 5, .slice (some ⟨w.heap.size + 1, 0, none⟩) 3 3] 24) (Obj.cells (bytesC tickB).toArray 5)
  refine bodyPost_ret (v := .tuple #[.agg #[.string ⟨#[84, 105, 99, 107]⟩, .int .i64 5, .slice (some ⟨w.heap.size + 1, 0, none⟩) 3 3], .slice (some ⟨w.heap.size + 1 + 1 + 1, 0, none⟩) 15 15]) (by simp [results, Tryd.results44, go_sem]) rfl ⟨⟨w.heap.size + 1, w.heap.size + 1 + 1 + 1, rfl, ?_, ?_⟩, h4⟩
  · exact vals_of_block (by simp) h2
  · exact bytes_of_block h3

theorem owned_bytes {w : World} {B : Nat} {v : Value} {l : List UInt8} (h : w.ownsRow B 5 1 v l.length (bytesC l)) : ∃ ao cap, v = .slice ao l.length cap ∧ BytesAt w ao l ∧ l.length ≤ cap ∧ cap ≤ maxLen := by
  rcases h.2 with ⟨e, h0⟩ | ⟨g, cap, cur, e, hb, hh, hn, hc, hs, ht⟩
  · refine ⟨none, 0, by rw [e, h0], Or.inl (List.eq_nil_of_length_eq_zero h0), by omega, by unfold maxLen; omega⟩
  · refine ⟨some ⟨g, 0, none⟩, cap, e, Or.inr ⟨g, 0, rfl, fun i hi => ?_⟩, hn, hc⟩
    have hg := bytesC_get l i hi
    rw [← ht, List.getElem?_take, if_pos (by omega)] at hg
    rw [Nat.zero_add, cell_of_row w g i _ _ (0, 0) hh]
    simpa using hg
theorem owned_vals {w : World} {B g cap : Nat} {l : List Val} (h : w.ownsRow B 95 4 (.slice (some ⟨g, 0, none⟩) l.length cap) l.length (valCells l)) : ValsIn w.heap.size w (some ⟨g, 0, none⟩) l := by
  rcases h.2 with ⟨e, h0⟩ | ⟨g', cap', cur, e, hb, hh, hn, hc, hs, ht⟩
  · cases e
  · cases e
    refine Or.inr ⟨g, 0, rfl, (Array.getElem?_eq_some_iff.1 hh).1, fun i hi => ?_⟩
    have hg := valCells_get l i hi
    rw [← ht] at hg
    rw [List.getElem?_take, List.getElem?_take, List.getElem?_take, List.getElem?_take, if_pos (by omega), if_pos (by omega), if_pos (by omega), if_pos (by omega)] at hg
    rw [Nat.zero_add, cell_of_row w g _ _ _ (0, 0) hh, cell_of_row w g _ _ _ (0, 0) hh, cell_of_row w g _ _ _ (0, 0) hh, cell_of_row w g _ _ _ (0, 0) hh]
    simpa using hg
theorem event_there (e : Ev) (r : List UInt8) (h : evOk e) : eventR ⟨evE e ++ r, 0⟩ = (e, ⟨r, 0⟩) := event_codec.there e r h
theorem tick_read : eventR ⟨tickB, 0⟩ = (tickE, ⟨[], 0⟩) := by
  have h := event_there tickE [] tick_ok
  rw [tick_form, List.append_nil] at h
  exact h
/-- Decode of what is read as an event. -/
theorem decode_ok (l : List UInt8) (e : Ev) (r : List UInt8) (ao : Option Addr) (cap : Nat) (w : World) (hres : ResAt w) (hb : BytesAt w ao l) (hlc : l.length ≤ cap) (hcm : cap ≤ maxLen) (he : eventR ⟨l, 0⟩ = (e, ⟨r, 0⟩)) :
    Calls Tryd.prog 17 #[.slice ao l.length cap] w fun en w' => (∃ g c, en = .returned (.tuple #[evV e (some ⟨g, 0, none⟩) c, .int .i64 ((l.length : Int) - (r.length : Int)), .int .i64 0]) ∧ w'.ownsRow w.heap.size 95 4 (.slice (some ⟨g, 0, none⟩) e.vals.length c) e.vals.length (valCells e.vals)) ∧ Below w.heap.size w w' := by
  refine (decode_core l ao cap w hres hb hlc hcm).mono fun en w' ⟨h, hb⟩ => ⟨?_, hb⟩
  rw [he] at h
  rcases h with ⟨_, h⟩ | ⟨h, _⟩
  · exact h
  · exact absurd rfl h
/-- Decode of what is refused. -/
theorem decode_no (l : List UInt8) (ao : Option Addr) (cap : Nat) (w : World) (hres : ResAt w) (hb : BytesAt w ao l) (hlc : l.length ≤ cap) (hcm : cap ≤ maxLen) (he : (eventR ⟨l, 0⟩).2.fault ≠ 0) :
    Calls Tryd.prog 17 #[.slice ao l.length cap] w fun en w' => en = .returned (.tuple #[.agg #[.string ⟨#[]⟩, .int .i64 0, .slice none 0 0], .int .i64 0, .int .i64 (eventR ⟨l, 0⟩).2.fault]) ∧ Below w.heap.size w w' := by
  refine (decode_core l ao cap w hres hb hlc hcm).mono fun en w' ⟨h, hb⟩ => ⟨?_, hb⟩
  rcases h with ⟨h, _⟩ | ⟨_, h⟩
  · exact absurd h he
  · exact h

set_option maxHeartbeats 8000000 in
set_option maxRecDepth 100000 in
theorem begun_any (w : World) (hres : ResAt w) : Calls Tryd.prog 11 #[] w fun en w' => en = .returned (.bool true) ∧ Below w.heap.size w w' := by
  have HRES := Lib.hid hres
  clear hres
  go_enter Tryd.func11, Tryd.ntmps11
  go_wp2_with fail
  refine (tick_any w).mono ?_; rintro e w1 ⟨⟨g, h, rfl, hv, hby⟩, hb1⟩
  simp only [evV]
  obtain ⟨W2, hW2⟩ : ∃ W2, W2 = w1.alloc (Obj.cells #[.string tickE.ty, .int .i64 tickE.time, .slice (some ⟨g, 0, none⟩) tickE.vals.length 3] 24) := ⟨_, rfl⟩
  obtain ⟨T, hT⟩ : ∃ T, T = w1.heap.size := ⟨_, rfl⟩
  have hb2 : Below w1.heap.size w1 W2 := by rw [hW2]; exact (Below.refl _ _).alloc (Nat.le_refl _) _
  have HT2 := Lib.hid (show Cells3 W2 T (.string tickE.ty) (.int .i64 tickE.time) (.slice (some ⟨g, 0, none⟩) tickE.vals.length 3) by rw [hW2, hT]; exact Cells3.made _ _ _ _ _)
  have HV2 := Lib.hid ((hv.below hb2 (Nat.le_refl _)).mono hb2.size)
  have HY2 := Lib.hid (hby.below hb2)
  have HB2 := Lib.hid (hb1.trans (hb2.mono hb1.size))
  have HW2 := Lib.hid hW2
  have HTE := Lib.hid hT
  clear hv hby hb1 hb2 hW2 hT
  go_upto_region 2 with fail
  rw [← HW2.out, ← HTE.out]
  have t0 := HT2.out.c0
  have t1 := HT2.out.c1
  have t2 := HT2.out.c2
  go_wp2_with fail
  clear t0 t1 t2
  refine (encode_ok tickE (some ⟨g, 0, none⟩) 3 W2 (HRES.out.below HB2.out) HV2.out (by decide) tick_ok ((evFault_ok tickE (fun a ha => (tick_ok.2.2.2 a ha).2)).2 tick_ok)).mono ?_; rintro e w3 ⟨v3, rfl, ho3, hb3⟩
  rw [tick_form] at ho3
  have HB3 := Lib.hid (HB2.out.trans (hb3.mono HB2.out.size))
  have HT3 := Lib.hid (HT2.out.below hb3)
  have HV3 := Lib.hid ((HV2.out.below hb3 (Nat.le_refl _)))
  have HZ23 := Lib.hid hb3.size
  have HY3 := Lib.hid (HY2.out.below hb3)
  have HO3 := Lib.hid ho3
  clear hb3 ho3
  go_wp2_with fail
  refine (decode_ok tickB tickE [] (some ⟨h, 0, none⟩) 15 w3 (HRES.out.below HB3.out) HY3.out (by decide) (by decide) tick_read).mono ?_; rintro e w4 ⟨⟨g4, c4, rfl, ho4⟩, hb4⟩
  have HB4 := Lib.hid (HB3.out.trans (hb4.mono HB3.out.size))
  have HT4 := Lib.hid (HT3.out.below hb4)
  have HV4 := Lib.hid (HV3.out.below hb4 HZ23.out)
  have HY4 := Lib.hid (HY3.out.below hb4)
  have HO4 := Lib.hid (owns_below HO3.out hb4)
  have HU4 := Lib.hid (owned_vals ho4)
  clear ho4
  simp only [evV]
  obtain ⟨W5, hW5⟩ : ∃ W5, W5 = w4.alloc (Obj.cells #[.string tickE.ty, .int .i64 tickE.time, .slice (some ⟨g4, 0, none⟩) tickE.vals.length c4] 24) := ⟨_, rfl⟩
  obtain ⟨U, hU⟩ : ∃ U, U = w4.heap.size := ⟨_, rfl⟩
  have hb5 : Below w4.heap.size w4 W5 := by rw [hW5]; exact (Below.refl _ _).alloc (Nat.le_refl _) _
  have HU5 := Lib.hid (show Cells3 W5 U (.string tickE.ty) (.int .i64 tickE.time) (.slice (some ⟨g4, 0, none⟩) tickE.vals.length c4) by rw [hW5, hU]; exact Cells3.made _ _ _ _ _)
  have HT5 := Lib.hid (HT4.out.below hb5)
  have HV5 := Lib.hid (HV4.out.below hb5 (Nat.le_trans HZ23.out hb4.size))
  have HX5 := Lib.hid ((HU4.out.below hb5 (Nat.le_refl _)))
  have HY5 := Lib.hid (HY4.out.below hb5)
  have HO5 := Lib.hid (owns_below HO4.out hb5)
  have HB5 := Lib.hid (HB4.out.trans (hb5.mono HB4.out.size))
  have HZ5 := Lib.hid (show W2.heap.size ≤ W5.heap.size from Nat.le_trans HZ23.out (Nat.le_trans hb4.size hb5.size))
  have HZ45 := Lib.hid hb5.size
  have HW5 := Lib.hid hW5
  have HUE := Lib.hid hU
  clear hb4 hb5 hW5 hU
  obtain ⟨ao, cc, rfl, hyo, _, _⟩ := owned_bytes HO5.out
  have HYO := Lib.hid hyo
  clear hyo
  have q15 : ((tickB.length : Int) - (([] : List UInt8).length : Int) == (tickB.length : Int)) = true := by simp
  go_upto_region 4 with fail
  rw [← HW5.out, ← HUE.out]
  go_wp2_with fail
  refine (same_same tickB (some ⟨h, 0, none⟩) ao 15 cc W5 (by decide) HY5.out HYO.out).mono ?_; rintro e w6 ⟨rfl, hb6⟩
  have HT6 := Lib.hid (HT5.out.below hb6)
  have HU6 := Lib.hid (HU5.out.below hb6)
  have HV6 := Lib.hid (HV5.out.below hb6 HZ5.out)
  have HX6 := Lib.hid (HX5.out.below hb6 HZ45.out)
  have HB6 := Lib.hid (HB5.out.trans (hb6.mono HB5.out.size))
  have HZ6 := Lib.hid hb6.size
  clear hb6
  have t0 := HT6.out.c0
  have t1 := HT6.out.c1
  have t2 := HT6.out.c2
  have u0 := HU6.out.c0
  have u1 := HU6.out.c1
  have u2 := HU6.out.c2
  go_wp2_with fail
  refine (events_same w4.heap.size W2.heap.size tickE (some ⟨g4, 0, none⟩) (some ⟨g, 0, none⟩) c4 3 w6 (by decide) (Nat.le_trans HZ45.out HZ6.out) (Nat.le_trans HZ5.out HZ6.out) HX6.out HV6.out).mono ?_; rintro e w7 ⟨rfl, hb7⟩
  go_wp2_with fail
  go_ret
  exact ⟨rfl, HB6.out.trans (hb7.mono HB6.out.size)⟩
end Go.Proofs.YtekaimfabadclaaDoor
/- The law's front: what is read would be written so, and less of it ends too early. -/
namespace Go.Proofs.YtekaimfabadclaaDoor
open Go Go.RowKit

theorem BytesAt.take {w : World} {ao : Option Addr} {l : List UInt8} (h : BytesAt w ao l) (n : Nat) : BytesAt w ao (l.take n) := by
  rcases h with h | ⟨b, o, rfl, h⟩
  · exact Or.inl (by rw [h]; simp)
  · exact Or.inr ⟨b, o, rfl, fun i hi => by
      have hi' : i < l.length := by rw [List.length_take] at hi; omega
      simpa using h i hi'⟩
theorem valOk_str {a : Val} (h : valOk a) : a.str.size ≤ 256 := by
  have h := h.1
  unfold validB at h
  split at h
  · simp only [Bool.and_eq_true] at h
    rw [str_nil h.1]
    decide
  · split at h
    · simp only [Bool.and_eq_true, decide_eq_true_eq] at h
      exact h.2
    · split at h
      · simp only [Bool.and_eq_true] at h
        rw [str_nil h.2]
        decide
      · cases h
theorem evOk_str {e : Ev} (h : evOk e) : ∀ a ∈ e.vals, a.str.size ≤ maxLen := fun a ha => Nat.le_trans (valOk_str (h.2.2.2 a ha)) (by decide)
theorem evFault_zero {e : Ev} (h : evOk e) : evFault e = 0 := (evFault_ok e (fun a ha => (h.2.2.2 a ha).2)).2 h
theorem evE_pos (e : Ev) : 1 ≤ (evE e).length := by
  have h := putZ_pos (zz (e.ty.size : Int))
  unfold evE textE putB
  simp only [List.length_append]
  omega
/-- Decode of an event's form, whatever stands behind. -/
theorem decode_form (e : Ev) (r : List UInt8) (ao : Option Addr) (cap : Nat) (w : World) (hres : ResAt w) (hb : BytesAt w ao (evE e ++ r)) (hlc : (evE e ++ r).length ≤ cap) (hcm : cap ≤ maxLen) (he : evOk e) :
    Calls Tryd.prog 17 #[.slice ao (evE e ++ r).length cap] w fun en w' => (∃ g c, en = .returned (.tuple #[evV e (some ⟨g, 0, none⟩) c, .int .i64 ((evE e).length : Nat), .int .i64 0]) ∧ w'.ownsRow w.heap.size 95 4 (.slice (some ⟨g, 0, none⟩) e.vals.length c) e.vals.length (valCells e.vals)) ∧ Below w.heap.size w w' := by
  have h := decode_ok (evE e ++ r) e r ao cap w hres hb hlc hcm (event_there e r he)
  have hn : (((evE e ++ r).length : Nat) : Int) - (r.length : Int) = ((evE e).length : Nat) := by rw [List.length_append]; omega
  rw [hn] at h
  exact h
/-- Decode of less. -/
theorem decode_short (e : Ev) (i : Nat) (ao : Option Addr) (cap : Nat) (w : World) (hres : ResAt w) (hi : i < (evE e).length) (hb : BytesAt w ao ((evE e).take i)) (hlc : i ≤ cap) (hcm : cap ≤ maxLen) (he : evOk e) :
    Calls Tryd.prog 17 #[.slice ao i cap] w fun en w' => en = .returned (.tuple #[.agg #[.string ⟨#[]⟩, .int .i64 0, .slice none 0 0], .int .i64 0, .int .i64 30]) ∧ Below w.heap.size w w' := by
  have hs := event_codec.short e i he hi
  have hl : ((evE e).take i).length = i := by rw [List.length_take]; omega
  have h := decode_no ((evE e).take i) ao cap w hres hb (by omega) hcm (by rw [hs]; decide)
  rw [hs, hl] at h
  exact h

set_option maxHeartbeats 8000000 in
set_option maxRecDepth 100000 in
theorem front_form (e : Ev) (r : List UInt8) (ao : Option Addr) (cap : Nat) (w : World) (hres : ResAt w) (hb : BytesAt w ao (evE e ++ r)) (hlc : (evE e ++ r).length ≤ cap) (hcm : cap ≤ maxLen) (he : evOk e) :
    Calls Tryd.prog 12 #[.slice ao (evE e ++ r).length cap] w fun en w' => en = .returned (.bool true) ∧ Below w.heap.size w w' := by
  have HRES := Lib.hid hres
  have HB := Lib.hid hb
  have HE := Lib.hid he
  have HD := Lib.hid (decode_form e r ao cap w hres hb hlc hcm he)
  obtain ⟨L, hL⟩ : ∃ L, L = (evE e ++ r).length := ⟨_, rfl⟩
  have hpos := evE_pos e
  have hle := evE_le e he
  obtain ⟨N, hN⟩ : ∃ N, N = (evE e).length := ⟨_, rfl⟩
  have hNL : N ≤ L := by rw [hL, hN, List.length_append]; omega
  have HTK := Lib.hid (show (evE e ++ r).take N = evE e by rw [hN, List.take_left])
  rw [← hL] at hlc ⊢
  rw [← hL, ← hN] at HD
  rw [← hN] at hpos hle
  have HN := Lib.hid hN
  have HL := Lib.hid hL
  unfold maxLen at hcm
  clear hres hb he hL hN
  go_enter Tryd.func12, Tryd.ntmps12
  go_wp2_with fail
  refine HD.out.mono ?_; rintro en w1 ⟨⟨g, c, rfl, ho⟩, hb1⟩
  simp only [evV]
  obtain ⟨W2, hW2⟩ : ∃ W2, W2 = w1.alloc (Obj.cells #[.string e.ty, .int .i64 e.time, .slice (some ⟨g, 0, none⟩) e.vals.length c] 24) := ⟨_, rfl⟩
  obtain ⟨T, hT⟩ : ∃ T, T = w1.heap.size := ⟨_, rfl⟩
  have hb2 : Below w1.heap.size w1 W2 := by rw [hW2]; exact (Below.refl _ _).alloc (Nat.le_refl _) _
  have HT2 := Lib.hid (show Cells3 W2 T (.string e.ty) (.int .i64 e.time) (.slice (some ⟨g, 0, none⟩) e.vals.length c) by rw [hW2, hT]; exact Cells3.made _ _ _ _ _)
  have HV2 := Lib.hid (((owned_vals ho).below hb2 (Nat.le_refl _)).mono hb2.size)
  have HB2 := Lib.hid (hb1.trans (hb2.mono hb1.size))
  have HW2 := Lib.hid hW2
  have HTE := Lib.hid hT
  clear ho hb1 hb2 hW2 hT
  go_upto_region 4 with fail
  rw [← HW2.out, ← HTE.out]
  have t0 := HT2.out.c0
  have t1 := HT2.out.c1
  have t2 := HT2.out.c2
  have n1 : ¬ (N : Int) < 1 := by omega
  have n2 : ¬ (L : Int) < (N : Int) := by omega
  go_wp2_with fail
  have HENC := encode_ok e (some ⟨g, 0, none⟩) c W2 (HRES.out.below HB2.out) HV2.out (evOk_str HE.out) HE.out (evFault_zero HE.out)
  simp only [evV] at HENC
  refine HENC.mono ?_; rintro en w3 ⟨v3, rfl, ho3, hb3⟩
  clear HENC t0 t1 t2
  have HB3 := Lib.hid (HB2.out.trans (hb3.mono HB2.out.size))
  obtain ⟨a3, c3, rfl, hy3, _, _⟩ := owned_bytes ho3
  have HY3 := Lib.hid hy3
  have HBw3 := Lib.hid (show BytesAt w3 ao (evE e) by have := (HB.out.below HB3.out).take N; rwa [HTK.out] at this)
  clear ho3 hb3 hy3
  rw [← HN.out]
  have z0 : (0 : Int) ≤ (N : Int) := by omega
  have z1 : (N : Int) ≤ (cap : Int) := by omega
  go_wp2_with fail
  have HSM := same_same (evE e) a3 ao c3 cap w3 (by rw [← HN.out]; unfold maxLen; omega) HY3.out HBw3.out
  rw [← HN.out] at HSM
  refine HSM.mono ?_; rintro en w4 ⟨rfl, hb4⟩
  have HB4 := Lib.hid (HB3.out.trans (hb4.mono HB3.out.size))
  clear HSM hb4
  go_wp2_with fail
  go_loopw [8] (fun i wr => ∃ k : Nat, k ≤ N ∧ i = .int .i64 k ∧ Below w.heap.size w wr) (fun i _ => N - (intOf i).toNat)
  case atStart => exact ⟨0, Nat.zero_le _, rfl, HB4.out⟩
  case round =>
    obtain ⟨k, hk, rfl, hbel⟩ := hrel
    have HBE := Lib.hid hbel
    clear hbel
    by_cases hlt : k < N
    · have k0 : (0 : Int) ≤ (k : Int) := by omega
      have k1 : (k : Int) ≤ (cap : Int) := by omega
      have HBk := Lib.hid (show BytesAt wr ao ((evE e).take k) by
        have h := ((HB.out.below HBE.out).take N).take k
        rwa [HTK.out] at h)
      go_wp2_with fail
      refine (decode_short e k ao cap wr (HRES.out.below HBE.out) (by rw [← HN.out]; exact hlt) HBk.out (by omega) (by unfold maxLen; omega) HE.out).mono ?_; rintro en w5 ⟨rfl, hb5⟩
      go_wp2_with fail
      go_roundw
      case rel => exact ⟨k + 1, by omega, by go_num, (HBE.out.trans (hb5.mono HBE.out.size)).alloc (Nat.le_trans HBE.out.size hb5.size) _⟩
      case measure => simp [intOf]; omega
    · go_wp2_with fail
      go_ret
      exact ⟨rfl, HBE.out⟩

set_option maxHeartbeats 8000000 in
set_option maxRecDepth 100000 in
theorem front_any (l : List UInt8) (ao : Option Addr) (cap : Nat) (w : World) (hres : ResAt w) (hb : BytesAt w ao l) (hlc : l.length ≤ cap) (hcm : cap ≤ maxLen) :
    Calls Tryd.prog 12 #[.slice ao l.length cap] w fun en w' => en = .returned (.bool true) ∧ Below w.heap.size w w' := by
  by_cases hf : (eventR ⟨l, 0⟩).2.fault = 0
  · obtain ⟨h1, h2⟩ := event_codec.back l hf
    obtain ⟨e, he⟩ : ∃ e, e = (eventR ⟨l, 0⟩).1 := ⟨_, rfl⟩
    obtain ⟨r, hr⟩ : ∃ r, r = (eventR ⟨l, 0⟩).2.rest := ⟨_, rfl⟩
    rw [← he] at h1 h2
    rw [← hr] at h2
    rw [h2] at hb hlc ⊢
    exact front_form e r ao cap w hres hb hlc hcm h1
  · have HD := Lib.hid (decode_no l ao cap w hres hb hlc hcm hf)
    obtain ⟨f, hfe⟩ : ∃ f, f = (eventR ⟨l, 0⟩).2.fault := ⟨_, rfl⟩
    rw [← hfe] at hf HD
    have hf2 : (f != 0) = true := by simpa [bne] using hf
    clear hres hb hfe hf
    go_enter Tryd.func12, Tryd.ntmps12
    go_wp2_with fail
    refine HD.out.mono ?_; rintro en w1 ⟨rfl, hb1⟩
    go_wp2_with fail
    go_ret
    exact ⟨rfl, hb1.alloc hb1.size _⟩
end Go.Proofs.YtekaimfabadclaaDoor
/- The law's number: what is read would be written so, and less of it ends too early. -/
namespace Go.Proofs.YtekaimfabadclaaDoor
open Go Go.RowKit

theorem intB_form (v : Int) (r : List UInt8) (h1 : -9223372036854775808 ≤ v) (h2 : v ≤ 9223372036854775807) : intB (putB v ++ r) = (v, (putB v).length, 0) := by
  have e := read_put (zz v) 0 0 r (by omega) (by have := zz_lt v h1 h2; simpa using this) (by omega)
  have e' : readZ 0 0 (putB v ++ r) = (zz v, (putB v).length, 0) := by unfold putB; rw [e]; simp
  unfold intB
  rw [e', if_pos rfl, unz_zz]
theorem intB_short (v : Int) (i : Nat) (h1 : -9223372036854775808 ≤ v) (h2 : v ≤ 9223372036854775807) (hi : i < (putB v).length) : intB ((putB v).take i) = (0, 0, 30) := by
  have e := read_put (zz v) 0 0 [] (by omega) (by have := zz_lt v h1 h2; simpa using this) (by omega)
  obtain ⟨z, r, e1, e2, e3, _, e5, e6⟩ := read_back _ 0 0 _ _ (by omega) e
  have hz : z = zz v := by simpa using e2.symm
  subst hz
  have e7 := e6 i hi
  unfold intB putB
  rw [e7]
  rfl
theorem intB_back (l : List UInt8) (h : (intB l).2.2 = 0) : ∃ v r, l = putB v ++ r ∧ -9223372036854775808 ≤ v ∧ v ≤ 9223372036854775807 := by
  unfold intB at h
  by_cases h0 : (readZ 0 0 l).2.2 = 0
  · obtain ⟨z, r, e1, e2, e3, _, e5, _⟩ := read_back l 0 0 (readZ 0 0 l).1 (readZ 0 0 l).2.1 (by omega) (Prod.ext rfl (Prod.ext rfl h0))
    have hb := unz_bd z (by simpa using e3)
    exact ⟨unz z, r, by unfold putB; rw [zz_unz]; exact e1, hb.1, hb.2⟩
  · rw [if_neg h0] at h
    exact absurd h h0
theorem putB_pos (v : Int) : 1 ≤ (putB v).length := putZ_pos _

set_option maxHeartbeats 8000000 in
set_option maxRecDepth 100000 in
theorem number_form (v : Int) (r : List UInt8) (ao : Option Addr) (cap : Nat) (w : World) (h1 : -9223372036854775808 ≤ v) (h2 : v ≤ 9223372036854775807) (hb : BytesAt w ao (putB v ++ r)) (hlc : (putB v ++ r).length ≤ cap) (hcm : cap ≤ maxLen) :
    Calls Tryd.prog 13 #[.slice ao (putB v ++ r).length cap] w fun en w' => en = .returned (.bool true) ∧ Below w.heap.size w w' := by
  have HB := Lib.hid hb
  have HI := Lib.hid (int_any (putB v ++ r) ao cap w hb (Nat.le_trans hlc hcm))
  rw [intB_form v r h1 h2] at HI
  obtain ⟨L, hL⟩ : ∃ L, L = (putB v ++ r).length := ⟨_, rfl⟩
  have hpos := putB_pos v
  have hle := putB_le v h1 h2
  obtain ⟨N, hN⟩ : ∃ N, N = (putB v).length := ⟨_, rfl⟩
  have hNL : N ≤ L := by rw [hL, hN, List.length_append]; omega
  have HTK := Lib.hid (show (putB v ++ r).take N = putB v by rw [hN, List.take_left])
  rw [← hL] at hlc ⊢
  rw [← hL, ← hN] at HI
  simp only at HI
  rw [← hN] at hpos hle
  have HN := Lib.hid hN
  have HL := Lib.hid hL
  have HSH := Lib.hid (fun i hi => intB_short v i h1 h2 hi)
  rw [← hN] at HSH
  unfold maxLen at hcm
  clear hb hL hN
  have d1 : decide ((N : Int) < 1) = false := decide_eq_false (by omega)
  have d2 : decide (L < N) = false := decide_eq_false (by omega)
  have z0 : (0 : Int) ≤ (N : Int) := by omega
  have z1 : (N : Int) ≤ (cap : Int) := by omega
  have HBN := Lib.hid (show BytesAt w ao (putB v) by have := HB.out.take N; rwa [HTK.out] at this)
  have HSM := Lib.hid (fun (W : World) (a2 : Option Addr) (c2 : Nat) (hy : BytesAt W a2 (putB v)) (hz : BytesAt W ao (putB v)) => same_same (putB v) a2 ao c2 cap W (by rw [← HN.out]; unfold maxLen; omega) hy hz)
  rw [← HN.out] at HSM
  go_enter Tryd.func13, Tryd.ntmps13
  go_wp2_with fail
  refine HI.out.mono ?_; rintro en w1 ⟨rfl, rfl⟩
  go_wp2_with fail
  go_cut [34] (fun s34 wx => s34 = .bool false ∧ Below w.heap.size w wx)
  case first =>
    go_region_held3 (fun _ => True) (first | trivial | exact trivial) ((first
      | (go_at_call 14; refine (putInt_any v _ h1 h2).mono ?_; rintro e w2 ⟨v2, rfl, hx2⟩; obtain ⟨a2, c2, rfl, hy2, _, _⟩ := owned_bytes hx2.own; rw [← HN.out]; have HB2 := Lib.hid ((Below.refl w.heap.size w).drew.trans hx2.fresh))
      | (go_at_call 22; refine (HSM.out _ _ _ hy2 (HBN.out.below HB2.out)).mono ?_; rintro e w3 ⟨rfl, hb3⟩)))
    all_goals
      go_wp2_with fail
      go_meet
      exact ⟨rfl, HB2.out.trans (hb3.mono HB2.out.size)⟩
  case rest =>
    obtain ⟨rfl, hbc⟩ := hcut
    obtain ⟨W4, hW4⟩ : ∃ W4, W4 = wc := ⟨_, rfl⟩
    rw [← hW4] at hbc ⊢
    have HB4 := Lib.hid hbc
    clear hbc hW4 d1 d2
    go_wp2_with fail
    go_loopw [6] (fun i wr => ∃ k : Nat, k ≤ N ∧ i = .int .i64 k ∧ Below w.heap.size w wr) (fun i _ => N - (intOf i).toNat)
    case atStart => exact ⟨0, Nat.zero_le _, rfl, HB4.out⟩
    case round =>
      obtain ⟨k, hk, rfl, hbel⟩ := hrel
      have HBE := Lib.hid hbel
      clear hbel
      by_cases hlt : k < N
      · have k0 : (0 : Int) ≤ (k : Int) := by omega
        have k1 : (k : Int) ≤ (cap : Int) := by omega
        have hlk : ((putB v).take k).length = k := by rw [List.length_take, ← HN.out]; omega
        have HIk := int_any ((putB v).take k) ao cap wr ((HBN.out.below HBE.out).take k) (by rw [hlk]; unfold maxLen; omega)
        rw [HSH.out k hlt, hlk] at HIk
        simp only at HIk
        have HIK := Lib.hid HIk
        clear HIk hlk
        go_wp2_with fail
        refine HIK.out.mono ?_; rintro en w5 ⟨rfl, rfl⟩
        go_wp2_with fail
        go_roundw
        case rel => exact ⟨k + 1, by omega, by go_num, HBE.out⟩
        case measure => simp [intOf]; omega
      · go_wp2_with fail
        go_ret
        exact ⟨rfl, HBE.out⟩

set_option maxHeartbeats 8000000 in
set_option maxRecDepth 100000 in
theorem number_law (l : List UInt8) (ao : Option Addr) (cap : Nat) (w : World) (hb : BytesAt w ao l) (hlc : l.length ≤ cap) (hcm : cap ≤ maxLen) :
    Calls Tryd.prog 13 #[.slice ao l.length cap] w fun en w' => en = .returned (.bool true) ∧ Below w.heap.size w w' := by
  by_cases hf : (intB l).2.2 = 0
  · obtain ⟨v, r, h1, h2, h3⟩ := intB_back l hf
    rw [h1] at hb hlc ⊢
    exact number_form v r ao cap w h2 h3 hb hlc hcm
  · have HI := Lib.hid (int_any l ao cap w hb (Nat.le_trans hlc hcm))
    obtain ⟨⟨v, n, f⟩, hv⟩ : ∃ x, x = intB l := ⟨_, rfl⟩
    rw [← hv] at hf HI
    simp only at hf HI
    have hf2 : (f != 0) = true := by simpa [bne] using hf
    clear hb hv hf
    go_enter Tryd.func13, Tryd.ntmps13
    go_wp2_with fail
    refine HI.out.mono ?_; rintro en w1 ⟨rfl, rfl⟩
    go_wp2_with fail
    go_ret
    exact ⟨rfl, Below.refl _ _⟩
end Go.Proofs.YtekaimfabadclaaDoor
/- The walk of the law of one form. -/
namespace Go.Proofs.YtekaimfabadclaaDoor
open Go Go.RowKit

/-- Bytes that came in: none at all, or from an address on. -/
def BytesArg (w : World) (ao : Option Addr) (cap : Nat) (l : List UInt8) : Prop :=
  (ao = none ∧ cap = 0 ∧ l = []) ∨ ∃ ad, ao = some ad ∧ ∀ j u, (bytesC l)[j]? = some u → w.cell? (ad.add j) = some u
theorem BytesArg.below {w w' : World} {ao : Option Addr} {cap : Nat} {l : List UInt8} (h : BytesArg w ao cap l) (hb : Below w.heap.size w w') : BytesArg w' ao cap l := by
  rcases h with h | ⟨ad, rfl, h⟩
  · exact Or.inl h
  · exact Or.inr ⟨ad, rfl, fun j u hu => by
      have hl := World.block_lt_of_cell? w _ (h j u hu)
      exact (hb.cell (p := ad.add j) hl).trans (h j u hu)⟩
theorem news_of {w : World} {b o : Nat} {l : List UInt8} (h : ∀ i (h : i < l.length), w.cell? ⟨b, o + i, none⟩ = some (.int .u8 (l[i].toNat : Int))) : ∀ j u, (bytesC l)[j]? = some u → w.cell? ((⟨b, o, none⟩ : Addr).add j) = some u := by
  intro j u hu
  have hj : j < l.length := by
    have := (List.getElem?_eq_some_iff.1 hu).1
    rwa [bytesC_len] at this
  rw [bytesC_get l j hj] at hu
  have e : (⟨b, o, none⟩ : Addr).add j = ⟨b, o + j, none⟩ := by
    unfold Addr.add
    split
    · subst_vars; rfl
    · rfl
  rw [e, h j hj]
  exact hu
/-- 'append(append([]byte(nil), p...), behind...)': what stands behind the two. -/
structure Both (w w' : World) (v : Value) (l : List UInt8) : Prop where
  own : w'.ownsRow w.heap.size 5 1 v l.length (bytesC l)
  below : Below w.heap.size w w'
theorem below_of_grown {w w' : World} {row : Option Nat} (h : w.grownBy w' row) (hr : row = none) : Below w.heap.size w w' := ⟨h.os, h.tape, h.output, h.size, fun k hk => h.block k hk (by rw [hr]; simp)⟩

/-- 'append(s, l...)' of bytes that came in, onto a row of one's own. -/
theorem wpList_append_arg8 {w : World} {ops : Array Oper} {rest : List Oper} {o : Oper} {a : Act} {Q : Exit → Act → World → Prop} (hgd : o.guard = none) (s x : Operand)
    (ho : o.op = .call { callee := .builtin .append, args := #[s, x], argTypes := #[25, 25] }) (base : Nat) (v : Value) (p : List UInt8) (hs : a.eval s = v) (hown : w.ownsRow base 5 1 v p.length (bytesC p))
    (ao : Option Addr) (cap : Nat) (l : List UInt8) (hx : a.eval x = .slice ao l.length cap) (harg : BytesArg w ao cap l) (hl : p.length + l.length ≤ 200000000000000) (hbase : base ≤ w.heap.size)
    (h : ∀ v' w', w'.ownsRow base 5 1 v' (p ++ l).length (bytesC (p ++ l)) → w.grownBy w' v.ownBlock → wpList Tryd.prog ops Q rest (a.put o.dst v') w') :
    wpList Tryd.prog ops Q (o :: rest) a w := by
  obtain ⟨i0, hi0, hz0, hz1, hz2⟩ := info_parts Tryd.infoU8
  rcases harg with ⟨rfl, rfl, rfl⟩ | ⟨ad, rfl, hc⟩
  · refine wpList_append_own_none hgd s x 25 ho base 5 i0 1 Tryd.underlying25 hi0 v p.length (bytesC p) hs hown hx ?_
    exact h v w (by rw [List.append_nil]; exact hown) (grownBy_refl _ _)
  · refine wpList_append_own_wide w hgd s x 25 ho base 5 i0 _ 1 1 Tryd.underlying25 hi0 hz0 hz1 hz2 rfl (by omega) v p.length (bytesC p) hs hown ad l.length cap (bytesC l) hx (by rw [bytesC_len]; omega) hc (bytesC_one _) (by unfold maxLen; omega) (by omega) hbase ?_
    intro v' w' h1 h2 _
    refine h v' w' ?_ h2
    rw [List.length_append, bytesC_append]
    exact h1
theorem owned_arg {w : World} {B : Nat} {v : Value} {l : List UInt8} (h : w.ownsRow B 5 1 v l.length (bytesC l)) : ∃ ao cap, v = .slice ao l.length cap ∧ BytesArg w ao cap l ∧ BytesAt w ao l ∧ l.length ≤ cap ∧ cap ≤ maxLen := by
  obtain ⟨ao, cap, hv, hb, hc, hm⟩ := owned_bytes h
  refine ⟨ao, cap, hv, ?_, hb, hc, hm⟩
  rcases h.2 with ⟨e, h0⟩ | ⟨g, cap', cur, e, _, hh, hn, _, _, ht⟩
  · rw [hv] at e
    injection e with e1 e2 e3
    exact Or.inl ⟨e1, e3, List.eq_nil_of_length_eq_zero h0⟩
  · rw [hv] at e
    injection e with e1 e2 e3
    refine Or.inr ⟨⟨g, 0, none⟩, e1, news_of fun i hi => ?_⟩
    have hg := bytesC_get l i hi
    rw [← ht, List.getElem?_take, if_pos (by omega)] at hg
    rw [Nat.zero_add, cell_of_row w g i _ _ (0, 0) hh]
    simpa using hg
theorem Both.a {w w1 : World} {v : Value} {p : List UInt8} (h : w1.ownsRow w.heap.size 5 1 v ([] ++ p).length (bytesC ([] ++ p))) (hg : w.grownBy w1 (Value.slice none 0 0).ownBlock) : Both w w1 v p := ⟨h, below_of_grown hg rfl⟩
theorem Both.b {w w1 w2 : World} {v u : Value} {p l : List UInt8} (hb : Both w w1 v p) (h : w2.ownsRow w.heap.size 5 1 u (p ++ l).length (bytesC (p ++ l))) (hg : w1.grownBy w2 v.ownBlock) : Both w w2 u (p ++ l) :=
  ⟨h, hb.below.grown hg hb.below.size (fun k hk => (hb.own.lt k hk).1)⟩
end Go.Proofs.YtekaimfabadclaaDoor
/- Package wire: the sum of a batch. -/
namespace Go.Proofs.YtekaimfabadclaaDoor
open Go Go.RowKit

theorem sum_take (l : List UInt8) (k : Nat) (hk : k < l.length) : sumPQ (l.take (k + 1)) = sumR (sumPQ (l.take k)) l[k] := by
  rw [List.take_succ_eq_append_getElem hk, sumPQ_snoc]

set_option maxHeartbeats 8000000 in
set_option maxRecDepth 100000 in
theorem sum_any (l : List UInt8) (ao : Option Addr) (cap : Nat) (w : World) (hb : BytesAt w ao l) (hlc : l.length ≤ cap) (hcm : cap ≤ maxLen) :
    Calls Tryd.prog 51 #[.slice ao l.length cap] w fun en w' => en = .returned (.agg (bytesC (sumB l)).toArray) ∧ Below w.heap.size w w' := by
  obtain ⟨W1, hW1⟩ : ∃ W1, W1 = w.alloc (Obj.cells #[.int .u8 0, .int .u8 0, .int .u8 0, .int .u8 0] 91) := ⟨_, rfl⟩
  have hb1 : Below w.heap.size w W1 := by rw [hW1]; exact (Below.refl _ _).alloc (Nat.le_refl _) _
  have HB1 := Lib.hid hb1
  have HBN := Lib.hid (hb.below hb1)
  have hz1 : w.heap.size < W1.heap.size := by rw [hW1]; simp
  have HH1 := Lib.hid (show W1.heap[w.heap.size]? = some (Obj.cells #[.int .u8 0, .int .u8 0, .int .u8 0, .int .u8 0] 91 (0, 0)) by rw [hW1]; exact heap_alloc_new _ _)
  have HW1 := Lib.hid hW1
  unfold maxLen at hcm
  clear hb hb1 hW1
  go_enter Tryd.func51, Tryd.ntmps51
  go_upto_region 1 with fail
  rw [← HW1.out]
  go_wp2_with fail
  go_loop [3, 4, 9] (fun a c i => ∃ k : Nat, k ≤ l.length ∧ i = .int .i64 k ∧ a = .int .i64 ((sumPQ (l.take k)).1 : Nat) ∧ c = .int .i64 ((sumPQ (l.take k)).2 : Nat)) (fun _ _ i => l.length - (intOf i).toNat)
  case atStart => exact ⟨0, Nat.zero_le _, rfl, rfl, rfl⟩
  case round =>
    obtain ⟨k, hk, rfl, rfl, rfl⟩ := hrel
    obtain ⟨P, hP⟩ : ∃ P, P = (sumPQ (l.take k)).1 := ⟨_, rfl⟩
    obtain ⟨Q, hQ⟩ : ∃ Q, Q = (sumPQ (l.take k)).2 := ⟨_, rfl⟩
    have hlt := sumPQ_lt (l.take k)
    rw [← hP, ← hQ] at hlt ⊢
    obtain ⟨hp, hq⟩ := hlt
    have HP := Lib.hid hP
    have HQ := Lib.hid hQ
    clear hP hQ
    by_cases hlt : k < l.length
    · obtain ⟨b, o, rfl, hc⟩ : ∃ b o, ao = some ⟨b, o, none⟩ ∧ ∀ i (h : i < l.length), W1.cell? ⟨b, o + i, none⟩ = some (.int .u8 (l[i].toNat : Int)) := by
        rcases HBN.out with h | h
        · rw [h] at hlt; simp at hlt
        · exact h
      have hck := hc k hlt
      have hst := sum_take l k hlt
      obtain ⟨x, hx⟩ : ∃ x, x = l[k] := ⟨_, rfl⟩
      rw [← hx] at hck hst
      have hx8 := x.toNat_lt
      have hr : sumPQ (l.take k) = (P, Q) := by rw [HP.out, HQ.out]
      rw [hr] at hst
      have HST := Lib.hid hst
      clear hc hx hst hr
      have HM1 := Lib.hid (show ((P : Int) + (x.toNat : Int)) % 65521 = (((P + x.toNat) % 65521 : Nat) : Int) by omega)
      go_wp2_with fail
      go_round
      case rel =>
        refine ⟨k + 1, by omega, by go_num, ?_, ?_⟩
        · rw [HST.out]
          simp only [sumR]
          go_num
        · rw [HST.out]
          simp only [sumR]
          go_num
      case measure => simp [intOf]; omega
    · have hke : k = l.length := by omega
      subst hke
      rw [List.take_length] at HP HQ
      have a0 : W1.cell? ⟨w.heap.size, 0, none⟩ = some (.int .u8 0) := by simp [World.cell?, HH1.out]
      have a1 : W1.cell? ⟨w.heap.size, 1, none⟩ = some (.int .u8 0) := by simp [World.cell?, HH1.out]
      have a2 : W1.cell? ⟨w.heap.size, 2, none⟩ = some (.int .u8 0) := by simp [World.cell?, HH1.out]
      have a3 : W1.cell? ⟨w.heap.size, 3, none⟩ = some (.int .u8 0) := by simp [World.cell?, HH1.out]
      have b0 : W1.frozen? ⟨w.heap.size, 0, none⟩ = false := by simp [World.frozen?, HH1.out]
      have b1 : W1.frozen? ⟨w.heap.size, 1, none⟩ = false := by simp [World.frozen?, HH1.out]
      have b2 : W1.frozen? ⟨w.heap.size, 2, none⟩ = false := by simp [World.frozen?, HH1.out]
      have b3 : W1.frozen? ⟨w.heap.size, 3, none⟩ = false := by simp [World.frozen?, HH1.out]
      go_wp2_with fail
      refine bodyPost_ret (v := .agg #[.int .u8 ((Q : Int) / 256), .int .u8 ((Q : Int) % 256), .int .u8 ((P : Int) / 256), .int .u8 ((P : Int) % 256)]) (by simp [results, Tryd.results51, go_sem, a0, a1, a2, a3]) rfl ⟨?_, ?_⟩
      · have e : ∀ n : Nat, n < 256 → (((UInt8.ofNat n).toNat : Nat) : Int) = (n : Int) := fun n h => by simp; omega
        have h : (bytesC (sumB l)).toArray = #[.int .u8 ((Q : Int) / 256), .int .u8 ((Q : Int) % 256), .int .u8 ((P : Int) / 256), .int .u8 ((P : Int) % 256)] := by
          unfold sumB
          rw [← HP.out, ← HQ.out]
          simp only [bytesC, List.map_cons, List.map_nil]
          rw [e (Q / 256) (by omega), e (Q % 256) (by omega), e (P / 256) (by omega), e (P % 256) (by omega)]
          norm_cast
        rw [h]
      · exact ((((HB1.out.setCell (Nat.le_refl _) _).setCell (Nat.le_refl _) _).setCell (Nat.le_refl _) _).setCell (Nat.le_refl _) _)
end Go.Proofs.YtekaimfabadclaaDoor
/- Package wire: Pack. -/
namespace Go.Proofs.YtekaimfabadclaaDoor
open Go Go.RowKit

/-- An event, where its values lie, and their room. -/
structure EvX where
  ev : Ev
  va : Option Addr
  cap : Nat
def EvX.v (x : EvX) : Value := evV x.ev x.va x.cap
def xs (l : List EvX) : List Ev := l.map (·.ev)
/-- Events that lie from an address on. -/
def EvsIn (B : Nat) (w : World) (ao : Option Addr) (l : List EvX) : Prop :=
  l = [] ∨ ∃ b o, ao = some ⟨b, o, none⟩ ∧ b < B ∧ ∀ i (h : i < l.length), (w.cell? ⟨b, o + i * 3, none⟩ = some (.string l[i].ev.ty) ∧ w.cell? ⟨b, o + i * 3 + 1, none⟩ = some (.int .i64 l[i].ev.time) ∧ w.cell? ⟨b, o + i * 3 + 2, none⟩ = some (.slice l[i].va l[i].ev.vals.length l[i].cap)) ∧ ValsIn B w l[i].va l[i].ev.vals
theorem EvsIn.below {B : Nat} {w w' : World} {ao : Option Addr} {l : List EvX} (h : EvsIn B w ao l) (hb : Below w.heap.size w w') (hB : B ≤ w.heap.size) : EvsIn B w' ao l := by
  rcases h with h | ⟨b, o, rfl, hlt, h⟩
  · exact Or.inl h
  · refine Or.inr ⟨b, o, rfl, hlt, fun i hi => ?_⟩
    obtain ⟨⟨h0, h1, h2⟩, h3⟩ := h i hi
    exact ⟨⟨(hb.cell (p := ⟨b, o + i * 3, none⟩) (Nat.lt_of_lt_of_le hlt hB)).trans h0, (hb.cell (p := ⟨b, o + i * 3 + 1, none⟩) (Nat.lt_of_lt_of_le hlt hB)).trans h1, (hb.cell (p := ⟨b, o + i * 3 + 2, none⟩) (Nat.lt_of_lt_of_le hlt hB)).trans h2⟩, h3.below hb hB⟩

def packB (l : List Ev) : List UInt8 := batchE l ++ sumB (batchE l)
def packOk (l : List Ev) : Prop := l.length ≤ 1024 ∧ (∀ e ∈ l, evOk e) ∧ (batchE l).length + 4 ≤ 1048576
/-- A value, as Go bounds it. -/
def valGo (a : Val) : Prop := a.str.size ≤ maxLen ∧ -9223372036854775808 ≤ a.int ∧ a.int ≤ 9223372036854775807
theorem flat_le (l : List Ev) (h : ∀ e ∈ l, evOk e) : (l.flatMap evE).length ≤ l.length * 4400 := by
  induction l with
  | nil => simp
  | cons a r ih =>
    have h1 := evE_le a (h a (by simp))
    have h2 := ih (fun e he => h e (by simp [he]))
    simp only [List.flatMap_cons, List.length_append, List.length_cons]
    omega
theorem flat_take (l : List Ev) (k : Nat) (hk : k < l.length) : (l.take (k + 1)).flatMap evE = (l.take k).flatMap evE ++ evE l[k] := by
  rw [List.take_succ_eq_append_getElem hk, List.flatMap_append]
  simp
theorem sum_block {w : World} {l : List UInt8} {b : Nat} {t : TypeId} (h : w.heap[b]? = some (Obj.cells (bytesC l).toArray t (0, 0))) (cap : Nat) : BytesArg w (some ⟨b, 0, none⟩) cap l := by
  rcases bytes_of_block h with h0 | ⟨b', o, e, hc⟩
  · exact Or.inr ⟨_, rfl, fun j u hu => by rw [h0] at hu; simp [bytesC] at hu⟩
  · cases e
    exact Or.inr ⟨_, rfl, news_of hc⟩

set_option maxHeartbeats 8000000 in
set_option maxRecDepth 100000 in
theorem pack_any (l : List EvX) (ao : Option Addr) (cap : Nat) (w : World) (hres : ResAt w) (hl : EvsIn w.heap.size w ao l) (_hlc : l.length ≤ cap) (_hcm : cap ≤ maxLen) (hin : ∀ x ∈ l, ∀ a ∈ x.ev.vals, valGo a) :
    Calls Tryd.prog 19 #[.slice ao l.length cap] w fun en w' => ∃ v f, en = .returned (.tuple #[v, .int .i64 f]) ∧ Below w.heap.size w w' ∧ ((f = 0 ∧ packOk (xs l) ∧ w'.ownsRow w.heap.size 5 1 v (packB (xs l)).length (bytesC (packB (xs l)))) ∨ (f ≠ 0 ∧ ¬ packOk (xs l) ∧ v = .slice none 0 0)) := by
  have HRES := Lib.hid hres
  have HL := Lib.hid hl
  have HIN := Lib.hid hin
  unfold maxLen at _hcm
  have hxl : (xs l).length = l.length := by simp [xs]
  clear hres hl hin
  by_cases hlong : 1024 < l.length
  · have hno : ¬ packOk (xs l) := fun h => by have := h.1; omega
    have HNO := Lib.hid hno
    clear hno hxl
    go_enter Tryd.func19, Tryd.ntmps19
    go_wp2_with fail
    go_ret2
    exact ⟨_, _, rfl, Below.refl _ _, Or.inr ⟨by decide, HNO.out, rfl⟩⟩
  · go_enter Tryd.func19, Tryd.ntmps19
    go_wp2_with fail
    refine (putInt_any (l.length : Int) w (by omega) (by omega)).mono ?_; rintro en w1 ⟨v1, rfl, hx1⟩
    have HO1 := Lib.hid (show w1.ownsRow w.heap.size 5 1 v1 (putB (l.length : Int) ++ ((xs l).take 0).flatMap evE).length (bytesC (putB (l.length : Int) ++ ((xs l).take 0).flatMap evE)) by simpa using hx1.own)
    have HB1 := Lib.hid hx1.fresh
    have HPL := Lib.hid (putB_le (l.length : Int) (by omega) (by omega))
    clear hx1
    go_wp2_with fail
    go_loopw [4, 17] (fun v i wr => ∃ k : Nat, k ≤ l.length ∧ i = .int .i64 k ∧ (∀ e ∈ (xs l).take k, evOk e) ∧ wr.ownsRow w.heap.size 5 1 v (putB (l.length : Int) ++ ((xs l).take k).flatMap evE).length (bytesC (putB (l.length : Int) ++ ((xs l).take k).flatMap evE)) ∧ Below w.heap.size w wr) (fun _ i _ => l.length - (intOf i).toNat)
    case atStart => exact ⟨0, Nat.zero_le _, rfl, by simp, HO1.out, HB1.out⟩
    case round =>
      obtain ⟨k, hk, rfl, hok, hown, hbel⟩ := hrel
      have HOK := Lib.hid hok
      have HOWN := Lib.hid hown
      have HBE := Lib.hid hbel
      clear hok hown hbel
      by_cases hlt : k < l.length
      · obtain ⟨b, o, rfl, hlb, hc⟩ : ∃ b o, ao = some ⟨b, o, none⟩ ∧ b < w.heap.size ∧ ∀ i (h : i < l.length), (wr.cell? ⟨b, o + i * 3, none⟩ = some (.string l[i].ev.ty) ∧ wr.cell? ⟨b, o + i * 3 + 1, none⟩ = some (.int .i64 l[i].ev.time) ∧ wr.cell? ⟨b, o + i * 3 + 2, none⟩ = some (.slice l[i].va l[i].ev.vals.length l[i].cap)) ∧ ValsIn w.heap.size wr l[i].va l[i].ev.vals := by
          rcases HL.out.below HBE.out (Nat.le_refl _) with h | h
          · rw [h] at hlt; simp at hlt
          · exact h
        obtain ⟨⟨d0, d1, d2⟩, hvk⟩ := hc k hlt
        have hgo := HIN.out l[k] (List.getElem_mem hlt)
        have hxk : (xs l)[k]'(by simpa [xs] using hlt) = l[k].ev := by simp [xs]
        have hft := flat_take (xs l) k (by simpa [xs] using hlt)
        have htk : (xs l).take (k + 1) = (xs l).take k ++ [l[k].ev] := by rw [List.take_succ_eq_append_getElem (by simpa [xs] using hlt), hxk]
        have hmem : l[k].ev ∈ xs l := List.mem_map_of_mem (List.getElem_mem hlt)
        rw [hxk] at hft
        obtain ⟨x, hx⟩ : ∃ x, x = l[k] := ⟨_, rfl⟩
        rw [← hx] at d0 d1 d2 hvk hgo hft htk hmem
        clear hx hxk hc
        obtain ⟨⟨ty, tm, vals⟩, va, vc⟩ := x
        simp only at d0 d1 d2 hvk hgo hft htk hmem
        have HV := Lib.hid hvk
        have HGO := Lib.hid hgo
        have HFT := Lib.hid hft
        have HTK := Lib.hid htk
        have HMEM := Lib.hid hmem
        have HLEN := Lib.hid (show (putB (l.length : Int) ++ ((xs l).take k).flatMap evE).length ≤ 700000000 by
          have h1 := HPL.out
          have h2 := flat_le ((xs l).take k) HOK.out
          have h3 : ((xs l).take k).length ≤ k := by rw [List.length_take]; omega
          have h4 : ((xs l).take k).length * 4400 ≤ k * 4400 := Nat.mul_le_mul_right _ h3
          rw [List.length_append]
          omega)
        obtain ⟨C, hC⟩ : ∃ C, C = putB (l.length : Int) ++ ((xs l).take k).flatMap evE := ⟨_, rfl⟩
        rw [← hC] at HOWN HLEN
        have HC := Lib.hid hC
        obtain ⟨W2, hW2⟩ : ∃ W2, W2 = wr.alloc (Obj.cells #[.string ty, .int .i64 tm, .slice va vals.length vc] 24) := ⟨_, rfl⟩
        obtain ⟨T, hT⟩ : ∃ T, T = wr.heap.size := ⟨_, rfl⟩
        have hb2 : Below wr.heap.size wr W2 := by rw [hW2]; exact (Below.refl _ _).alloc (Nat.le_refl _) _
        have HT2 := Lib.hid (show Cells3 W2 T (.string ty) (.int .i64 tm) (.slice va vals.length vc) by rw [hW2, hT]; exact Cells3.made _ _ _ _ _)
        have HB2 := Lib.hid (HBE.out.trans (hb2.mono HBE.out.size))
        have HV2 := Lib.hid (HV.out.below hb2 HBE.out.size)
        have HO2 := Lib.hid (owns_below HOWN.out hb2)
        have HW2 := Lib.hid hW2
        have HTE := Lib.hid hT
        clear hvk hgo hft htk hmem hC hW2 hT hb2
        have k0 : (0 : Int) ≤ (k : Int) := by omega
        go_upto_region 7 with fail
        rw [← HW2.out, ← HTE.out]
        have t0 := HT2.out.c0
        have t1 := HT2.out.c1
        have t2 := HT2.out.c2
        have HF := wfault_any ⟨ty, tm, vals⟩ va vc W2 (HRES.out.below HB2.out) (HV2.out.mono HB2.out.size) (fun a ha => (HGO.out a ha).1)
        simp only [evV] at HF
        have HFE := Lib.hid (evFault_ok ⟨ty, tm, vals⟩ (fun a ha => (HGO.out a ha).2))
        obtain ⟨f, hf⟩ : ∃ f, f = evFault ⟨ty, tm, vals⟩ := ⟨_, rfl⟩
        rw [← hf] at HF HFE
        have HFF := Lib.hid HF
        clear HF hf
        go_wp2_with fail
        refine HFF.out.mono ?_; rintro en w3 ⟨rfl, hb3⟩
        have HB3 := Lib.hid (HB2.out.trans (hb3.mono HB2.out.size))
        have HT3 := Lib.hid (HT2.out.below hb3)
        have HV3 := Lib.hid (HV2.out.below hb3 HB2.out.size)
        have HO3 := Lib.hid (owns_below HO2.out hb3)
        clear hb3 t0 t1 t2 d0 d1 d2
        cases hf0 : (f == 0)
        · have hfn : (f != 0) = true := by simp [bne, hf0]
          have HFN := Lib.hid (show f ≠ 0 by simpa using hf0)
          clear hf0
          go_wp2_with fail
          go_ret2
          exact ⟨_, _, rfl, HB3.out, Or.inr ⟨HFN.out, fun h => HFN.out (HFE.out.2 (h.2.1 _ HMEM.out)), rfl⟩⟩
        · have hfn : (f != 0) = false := by simp [bne, hf0]
          have HEO := Lib.hid (HFE.out.1 (by simpa using hf0))
          clear hf0
          have t0 := HT3.out.c0
          have t1 := HT3.out.c1
          have t2 := HT3.out.c2
          have HAP := Lib.hid (appendEvent_any w.heap.size _ C ⟨ty, tm, vals⟩ va vc w3 HEO.out HV3.out HO3.out HLEN.out HB3.out.size)
          simp only [evV] at HAP
          go_wp2_with fail
          refine HAP.out.mono ?_; rintro en w4 ⟨v4, rfl, hx4⟩
          have HX4 := Lib.hid hx4
          have HB4 := Lib.hid (HB3.out.grown hx4.grown HB3.out.size (fun j hj => (HO3.out.lt j hj).1))
          clear hx4 t0 t1 t2
          go_wp2_with fail
          go_roundw
          case rel =>
            refine ⟨k + 1, by omega, by go_num, ?_, ?_, HB4.out⟩
            · rw [HTK.out]
              intro e he
              rcases List.mem_append.1 he with he | he
              · exact HOK.out e he
              · rw [List.mem_singleton.1 he]; exact HEO.out
            · have h := HX4.out.own
              rw [HC.out, List.append_assoc, ← HFT.out] at h
              exact h
          case measure => simp [intOf]; omega
      · have hke : k = l.length := by omega
        subst hke
        have htk : (xs l).take l.length = xs l := by rw [← hxl, List.take_length]
        rw [htk] at HOK HOWN
        have HBT := Lib.hid (show putB (l.length : Int) ++ (xs l).flatMap evE = batchE (xs l) by unfold batchE; rw [hxl])
        rw [HBT.out] at HOWN
        obtain ⟨a9, c9, rfl, _, hy9, hc9, hm9⟩ := owned_arg HOWN.out
        have HY9 := Lib.hid hy9
        have HPO := Lib.hid (show packOk (xs l) ↔ (batchE (xs l)).length + 4 ≤ 1048576 from ⟨fun h => h.2.2, fun h => ⟨by omega, HOK.out, h⟩⟩)
        have hCl : (batchE (xs l)).length ≤ 700000000 := by
          have h1 := flat_le (xs l) HOK.out
          have h2 := HPL.out
          rw [← HBT.out, List.length_append]
          omega
        have HPB := Lib.hid (show packB (xs l) = batchE (xs l) ++ sumB (batchE (xs l)) from rfl)
        obtain ⟨C, hC⟩ : ∃ C, C = batchE (xs l) := ⟨_, rfl⟩
        rw [← hC] at HOWN HY9 HPO HPB hc9 hCl ⊢
        clear hy9 htk hC
        by_cases hbig : 1048576 < C.length + 4
        · have hq : (1048576 : Int) < (C.length : Int) + 4 := by omega
          have HNP := Lib.hid (show ¬ packOk (xs l) from fun h => by have := HPO.out.1 h; omega)
          clear hbig
          go_wp2_with fail
          go_ret2
          exact ⟨_, _, rfl, HBE.out, Or.inr ⟨by decide, HNP.out, rfl⟩⟩
        · have hq : ¬ (1048576 : Int) < (C.length : Int) + 4 := by omega
          have HYP := Lib.hid (HPO.out.2 (by omega))
          clear hbig
          have HSM := Lib.hid (sum_any C a9 c9 wr HY9.out hc9 hm9)
          obtain ⟨s0, s1, s2, s3, hs⟩ : ∃ s0 s1 s2 s3, sumB C = [s0, s1, s2, s3] := ⟨_, _, _, _, rfl⟩
          rw [hs] at HSM HPB
          have e4 : (bytesC [s0, s1, s2, s3]).toArray = #[.int .u8 (s0.toNat : Int), .int .u8 (s1.toNat : Int), .int .u8 (s2.toNat : Int), .int .u8 (s3.toNat : Int)] := rfl
          rw [e4] at HSM
          clear hs e4
          go_wp2_with fail
          refine HSM.out.mono ?_; rintro en w4 ⟨rfl, hb4⟩
          obtain ⟨W5, hW5⟩ : ∃ W5, W5 = w4.alloc (Obj.cells #[.int .u8 (s0.toNat : Int), .int .u8 (s1.toNat : Int), .int .u8 (s2.toNat : Int), .int .u8 (s3.toNat : Int)] 91) := ⟨_, rfl⟩
          obtain ⟨S, hS⟩ : ∃ S, S = w4.heap.size := ⟨_, rfl⟩
          have hb5 : Below w4.heap.size w4 W5 := by rw [hW5]; exact (Below.refl _ _).alloc (Nat.le_refl _) _
          have HB5 := Lib.hid ((HBE.out.trans (hb4.mono HBE.out.size)).trans (hb5.mono (Nat.le_trans HBE.out.size hb4.size)))
          have HO5 := Lib.hid (owns_below (owns_below HOWN.out hb4) hb5)
          have HG5 := Lib.hid (show BytesArg W5 (some ⟨S, 0, none⟩) 4 [s0, s1, s2, s3] from sum_block (by rw [hW5, hS]; exact heap_alloc_new _ _) 4)
          have hz5 : S < W5.heap.size := by rw [hW5, hS]; simp
          have HW5 := Lib.hid hW5
          have HSE := Lib.hid hS
          clear hb4 hb5 hW5 hS
          go_upto_region 15 with fail
          rw [← HW5.out, ← HSE.out]
          go_wp2_with (at_builtin; go_must (refine wpList_append_arg8 (by rfl) _ _ (by rfl) w.heap.size (.slice a9 C.length c9) C (by rfl) HO5.out (some ⟨S, 0, none⟩) 4 [s0, s1, s2, s3] (by rfl) HG5.out (by simp; omega) HB5.out.size ?_; intro v7 w7 ho7 hg7; have HO7 := Lib.hid ho7; have HB7 := Lib.hid (HB5.out.grown hg7 HB5.out.size (fun j hj => (HO5.out.lt j hj).1)); clear ho7 hg7))
          go_ret2
          exact ⟨_, _, rfl, HB7.out, Or.inl ⟨rfl, HYP.out, by rw [HPB.out]; exact HO7.out⟩⟩
end Go.Proofs.YtekaimfabadclaaDoor
