/- Package token: the next token. -/
import Derived.Test.YtaipljdpkgdheaaDoorWords
import Derived.WalkMore
import Derived.ScopeJumps
namespace Go.Proofs.YtaipljdpkgdheaaDoor
open Go Go.RowKit

/-- What next answers. -/
def nextV (n : Nat) (T : TokX) : Value := .tuple #[if T.err = 0 then tokV T.kind T.text (n - T.start.length) else tokV 0 [] 0, .int .i64 T.err]
def nextAt (n : Nat) (T : TokX) : Nat := if T.err = 0 then n - T.rest.length else n - T.start.length
def placeOf (rb : Nat) (w : World) : Nat := match w.cell? ⟨rb, 1, none⟩ with | some (.int _ k) => k.toNat | _ => 0
theorem place_at {rb : Nat} {w : World} {t : ByteArray} {q : Nat} (h : ReadAt w rb t q) : placeOf rb w = q := by
  unfold placeOf
  rw [h.c1]
  rfl
/-- A scope that is left by jumps back to one label: what holds at a jump leads on from the label; from the start one comes there. -/
theorem wp_scope_back {P : Program} {a : Act} {w : World} {Q : Exit → Act → World → Prop} {c rest : Code} (l : Nat) (J : Act → World → Prop) (μ : Act → World → Nat) (hf : findLabel c l = some (Code.skip.seq rest))
    (pass : ∀ a w, J a w → rest.wp P (Exit.jump l (fun a' w' => J a' w' ∧ μ a' w' < μ a w) Q) a w)
    (first : (∀ a w, J a w → rest.wp P (Exit.jump l J Q) a w) → c.wp P (Exit.jump l J Q) a w) : (Code.scope c).wp P Q a w :=
  wp_scope_jumps l J μ hf (first fun a w h => Code.wp_mono (fun e a' w' he => by
    cases e with
    | goto l' => exact ⟨he.1, he.2.1⟩
    | _ => exact he) (pass a w h)) (fun a w h => wp_seq (wp_skip (pass a w h)))
theorem state_cases (l : List UInt8) : stateR l = 0 ∨ stateR l = 1 ∨ stateR l = 2 ∨ stateR l = 3 ∨ stateR l = 4 ∨ stateR l = 5 ∨ stateR l = 6 ∨ stateR l = 7 := by
  cases l with
  | nil => right; right; right; right; right; right; right; rfl
  | cons b r =>
    unfold stateR
    simp only
    split
    · simp
    split
    · simp
    split
    · simp
    split
    · simp
    split
    · simp
    split <;> simp
theorem state_blank {l : List UInt8} (h : stateR l = 1) : l ≠ [] ∧ nextR l = nextR (l.drop 1) := by
  cases l with
  | nil => cases h
  | cons b r =>
    refine ⟨by simp, ?_⟩
    have hb : blankU b = true := by
      cases e : blankU b
      · simp only [stateR, e, Bool.false_eq_true, if_false] at h
        repeat (first | cases h | split at h)
      · rfl
    unfold nextR
    rw [skip_blank hb]
    rfl
theorem state_line {l : List UInt8} (h : stateR l = 2) : (lineD l).length < l.length ∧ nextR l = nextR (lineD l) := by
  cases l with
  | nil => cases h
  | cons b r =>
    have hb : b = 45 ∧ r.head? = some 45 := by
      by_cases e1 : blankU b = true
      · simp [stateR, e1] at h
      · by_cases e2 : b = 45 ∧ r.head? = some 45
        · exact e2
        · simp only [stateR, e1, e2, Bool.false_eq_true, if_false] at h
          repeat (first | cases h | split at h)
    obtain ⟨rfl, h2⟩ := hb
    obtain ⟨r', rfl⟩ : ∃ r', r = 45 :: r' := by
      cases r with
      | nil => cases h2
      | cons d r' => simp only [List.head?_cons, Option.some.injEq] at h2; exact ⟨r', by rw [h2]⟩
    have e : lineD (45 :: 45 :: r') = lineD r' := by simp [lineD]
    rw [e]
    refine ⟨?_, ?_⟩
    · have := (line_suffix r').length_le
      simp only [List.length_cons]
      omega
    · unfold nextR
      rw [skip_note, skip_line]
      rfl
/-- A token that begins neither with a blank nor with a comment. -/
theorem state_tok {l : List UInt8} (h : stateR l ≠ 1) (h2 : stateR l ≠ 2) : nextR l = oneR l := by
  unfold nextR
  cases l with
  | nil => rfl
  | cons b r =>
    have e1 : blankU b = false := by
      cases e : blankU b
      · rfl
      · simp [stateR, e] at h
    have e2 : ¬ (b = 45 ∧ r.head? = some 45) := by
      intro e2
      exact h2 (by simp only [stateR, e1, Bool.false_eq_true, if_false]; rw [if_pos e2])
    rw [skip_none e1 e2]
theorem state_more {b : UInt8} {r : List UInt8} (h : stateR (b :: r) ≠ 1) (h2 : stateR (b :: r) ≠ 2) : stateR (b :: r) = if letU b then 3 else if digU b then 4 else if b = 34 then 5 else if signR (b :: r) ≠ 0 then 6 else 0 := by
  have e1 : blankU b = false := by
    cases e : blankU b
    · rfl
    · simp [stateR, e] at h
  have e2 : ¬ (b = 45 ∧ r.head? = some 45) := by
    intro e2
    exact h2 (by simp only [stateR, e1, Bool.false_eq_true, if_false]; rw [if_pos e2])
  simp only [stateR, e1, e2, Bool.false_eq_true, if_false]
theorem one_word {l : List UInt8} (h : stateR l = 3) : ∃ b r, l = b :: r ∧ letU b = true ∧ nextR l = if (wordL l).length ≤ 32 then ⟨1, wordL l, l, l.drop (wordL l).length, 0⟩ else faultX l 51 := by
  cases l with
  | nil => cases h
  | cons b r =>
    have hm := state_more (b := b) (r := r) (by rw [h]; decide) (by rw [h]; decide)
    rw [h] at hm
    have hb : letU b = true := by
      cases e : letU b
      · rw [e] at hm
        simp only [Bool.false_eq_true, if_false] at hm
        repeat (first | cases hm | split at hm)
      · rfl
    refine ⟨b, r, rfl, hb, ?_⟩
    rw [state_tok (by rw [h]; decide) (by rw [h]; decide)]
    simp only [oneR, hb, if_true]
theorem one_number {l : List UInt8} (h : stateR l = 4) : ∃ b r, l = b :: r ∧ digU b = true ∧ nextR l = if numB (wordL l) then ⟨2, wordL l, l, l.drop (wordL l).length, 0⟩ else faultX l 51 := by
  cases l with
  | nil => cases h
  | cons b r =>
    have hm := state_more (b := b) (r := r) (by rw [h]; decide) (by rw [h]; decide)
    rw [h] at hm
    have hb : letU b = false ∧ digU b = true := by
      cases e : letU b
      · cases e2 : digU b
        · rw [e, e2] at hm
          simp only [Bool.false_eq_true, if_false] at hm
          repeat (first | cases hm | split at hm)
        · exact ⟨rfl, rfl⟩
      · rw [e] at hm
        cases hm
    refine ⟨b, r, rfl, hb.2, ?_⟩
    rw [state_tok (by rw [h]; decide) (by rw [h]; decide)]
    simp only [oneR, hb.1, hb.2, Bool.false_eq_true, if_false, if_true]
theorem one_string {l : List UInt8} (h : stateR l = 5) : ∃ r, l = 34 :: r ∧ nextR l = if (strR [] r).err = 0 then ⟨3, (strR [] r).bytes, l, (strR [] r).rest, 0⟩ else faultX (if (strR [] r).here then (strR [] r).rest else l) (strR [] r).err := by
  cases l with
  | nil => cases h
  | cons b r =>
    have hm := state_more (b := b) (r := r) (by rw [h]; decide) (by rw [h]; decide)
    rw [h] at hm
    have hb : b = 34 := by
      by_cases e : b = 34
      · exact e
      · rw [if_neg e] at hm
        repeat (first | cases hm | split at hm)
    subst hb
    refine ⟨r, rfl, ?_⟩
    rw [state_tok (by rw [h]; decide) (by rw [h]; decide)]
    simp only [oneR, show letU 34 = false from rfl, show digU 34 = false from rfl, Bool.false_eq_true, if_false, if_true]
theorem one_sign {l : List UInt8} (h : stateR l = 6) : ∃ b r, l = b :: r ∧ nextR l = ⟨4, l.take (signR l), l, l.drop (signR l), 0⟩ := by
  cases l with
  | nil => cases h
  | cons b r =>
    have hm := state_more (b := b) (r := r) (by rw [h]; decide) (by rw [h]; decide)
    rw [h] at hm
    refine ⟨b, r, rfl, ?_⟩
    rw [state_tok (by rw [h]; decide) (by rw [h]; decide)]
    unfold oneR
    simp only
    split
    · rename_i e; rw [if_pos e] at hm; cases hm
    rename_i e1
    rw [if_neg e1] at hm
    split
    · rename_i e; rw [if_pos e] at hm; cases hm
    rename_i e2
    rw [if_neg e2] at hm
    split
    · rename_i e; rw [if_pos e] at hm; cases hm
    rename_i e3
    rw [if_neg e3] at hm
    split
    · rfl
    · rename_i e4; rw [if_neg e4] at hm; cases hm
theorem one_end {l : List UInt8} (h : stateR l = 7) : l = [] ∧ nextR l = ⟨5, [], [], [], 0⟩ := by
  cases l with
  | nil => exact ⟨rfl, rfl⟩
  | cons b r =>
    have hm := state_more (b := b) (r := r) (by rw [h]; decide) (by rw [h]; decide)
    rw [h] at hm
    repeat (first | cases hm | split at hm)
theorem one_none {l : List UInt8} (h : stateR l = 0) : nextR l = faultX l 50 := by
  cases l with
  | nil => cases h
  | cons b r =>
    have hm := state_more (b := b) (r := r) (by rw [h]; decide) (by rw [h]; decide)
    rw [h] at hm
    rw [state_tok (by rw [h]; decide) (by rw [h]; decide)]
    unfold oneR
    simp only
    split
    · rename_i e; rw [if_pos e] at hm; cases hm
    rename_i e1
    rw [if_neg e1] at hm
    split
    · rename_i e; rw [if_pos e] at hm; cases hm
    rename_i e2
    rw [if_neg e2] at hm
    split
    · rename_i e; rw [if_pos e] at hm; cases hm
    rename_i e3
    rw [if_neg e3] at hm
    split
    · rename_i e4; rw [if_pos e4] at hm; cases hm
    · rfl
theorem Cells3.rd {rb b q : Nat} {w w' : World} {v0 v1 v2 : Value} (h : Cells3 w b v0 v1 v2) (ht : ReadTo rb w w' q) (hne : rb ≠ b) : Cells3 w' b v0 v1 v2 :=
  h.keep ((Below.block ht b h.lt).trans (Below.heap_setCell _ _ _ _ (fun e => hne e.symm)))
theorem strR_here : ∀ (n : Nat) (acc l : List UInt8), l.length ≤ n → (strR acc l).err = 0 → (strR acc l).here = true := by
  intro n
  induction n with
  | zero =>
    intro acc l hl h
    obtain rfl : l = [] := List.eq_nil_of_length_eq_zero (by omega)
    rw [strR_nil] at h
    cases h
  | succ n ih =>
    intro acc l hl h
    cases l with
    | nil => rw [strR_nil] at h; cases h
    | cons b r =>
      by_cases h1 : b = 34
      · subst h1; rw [strR_end]
      by_cases h2 : (charR (b :: r)).2.2 = 52
      · rw [strR_open h1 h2] at h; cases h
      by_cases h3 : (charR (b :: r)).2.2 = 0
      · by_cases h4 : acc.length = 256
        · rw [strR_long h1 h3 h4] at h; cases h
        · rw [strR_more h1 h3 h4] at h ⊢
          have := char_size h3
          refine ih _ _ ?_ h
          rw [List.length_drop]
          simp only [List.length_cons] at hl this ⊢
          omega
      · rw [strR_bad h1 h2 h3]
theorem sign_le (l : List UInt8) : signR l ≤ l.length ∧ signR l ≤ 2 := by
  cases l with
  | nil => exact ⟨Nat.le_refl _, by decide⟩
  | cons b r =>
    rw [sign_eq]
    cases r with
    | nil => simp only [List.head?_nil, List.length_cons, List.length_nil]; repeat (first | (constructor <;> decide) | split); all_goals simp_all
    | cons d r => simp only [List.length_cons]; repeat (first | omega | split)
theorem wordL_wordL : ∀ l : List UInt8, wordL (wordL l) = wordL l
  | [] => rfl
  | b :: r => by
    have ih := wordL_wordL r
    unfold wordL at ih ⊢
    rw [List.takeWhile_cons]
    cases h : wordByte b
    · rfl
    · simp only [if_true]
      rw [List.takeWhile_cons, h]
      simp only [if_true]
      rw [ih]
theorem word_len (l : List UInt8) : (wordL l).length ≤ l.length := (List.takeWhile_prefix wordByte (l := l)).length_le
theorem let_dig {b : UInt8} (h : letU b = true) : digU b = false := by
  unfold letU lttrI at h
  unfold digU digI
  rw [Bool.and_eq_false_iff, decide_eq_false_iff_not, decide_eq_false_iff_not]
  simp only [Bool.or_eq_true, Bool.and_eq_true, decide_eq_true_eq, beq_iff_eq] at h
  omega
theorem wordT_word {l r : List UInt8} {b : UInt8} (hl : l = b :: r) (hb : letU b = true) : wordTB (wordL l) = decide ((wordL l).length ≤ 32) := by
  have e : wordL l = b :: r.takeWhile wordByte := by
    rw [hl]
    unfold wordL
    have : wordByte b = true := by unfold wordByte; rw [Bool.or_eq_true]; exact Or.inr hb
    rw [List.takeWhile_cons, this]
    rfl
  rw [wordTB_cons e, wordL_wordL]
  have h1 : digI (b.toNat : Int) = false := let_dig hb
  rw [h1]
  simp
theorem front_cut (t : ByteArray) (q n : Nat) : ((t.extract q t.size).extract 0 n).data.toList = (restB t q).take n := by
  rw [ByteArray.data_extract, Array.toList_extract, rest_extract]
  simp [List.extract]
theorem front_size (t : ByteArray) (q n : Nat) (hn : n ≤ (restB t q).length) : ((t.extract q t.size).extract 0 n).size = n := by
  have h := congrArg List.length (front_cut t q n)
  rw [List.length_take] at h
  have e : ((t.extract q t.size).extract 0 n).data.toList.length = ((t.extract q t.size).extract 0 n).size := rfl
  omega
theorem word_take (l : List UInt8) : l.take (wordL l).length = wordL l := by
  unfold wordL
  have h := List.take_left (l₁ := l.takeWhile wordByte) (l₂ := l.dropWhile wordByte)
  rwa [List.takeWhile_append_dropWhile] at h
theorem nextV_ok {n q : Nat} {k : Int} {x st r : List UInt8} {s : ByteArray} (hs : s.data.toList = x) (hq : n - st.length = q) : Ending.returned (.tuple #[.agg #[.int .i64 k, .string s, .int .i64 (q : Int)], .int .i64 0]) = .returned (nextV n ⟨k, x, st, r, 0⟩) := by
  unfold nextV
  simp only [if_true]
  rw [hq, ← hs]
  rfl
theorem nextV_no {n : Nat} {l : List UInt8} {e : Int} (he : ¬ e = 0) : Ending.returned (.tuple #[.agg #[.int .i64 0, .string ⟨#[]⟩, .int .i64 0], .int .i64 e]) = .returned (nextV n (faultX l e)) := by
  unfold nextV faultX
  simp only [if_neg he]
  rfl
theorem nextAt_ok {n : Nat} {k : Int} {x st r : List UInt8} : nextAt n ⟨k, x, st, r, 0⟩ = n - r.length := rfl
theorem nextAt_no {n : Nat} {l : List UInt8} {e : Int} (he : ¬ e = 0) : nextAt n (faultX l e) = n - l.length := by
  unfold nextAt faultX
  simp only [if_neg he]
theorem quotedV_ok {q : Nat} {X : StrX} (h : X.err = 0) : quotV q X = .tuple #[.agg #[.int .i64 3, .string ⟨X.bytes.toArray⟩, .int .i64 (q : Int)], .int .i64 0] := by
  unfold quotV
  rw [if_pos h, h]
  rfl
theorem quotedV_no {q : Nat} {X : StrX} (h : ¬ X.err = 0) : quotV q X = .tuple #[.agg #[.int .i64 0, .string ⟨#[]⟩, .int .i64 0], .int .i64 X.err] := by
  unfold quotV
  rw [if_neg h]
  rfl
theorem var_same {P : Program} {w w' : World} {name : String} {g : Nat} {cs : Array Value} (hg : P.globalNamed name = some g) (hh : w'.heap[g]? = w.heap[g]?) (h : w.var? P name = some cs) : w'.var? P name = some cs := by
  simp only [World.var?, hg, Option.bind_some, hh] at h ⊢
  exact h
/-- The block is none of those in which the library's numbers and errors lie. -/
def Far (rb : Nat) : Prop := rb ≠ 2 ∧ rb ≠ 3 ∧ rb ≠ 4
theorem Tabs.far {w : World} (h : Tabs w) {rb : Nat} (hrb : w.heap.size ≤ rb) : Far rb := by
  obtain ⟨tp, p, h1⟩ := h.syn
  obtain ⟨tq, q, h2⟩ := h.ran
  have a := var_lt gPow h.pow
  have b := var_lt gSyn h1
  have c := var_lt gRan h2
  exact ⟨by omega, by omega, by omega⟩
theorem tabs_set {w : World} {rb : Nat} (h : Tabs w) (hf : Far rb) (o : Nat) (x : Value) : Tabs (w.setCell ⟨rb, o, none⟩ x) := by
  obtain ⟨tp, p, h1⟩ := h.syn
  obtain ⟨tq, q, h2⟩ := h.ran
  exact ⟨var_same gPow (Below.heap_setCell _ _ _ _ (fun e => hf.1 e.symm)) h.pow, ⟨tp, p, var_same gSyn (Below.heap_setCell _ _ _ _ (fun e => hf.2.1 e.symm)) h1⟩, ⟨tq, q, var_same gRan (Below.heap_setCell _ _ _ _ (fun e => hf.2.2 e.symm)) h2⟩⟩
theorem tabs_to {w w' : World} {rb q : Nat} (hT : Tabs w) (hf : Far rb) (h : ReadTo rb w w' q) : Tabs w' :=
  (tabs_set hT hf 1 _).below (by rw [size_set]; exact h)
end Go.Proofs.YtaipljdpkgdheaaDoor
