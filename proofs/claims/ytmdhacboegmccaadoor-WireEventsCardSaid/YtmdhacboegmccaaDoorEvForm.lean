/- Values and events as bytes: plain functions and facts. No program is named here. -/
import Derived.Test.YtmdhacboegmccaaDoorSpec
import Derived.Test.YtmdhacboegmccaaDoorCodec
import Derived.Laws.Strings
namespace Go.Proofs.YtmdhacboegmccaaDoor
open Go

/-- A value: its kind, number, text, truth value. -/
structure Val where
  kind : Int
  int : Int
  str : ByteArray
  bool : Bool
def zeroVal : Val := ⟨0, 0, ⟨#[]⟩, false⟩
/-- May the value be? -/
def validB (a : Val) : Bool :=
  if a.kind = 1 then (a.str.toList == []) && !a.bool
  else if a.kind = 2 then (a.int == 0) && !a.bool && decide (a.str.size ≤ 256)
  else if a.kind = 3 then (a.int == 0) && (a.str.toList == [])
  else false
/-- May it be, its number being one of 64 bits? -/
def valOk (a : Val) : Prop := validB a = true ∧ -9223372036854775808 ≤ a.int ∧ a.int ≤ 9223372036854775807
/-- A value's form behind its kind. -/
def valTail (a : Val) : List UInt8 := if a.kind = 1 then putB a.int else if a.kind = 2 then textE a.str else if a.bool then [1] else [0]
def valE (a : Val) : List UInt8 := UInt8.ofNat a.kind.toNat :: valTail a

theorem str_nil {s : ByteArray} (h : (s.toList == []) = true) : s = ⟨#[]⟩ := by
  have h : s.toList = [] := by simpa using h
  rw [ByteArray.toList_eq] at h
  obtain ⟨⟨l⟩⟩ := s
  simp at h
  rw [h]

/-- What stands behind a kind. -/
def tailR (k : Nat) (r : Rd) : Val × Rd :=
  if k = 1 then mapped (numberR (-9223372036854775808) 9223372036854775807) (fun n => (⟨1, n, ⟨#[]⟩, false⟩ : Val)) r
  else if k = 2 then mapped (textR 0 256) (fun s => (⟨2, 0, s, false⟩ : Val)) r
  else if k = 3 then mapped (singleR 0 1) (fun n => (⟨3, 0, ⟨#[]⟩, n == 1⟩ : Val)) r
  else (⟨k, 0, ⟨#[]⟩, false⟩, r)
theorem tail_codec (k : Nat) (h : 1 ≤ k ∧ k ≤ 3) : Codec (tailR k) (fun a => a.kind = k ∧ valOk a) valTail := by
  have h' : k = 1 ∨ k = 2 ∨ k = 3 := by omega
  rcases h' with rfl | rfl | rfl
  · have e : tailR 1 = mapped (numberR (-9223372036854775808) 9223372036854775807) (fun n => (⟨1, n, ⟨#[]⟩, false⟩ : Val)) := by funext r; rfl
    rw [e]
    refine (number_codec _ _ (by omega) (by omega)).mapped _ (fun a => a.int) _ _ ?_ ?_
    · intro n hn
      exact ⟨⟨rfl, by simp [validB], hn.1, hn.2⟩, rfl⟩
    · rintro ⟨k, n, s, b⟩ ⟨h1, h2, h3, h4⟩
      simp only at h1 h2 h3 h4
      subst h1
      have hb : (s.toList == []) = true ∧ b = false := by simpa [validB] using h2
      exact ⟨⟨h3, h4⟩, by simp only [str_nil hb.1, hb.2]; rfl⟩
  · have e : tailR 2 = mapped (textR 0 256) (fun s => (⟨2, 0, s, false⟩ : Val)) := by funext r; rfl
    rw [e]
    refine (text_codec _ _ (by omega) (by omega)).mapped _ (fun a => a.str) _ _ ?_ ?_
    · intro s hs
      exact ⟨⟨rfl, by simp [validB]; omega, by simp, by simp⟩, rfl⟩
    · rintro ⟨k, n, s, b⟩ ⟨h1, h2, h3, h4⟩
      simp only at h1 h2 h3 h4
      subst h1
      have hb : (n = 0 ∧ b = false) ∧ s.size ≤ 256 := by simpa [validB] using h2
      exact ⟨by simp only; omega, by simp only [hb.1.1, hb.1.2]; rfl⟩
  · have e : tailR 3 = mapped (singleR 0 1) (fun n => (⟨3, 0, ⟨#[]⟩, n == 1⟩ : Val)) := by funext r; rfl
    rw [e]
    refine (single_codec _ _ (by omega)).mapped _ (fun a => if a.bool then 1 else 0) _ _ ?_ ?_
    · intro n hn
      have h' : n = 0 ∨ n = 1 := by omega
      rcases h' with rfl | rfl
      · exact ⟨⟨rfl, by simp [validB], by simp, by simp⟩, rfl⟩
      · exact ⟨⟨rfl, by simp [validB], by simp, by simp⟩, rfl⟩
    · rintro ⟨k, n, s, b⟩ ⟨h1, h2, h3, h4⟩
      simp only at h1 h2 h3 h4
      subst h1
      have hb : n = 0 ∧ (s.toList == []) = true := by simpa [validB] using h2
      refine ⟨by cases b <;> simp, ?_⟩
      simp only [str_nil hb.2, hb.1]
      cases b <;> rfl
theorem tail_ill (k : Nat) (e : Int) (he : e ≠ 0) : (tailR k ⟨[], e⟩).2 = ⟨[], e⟩ := by
  unfold tailR
  split
  · exact (number_codec (-9223372036854775808) 9223372036854775807 (by omega) (by omega)).ill e he
  · split
    · exact (text_codec 0 256 (by omega) (by omega)).ill e he
    · split
      · exact (single_codec 0 1 (by omega)).ill e he
      · rfl

/-- A value. -/
def valueR : Rd → Val × Rd := mapped (andThen (singleR 1 3) tailR) (fun p => p.2)
theorem value_codec : Codec valueR valOk valE := by
  refine ((single_codec 1 3 (by omega)).andThen (fun k hk => tail_codec k hk) tail_ill).mapped _ (fun a => (a.kind.toNat, a)) _ _ ?_ ?_
  · rintro ⟨k, a⟩ ⟨h1, h2, h3⟩
    simp only at h1 h2 h3
    refine ⟨h3, ?_⟩
    simp only [valE, h2]
    rfl
  · rintro ⟨k, n, s, b⟩ h
    have hk : k = 1 ∨ k = 2 ∨ k = 3 := by
      have := h.1
      unfold validB at this
      simp only at this
      split at this
      · exact Or.inl ‹_›
      · split at this
        · exact Or.inr (Or.inl ‹_›)
        · split at this
          · exact Or.inr (Or.inr ‹_›)
          · simp at this
    exact ⟨⟨by simp only; omega, by simp only; omega, h⟩, rfl⟩

/-- One behind the other. -/
def timesR {α : Type} (f : Rd → α × Rd) : Nat → Rd → List α × Rd
  | 0, r => ([], r)
  | n + 1, r => ((f r).1 :: (timesR f n (f r).2).1, (timesR f n (f r).2).2)
theorem times_ill {α : Type} {f : Rd → α × Rd} {ok : α → Prop} {enc : α → List UInt8} (hf : Codec f ok enc) : ∀ (n : Nat) (e : Int), e ≠ 0 → (timesR f n ⟨[], e⟩).2 = ⟨[], e⟩
  | 0, e, _ => rfl
  | n + 1, e, he => by
    show (timesR f n (f ⟨[], e⟩).2).2 = _
    rw [hf.ill e he]
    exact times_ill hf n e he
theorem times_codec {α : Type} {f : Rd → α × Rd} {ok : α → Prop} {enc : α → List UInt8} (hf : Codec f ok enc) : ∀ n : Nat, Codec (timesR f n) (fun l => l.length = n ∧ ∀ a ∈ l, ok a) (fun l => l.flatMap enc)
  | 0 => {
      there := by
        rintro l r ⟨h, _⟩
        obtain rfl := List.eq_nil_of_length_eq_zero h
        rfl
      back := fun b _ => ⟨⟨rfl, fun a ha => by cases ha⟩, rfl⟩
      short := by
        rintro l j ⟨h, _⟩ hj
        obtain rfl := List.eq_nil_of_length_eq_zero h
        simp at hj
      ill := fun e _ => rfl
      shape := fun b h => absurd rfl h }
  | n + 1 => by
      have h := hf.andThen (fun _ _ => times_codec hf n) (fun _ e he => times_ill hf n e he)
      have e : timesR f (n + 1) = mapped (andThen f (fun _ => timesR f n)) (fun p => p.1 :: p.2) := by funext r; rfl
      rw [e]
      cases n with
      | zero =>
        refine ⟨?_, ?_, ?_, ?_, ?_⟩
        · rintro l r ⟨h1, h2⟩
          match l, h1 with
          | [a], _ =>
            have := h.there (a, []) r ⟨h2 a (by simp), rfl, fun a ha => by cases ha⟩
            simp only [List.flatMap_cons, List.flatMap_nil, List.append_nil] at this ⊢
            simp only [Proofs.YtmdhacboegmccaaDoor.mapped, this]
        · intro b hb
          obtain ⟨⟨h1, h2, h3⟩, h4⟩ := h.back b hb
          refine ⟨⟨by simp only [Proofs.YtmdhacboegmccaaDoor.mapped, List.length_cons, h2], ?_⟩, ?_⟩
          · intro a ha
            simp only [Proofs.YtmdhacboegmccaaDoor.mapped, List.mem_cons] at ha
            rcases ha with rfl | ha
            · exact h1
            · exact h3 a ha
          · simp only [Proofs.YtmdhacboegmccaaDoor.mapped, List.flatMap_cons]
            exact h4
        · rintro l j ⟨h1, h2⟩ hj
          match l, h1 with
          | [a], _ =>
            have := h.short (a, []) j ⟨h2 a (by simp), rfl, fun a ha => by cases ha⟩ (by simpa using hj)
            simpa [Proofs.YtmdhacboegmccaaDoor.mapped] using this
        · exact fun e he => h.ill e he
        · exact fun b hb => h.shape b hb
      | succ m =>
        refine ⟨?_, ?_, ?_, ?_, ?_⟩
        · rintro l r ⟨h1, h2⟩
          match l, h1 with
          | a :: t, h1 =>
            have := h.there (a, t) r ⟨h2 a (by simp), by simpa using h1, fun x hx => h2 x (by simp [hx])⟩
            simp only [List.flatMap_cons] at this ⊢
            simp only [Proofs.YtmdhacboegmccaaDoor.mapped, this]
        · intro b hb
          obtain ⟨⟨h1, h2, h3⟩, h4⟩ := h.back b hb
          refine ⟨⟨by simp only [Proofs.YtmdhacboegmccaaDoor.mapped, List.length_cons, h2], ?_⟩, ?_⟩
          · intro a ha
            simp only [Proofs.YtmdhacboegmccaaDoor.mapped, List.mem_cons] at ha
            rcases ha with rfl | ha
            · exact h1
            · exact h3 a ha
          · simp only [Proofs.YtmdhacboegmccaaDoor.mapped, List.flatMap_cons]
            exact h4
        · rintro l j ⟨h1, h2⟩ hj
          match l, h1 with
          | a :: t, h1 =>
            have := h.short (a, t) j ⟨h2 a (by simp), by simpa using h1, fun x hx => h2 x (by simp [hx])⟩ (by simpa using hj)
            simpa [Proofs.YtmdhacboegmccaaDoor.mapped] using this
        · exact fun e he => h.ill e he
        · exact fun b hb => h.shape b hb

/-- A look at what was read. -/
def lookR (ok : Bool) (r : Rd) : Unit × Rd := ((), if ok then r else r.refuse 31)
theorem look_codec (ok : Bool) : Codec (lookR ok) (fun _ => ok = true) (fun _ => []) where
  there := by intro _ r h; simp [lookR, h]
  back := by
    intro b h
    unfold lookR at h ⊢
    cases ok
    · simp [refuse_ok] at h
    · exact ⟨rfl, rfl⟩
  short := by intro _ j _ hj; simp at hj
  ill := by intro e he; cases ok <;> simp [lookR, refuse_ill he]
  shape := by
    intro b h
    unfold lookR at h ⊢
    cases ok
    · simp [refuse_ok]
    · exact absurd rfl h
theorem look_ill (ok : Bool) (e : Int) (he : e ≠ 0) : (lookR ok ⟨[], e⟩).2 = ⟨[], e⟩ := (look_codec ok).ill e he

/-- An event. -/
structure Ev where
  ty : ByteArray
  time : Int
  vals : List Val
def zeroEv : Ev := ⟨⟨#[]⟩, 0, []⟩
def evOk (e : Ev) : Prop := nameB e.ty = true ∧ (0 ≤ e.time ∧ e.time ≤ 4611686018427387904) ∧ e.vals.length ≤ 16 ∧ ∀ v ∈ e.vals, valOk v
def evE (e : Ev) : List UInt8 := textE e.ty ++ (putB e.time ++ (putB e.vals.length ++ e.vals.flatMap valE))
def eventR : Rd → Ev × Rd :=
  mapped (andThen (textR 1 32) fun s => andThen (lookR (nameB s)) fun _ => andThen (numberR 0 4611686018427387904) fun _ => andThen (numberR 0 16) fun n => timesR valueR n.toNat) (fun p => ⟨p.1, p.2.2.1, p.2.2.2.2⟩)
theorem name_size {s : ByteArray} (h : nameB s = true) : 1 ≤ s.size ∧ s.size ≤ 32 := by
  unfold nameB isWordB at h
  simp only [Bool.and_eq_true, decide_eq_true_eq] at h
  exact ⟨h.1.1.2.1, h.1.1.1⟩
theorem andThen_ill {α β : Type} {f : Rd → α × Rd} {g : α → Rd → β × Rd} (hf : ∀ e, e ≠ 0 → (f ⟨[], e⟩).2 = ⟨[], e⟩) (hg : ∀ a e, e ≠ 0 → (g a ⟨[], e⟩).2 = ⟨[], e⟩) (e : Int) (he : e ≠ 0) : (andThen f g ⟨[], e⟩).2 = ⟨[], e⟩ := by
  show (g (f ⟨[], e⟩).1 (f ⟨[], e⟩).2).2 = _
  rw [hf e he]
  exact hg _ e he
theorem event_codec : Codec eventR evOk evE := by
  have hv := fun n : Int => times_codec value_codec n.toNat
  have hvi := fun (n : Int) => times_ill value_codec n.toNat
  have hn16 := number_codec 0 16 (by omega) (by omega)
  have hnt := number_codec 0 4611686018427387904 (by omega) (by omega)
  have h3 := hn16.andThen (fun n _ => hv n) hvi
  have i3 := andThen_ill hn16.ill hvi
  have h2 := hnt.andThen (fun _ _ => h3) (fun _ => i3)
  have i2 := andThen_ill hnt.ill (fun _ : Int => i3)
  have h1 := fun s : ByteArray => (look_codec (nameB s)).andThen (fun _ _ => h2) (fun _ => i2)
  have i1 := fun s : ByteArray => andThen_ill (look_ill (nameB s)) (fun _ : Unit => i2)
  have h0 := (text_codec 1 32 (by omega) (by omega)).andThen (fun s _ => h1 s) i1
  refine h0.mapped _ (fun e => (e.ty, (), e.time, (e.vals.length : Int), e.vals)) _ _ ?_ ?_
  · rintro ⟨s, u, t, n, l⟩ ⟨h1, h2, h3, h4, h5, h6⟩
    simp only at h1 h2 h3 h4 h5 h6
    have e : (l.length : Int) = n := by omega
    refine ⟨⟨h2, h3, by simp only; omega, h6⟩, ?_⟩
    simp only [evE, e]
    rfl
  · rintro ⟨s, t, l⟩ ⟨h1, h2, h3, h4⟩
    simp only at h1 h2 h3 h4
    have := name_size h1
    exact ⟨⟨by simp only; omega, h1, h2, by simp only; omega, by simp, h4⟩, rfl⟩

/-- A batch ahead of its sum. -/
def batchR : Rd → List Ev × Rd := mapped (andThen (numberR 0 1024) fun n => timesR eventR n.toNat) (fun p => p.2)
def batchE (l : List Ev) : List UInt8 := putB l.length ++ l.flatMap evE
theorem batch_codec : Codec batchR (fun l => l.length ≤ 1024 ∧ ∀ e ∈ l, evOk e) batchE := by
  refine ((number_codec 0 1024 (by omega) (by omega)).andThen (fun n _ => times_codec event_codec n.toNat) (fun n => times_ill event_codec n.toNat)).mapped _ (fun l => ((l.length : Int), l)) _ _ ?_ ?_
  · rintro ⟨n, l⟩ ⟨h1, h2, h3⟩
    simp only at h1 h2 h3
    have e : (l.length : Int) = n := by omega
    exact ⟨⟨by simp only; omega, h3⟩, by simp only [batchE, e]⟩
  · rintro l ⟨h1, h2⟩
    exact ⟨⟨by simp only; omega, by simp, h2⟩, rfl⟩
end Go.Proofs.YtmdhacboegmccaaDoor
