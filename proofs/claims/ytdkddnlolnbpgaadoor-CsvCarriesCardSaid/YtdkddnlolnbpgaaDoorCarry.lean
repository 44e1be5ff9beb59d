/- How a value of a kind stands in a cell: the pure words; what the forms' functions answer. -/
import Derived.Test.YtdkddnlolnbpgaaDoorForm
namespace Go.Proofs.YtdkddnlolnbpgaaDoor
open Go Go.RowKit

/-- A value's cell. -/
def cellB (v : Val) : ByteArray := if v.kind = 1 then numS v.int else if v.kind = 3 then boolS v.bool else v.str
theorem cellB_num (n : Int) : cellB (numV n) = numS n := rfl
theorem cellB_bool (b : Bool) : cellB (boolV b) = boolS b := rfl
theorem cellB_str (s : ByteArray) : cellB (strV s) = s := rfl
def KindOk (k : Int) : Prop := k = 1 ∨ k = 2 ∨ k = 3
theorem str_none {s : ByteArray} (h : (s.toList == []) = true) : s = ⟨#[]⟩ := bytes_same (by rw [beq_iff_eq.1 h, ByteArray.toList_eq]; rfl)
theorem val_forms {v : Val} (h : validB v = true) : (v.kind = 1 ∧ v = numV v.int) ∨ (v.kind = 2 ∧ v = strV v.str ∧ v.str.size ≤ 256) ∨ (v.kind = 3 ∧ v = boolV v.bool) := by
  obtain ⟨k, n, s, b⟩ := v
  simp only [validB] at h
  by_cases h1 : k = 1
  · subst h1
    simp only [if_pos, Bool.and_eq_true, Bool.not_eq_true'] at h
    refine Or.inl ⟨rfl, ?_⟩
    rw [str_none h.1, h.2]
    rfl
  · rw [if_neg h1] at h
    by_cases h2 : k = 2
    · subst h2
      simp only [if_pos, Bool.and_eq_true, Bool.not_eq_true', decide_eq_true_eq, beq_iff_eq] at h
      refine Or.inr (Or.inl ⟨rfl, ?_, h.2⟩)
      rw [h.1.1, h.1.2]
      rfl
    · rw [if_neg h2] at h
      by_cases h3 : k = 3
      · subst h3
        simp only [if_pos, Bool.and_eq_true, beq_iff_eq] at h
        refine Or.inr (Or.inr ⟨rfl, ?_⟩)
        rw [h.1, str_none (s := s) (by rw [h.2]; rfl)]
        rfl
      · rw [if_neg h3] at h
        cases h
theorem val_kind {v : Val} (h : validB v = true) : KindOk v.kind := by
  rcases val_forms h with ⟨h, _⟩ | ⟨h, _⟩ | ⟨h, _⟩
  · exact Or.inl h
  · exact Or.inr (Or.inl h)
  · exact Or.inr (Or.inr h)
theorem boolS_size (b : Bool) : (boolS b).size ≤ 5 := by cases b <;> decide
theorem cellB_size {v : Val} (h : validB v = true) (h0 : -9223372036854775808 ≤ v.int) (h1 : v.int ≤ 9223372036854775807) : (cellB v).size ≤ 256 := by
  rcases val_forms h with ⟨_, h2⟩ | ⟨_, h2, h3⟩ | ⟨_, h2⟩
  · rw [h2, cellB_num]
    have := num_size v.int h0 h1
    omega
  · rw [h2, cellB_str]
    exact h3
  · rw [h2, cellB_bool]
    have := boolS_size v.bool
    omega
/-- What a cell is read as, by a kind. -/
def ReadK (k : Int) (s : ByteArray) (R : Val) : Prop := (k = 2 ∧ ((s.size ≤ 256 ∧ R = strV s) ∨ (256 < s.size ∧ R = zeroV))) ∨ (k ≠ 2 ∧ ∃ eR, ReadAs s R eR)
theorem readK_kind {k : Int} {s : ByteArray} {R : Val} (h : ReadK k s R) (hk : R.kind = k) (ho : KindOk k) : validB R = true ∧ cellB R = s ∧ -9223372036854775808 ≤ R.int ∧ R.int ≤ 9223372036854775807 := by
  rcases h with ⟨rfl, ⟨h1, rfl⟩ | ⟨_, rfl⟩⟩ | ⟨h2, eR, h⟩
  · exact ⟨by simp [validB, strV, h1], rfl, by simp [strV], by simp [strV]⟩
  · cases hk
  · rcases h with ⟨_, rfl⟩ | ⟨_, ⟨n, h3, h4, rfl, rfl⟩ | ⟨b, rfl, rfl⟩ | ⟨q, _, rfl⟩⟩
    · have h5 : (0 : Int) = k := hk
      subst h5
      rcases ho with h | h | h <;> cases h
    · exact ⟨by simp [validB, numV], rfl, h3, h4⟩
    · exact ⟨by simp [validB, boolV], rfl, by simp [boolV], by simp [boolV]⟩
    · exact absurd hk.symm h2
/-- What a reader of a cell answers. -/
def ReadBy (P : Val → Prop) (w : World) (e : Ending) (w' : World) : Prop := (∃ R : Val, e = .returned R.v ∧ P R) ∧ Below w.heap.size w w'
theorem readBytes_any (s : ByteArray) (w : World) (hm : s.size ≤ 140737488355328) : Calls Tryd.prog 22 #[.string s] w (ReadBy (ReadK 2 s) w) := by
  by_cases h : s.size ≤ 256
  · exact (readBytes_yes s w h).mono fun e w' ⟨k1, k2⟩ => ⟨⟨_, k1, Or.inl ⟨rfl, Or.inl ⟨h, rfl⟩⟩⟩, k2⟩
  · exact (readBytes_no s w (by omega) (by omega)).mono fun e w' ⟨k1, k2⟩ => ⟨⟨_, k1, Or.inl ⟨rfl, Or.inr ⟨by omega, rfl⟩⟩⟩, k2⟩
theorem readShown_k (k : Int) (hk : k ≠ 2) (s : ByteArray) (w : World) (ht : Tabs w) (hm : s.size ≤ 140737488355328) : Calls Tryd.prog 21 #[.string s] w (ReadBy (ReadK k s) w) :=
  (readShown_any s w ht hm).mono fun _ _ ⟨⟨R, eR, k1, k2⟩, k3⟩ => ⟨⟨R, k1, Or.inr ⟨hk, eR, k2⟩⟩, k3⟩
theorem readExact (v : Val) (w : World) (ht : Tabs w) (hv : validB v = true) (h0 : -9223372036854775808 ≤ v.int) (h1 : v.int ≤ 9223372036854775807) :
    (v.kind = 2 → Calls Tryd.prog 22 #[.string (cellB v)] w (ReadBy (fun R => R = v) w)) ∧ (v.kind ≠ 2 → Calls Tryd.prog 21 #[.string (cellB v)] w (ReadBy (fun R => R = v) w)) := by
  rcases val_forms hv with ⟨hk, h2⟩ | ⟨hk, h2, h3⟩ | ⟨hk, h2⟩
  · refine ⟨(fun h => by rw [hk] at h; cases h), fun _ => ?_⟩
    rw [h2, cellB_num]
    exact (readShown_num v.int w ht h0 h1).mono fun _ _ ⟨k1, k2⟩ => ⟨⟨_, k1, rfl⟩, k2⟩
  · refine ⟨fun _ => ?_, fun h => absurd hk h⟩
    rw [h2, cellB_str]
    exact (readBytes_yes v.str w h3).mono fun _ _ ⟨k1, k2⟩ => ⟨⟨_, k1, rfl⟩, k2⟩
  · refine ⟨(fun h => by rw [hk] at h; cases h), fun _ => ?_⟩
    rw [h2, cellB_bool]
    exact (readShown_bool v.bool w ht).mono fun _ _ ⟨k1, k2⟩ => ⟨⟨_, k1, rfl⟩, k2⟩
theorem writeExact (v : Val) (w : World) (ht : Tabs w) (hv : validB v = true) (h0 : -9223372036854775808 ≤ v.int) (h1 : v.int ≤ 9223372036854775807) :
    (v.kind = 2 → Calls Tryd.prog 23 #[v.v] w fun e w' => e = .returned (.string (cellB v)) ∧ Below w.heap.size w w') ∧ (v.kind ≠ 2 → Calls Tryd.prog 13 #[v.v] w fun e w' => e = .returned (.string (cellB v)) ∧ Below w.heap.size w w') := by
  rcases val_forms hv with ⟨hk, h2⟩ | ⟨hk, h2, h3⟩ | ⟨hk, h2⟩
  · refine ⟨(fun h => by rw [hk] at h; cases h), fun _ => ?_⟩
    rw [h2, cellB_num]
    exact csvShow_int v.int w ht h0 h1
  · refine ⟨fun _ => ?_, fun h => absurd hk h⟩
    rw [h2, cellB_str]
    exact bytesOf_any v.str w (by omega)
  · refine ⟨(fun h => by rw [hk] at h; cases h), fun _ => ?_⟩
    rw [h2, cellB_bool]
    exact csvShow_bool v.bool w
/-- A cell is a value of a kind. -/
def ParseK (k : Int) (s : ByteArray) (v : Val) : Prop := validB v = true ∧ v.kind = k ∧ cellB v = s ∧ -9223372036854775808 ≤ v.int ∧ v.int ≤ 9223372036854775807
/-- What a reader of a kind answers. -/
def ReadP (k : Int) (s : ByteArray) (R : Val) : Prop := ParseK k s R ∨ ((¬ ∃ v, ParseK k s v) ∧ R.kind ≠ k)
theorem readP_of {k : Int} {s : ByteArray} {R : Val} (hk : KindOk k) (h : ReadK k s R) (hn : ¬ ∃ v, ParseK k s v) : ReadP k s R := by
  refine Or.inr ⟨hn, fun e => hn ⟨R, ?_⟩⟩
  obtain ⟨h1, h2, h3, h4⟩ := readK_kind h e hk
  exact ⟨h1, e, h2, h3, h4⟩
theorem readP_two (s : ByteArray) (w : World) (ht : Tabs w) (hm : s.size ≤ 140737488355328) : Calls Tryd.prog 22 #[.string s] w (ReadBy (ReadP 2 s) w) := by
  by_cases h : ∃ v, ParseK 2 s v
  · obtain ⟨v, h1, h2, h3, h4, h5⟩ := h
    have := (readExact v w ht h1 h4 h5).1 h2
    rw [h3] at this
    exact this.mono fun _ _ ⟨⟨R, k1, k2⟩, k3⟩ => ⟨⟨R, k1, by rw [k2]; exact Or.inl ⟨h1, h2, h3, h4, h5⟩⟩, k3⟩
  · exact (readBytes_any s w hm).mono fun e w' ⟨⟨R, k1, k2⟩, k3⟩ => ⟨⟨R, k1, readP_of (Or.inr (Or.inl rfl)) k2 h⟩, k3⟩
theorem readP_shown (k : Int) (hk : k = 1 ∨ k = 3) (s : ByteArray) (w : World) (ht : Tabs w) (hm : s.size ≤ 140737488355328) : Calls Tryd.prog 21 #[.string s] w (ReadBy (ReadP k s) w) := by
  have hk2 : k ≠ 2 := by omega
  by_cases h : ∃ v, ParseK k s v
  · obtain ⟨v, h1, h2, h3, h4, h5⟩ := h
    have := (readExact v w ht h1 h4 h5).2 (by rw [h2]; exact hk2)
    rw [h3] at this
    exact this.mono fun _ _ ⟨⟨R, k1, k2⟩, k3⟩ => ⟨⟨R, k1, by rw [k2]; exact Or.inl ⟨h1, h2, h3, h4, h5⟩⟩, k3⟩
  · exact (readShown_k k hk2 s w ht hm).mono fun e w' ⟨⟨R, k1, k2⟩, k3⟩ => ⟨⟨R, k1, readP_of (hk.imp id Or.inr) k2 h⟩, k3⟩
/-- Values, attributes, in memory. -/
def ValsIn (B : Nat) (w : World) (ao : Option Addr) (l : List Val) : Prop :=
  l = [] ∨ ∃ b o, ao = some ⟨b, o, none⟩ ∧ b < B ∧ ∀ i (h : i < l.length), w.cell? ⟨b, o + i * 4, none⟩ = some (.int .i64 l[i].kind) ∧ w.cell? ⟨b, o + i * 4 + 1, none⟩ = some (.int .i64 l[i].int) ∧ w.cell? ⟨b, o + i * 4 + 2, none⟩ = some (.string l[i].str) ∧ w.cell? ⟨b, o + i * 4 + 3, none⟩ = some (.bool l[i].bool)
structure AttrX where
  name : ByteArray
  kind : Int
def AttrsIn (B : Nat) (w : World) (ao : Option Addr) (l : List AttrX) : Prop :=
  l = [] ∨ ∃ b o, ao = some ⟨b, o, none⟩ ∧ b < B ∧ ∀ i (h : i < l.length), w.cell? ⟨b, o + i * 2, none⟩ = some (.string l[i].name) ∧ w.cell? ⟨b, o + i * 2 + 1, none⟩ = some (.int .i64 l[i].kind)
theorem ValsIn.below {B C : Nat} {w w' : World} {ao : Option Addr} {l : List Val} (h : ValsIn B w ao l) (hb : Below C w w') (hC : B ≤ C) : ValsIn B w' ao l := by
  rcases h with h | ⟨b, o, rfl, hl, h⟩
  · exact Or.inl h
  · refine Or.inr ⟨b, o, rfl, hl, fun i hi => ?_⟩
    have hlt : b < C := by omega
    obtain ⟨h0, h1, h2, h3⟩ := h i hi
    exact ⟨(hb.cell (p := ⟨b, o + i * 4, none⟩) hlt).trans h0, (hb.cell (p := ⟨b, o + i * 4 + 1, none⟩) hlt).trans h1, (hb.cell (p := ⟨b, o + i * 4 + 2, none⟩) hlt).trans h2, (hb.cell (p := ⟨b, o + i * 4 + 3, none⟩) hlt).trans h3⟩
theorem AttrsIn.below {B C : Nat} {w w' : World} {ao : Option Addr} {l : List AttrX} (h : AttrsIn B w ao l) (hb : Below C w w') (hC : B ≤ C) : AttrsIn B w' ao l := by
  rcases h with h | ⟨b, o, rfl, hl, h⟩
  · exact Or.inl h
  · refine Or.inr ⟨b, o, rfl, hl, fun i hi => ?_⟩
    have hlt : b < C := by omega
    obtain ⟨h0, h1⟩ := h i hi
    exact ⟨(hb.cell (p := ⟨b, o + i * 2, none⟩) hlt).trans h0, (hb.cell (p := ⟨b, o + i * 2 + 1, none⟩) hlt).trans h1⟩
theorem ValsIn.mono {B C : Nat} {w : World} {ao : Option Addr} {l : List Val} (h : ValsIn B w ao l) (hC : B ≤ C) : ValsIn C w ao l :=
  h.imp id fun ⟨b, o, e, hb, h⟩ => ⟨b, o, e, Nat.lt_of_lt_of_le hb hC, h⟩
theorem AttrsIn.mono {B C : Nat} {w : World} {ao : Option Addr} {l : List AttrX} (h : AttrsIn B w ao l) (hC : B ≤ C) : AttrsIn C w ao l :=
  h.imp id fun ⟨b, o, e, hb, h⟩ => ⟨b, o, e, Nat.lt_of_lt_of_le hb hC, h⟩
structure TyX where
  name : ByteArray
  attrs : List AttrX
structure EvX where
  ty : ByteArray
  time : Int
  vals : List Val
def Timely (n : Int) : Prop := 0 ≤ n ∧ n ≤ 4611686018427387904
instance (n : Int) : Decidable (Timely n) := by unfold Timely; infer_instance
/-- Is an event one of its type's kinds? -/
def Good (t : TyX) (e : EvX) : Prop := e.ty = t.name ∧ Timely e.time ∧ e.vals.length = t.attrs.length ∧ ∀ i (h : i < e.vals.length) (h2 : i < t.attrs.length), validB e.vals[i] = true ∧ e.vals[i].kind = t.attrs[i].kind
def vErr : List Val → List AttrX → Int
  | v :: vs, a :: ats => if validB v = true then (if v.kind = a.kind then vErr vs ats else 10) else 12
  | _, _ => 0
/-- Why an event is no row of a type. -/
def rowErr (t : TyX) (e : EvX) : Int := if e.ty ≠ t.name then 21 else if ¬ Timely e.time then 23 else if e.vals.length ≠ t.attrs.length then 22 else vErr e.vals t.attrs
theorem vErr_zero : ∀ (vs : List Val) (ats : List AttrX), vs.length = ats.length → (vErr vs ats = 0 ↔ ∀ i (h : i < vs.length) (h2 : i < ats.length), validB vs[i] = true ∧ vs[i].kind = ats[i].kind)
  | [], _, _ => by simp [vErr]
  | v :: vs, [], h => by simp at h
  | v :: vs, a :: ats, h => by
    have ih := vErr_zero vs ats (by simpa using h)
    simp only [vErr]
    constructor
    · intro h2
      split at h2
      · rename_i h3
        split at h2
        · rename_i h4
          intro i hi hi2
          cases i with
          | zero => exact ⟨h3, h4⟩
          | succ i => exact ih.1 h2 i (by simpa using hi) (by simpa using hi2)
        · cases h2
      · cases h2
    · intro h2
      have h3 := h2 0 (by simp) (by simp)
      simp only [List.getElem_cons_zero] at h3
      rw [if_pos h3.1, if_pos h3.2]
      exact ih.2 fun i hi hi2 => by
        have := h2 (i + 1) (by simp; omega) (by simp; omega)
        simpa using this
theorem rowErr_good (t : TyX) (e : EvX) : rowErr t e = 0 ↔ Good t e := by
  unfold rowErr Good
  by_cases h1 : e.ty = t.name
  · rw [if_neg (by simp [h1])]
    by_cases h2 : Timely e.time
    · rw [if_neg (by simp [h2])]
      by_cases h3 : e.vals.length = t.attrs.length
      · rw [if_neg (by simp [h3]), vErr_zero _ _ h3]
        simp [h1, h2, h3]
      · rw [if_pos h3]
        simp [h3]
    · rw [if_pos h2]
      simp [h2]
  · rw [if_pos h1]
    simp [h1]
/-- An event's cells. -/
def evB (e : EvX) : List (List UInt8) := (numS e.time).data.toList :: e.vals.map fun v => (cellB v).data.toList
end Go.Proofs.YtdkddnlolnbpgaaDoor
