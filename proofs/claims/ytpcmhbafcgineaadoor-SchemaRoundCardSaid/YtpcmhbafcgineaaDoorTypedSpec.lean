/- Plain facts on the types that the laws make: names, kinds, that nothing is wrong with them. No program is named here. -/
import Derived.Test.YtpcmhbafcgineaaDoorSpec2
import Derived.Laws.Strings
namespace Go.Proofs.YtpcmhbafcgineaaDoor
open Go

def dgS (n : Nat) : UInt8 := UInt8.ofNat (48 + n)
/-- The digits of a number below 100. -/
def decS (n : Nat) : ByteArray := if n < 10 then ⟨#[dgS n]⟩ else ⟨#[dgS (n / 10), dgS (n % 10)]⟩
/-- The name that is always there. -/
def altB (k : Nat) : ByteArray := ⟨#[97]⟩ ++ decS k
/-- Whether a given name is taken. -/
def takesB (s : ByteArray) : Bool := nameB s && decide (98 ≤ (s.get! 0).toNat) && !(s.toList == [116, 105, 109, 101])
/-- The name ahead of the look at those that are there. -/
def pickB (ss : List ByteArray) (k : Nat) : ByteArray := match ss[k]? with
  | some s => if takesB s then s else altB k
  | none => altB k
/-- The name. -/
def nmB (ss : List ByteArray) (l : List Attr) (k : Nat) : ByteArray := if hasB l (pickB ss k) then altB k else pickB ss k
/-- The attributes behind k rounds. -/
def typedL (ss : List ByteArray) (zs : List Int) : Nat → List Attr
  | 0 => []
  | k + 1 => typedL ss zs k ++ [(nmB ss (typedL ss zs k) k, 1 + zs.getD k 0 % 3)]

theorem typedL_length (ss : List ByteArray) (zs : List Int) (k : Nat) : (typedL ss zs k).length = k := by
  induction k with
  | zero => rfl
  | succ k ih => simp [typedL, ih]

theorem alt_apart : ∀ i : Fin 16, ∀ j : Fin 16, ((altB i).toList == (altB j).toList) = decide (i = j) := by decide +kernel
theorem alt_name : ∀ i : Fin 16, attrNameB (altB i) = true := by decide +kernel
theorem alt_first : ∀ i : Fin 16, ((altB i).get! 0).toNat = 97 := by decide +kernel
theorem alt_size : ∀ i : Fin 16, (altB i).size ≤ 32 := by decide +kernel

theorem takes_attr {s : ByteArray} (h : takesB s = true) : attrNameB s = true := by
  simp only [takesB, Bool.and_eq_true] at h
  have := h.2
  rw [ByteArray.toList_eq] at this
  simp only [attrNameB, h.1.1, this, Bool.true_and]

theorem pick_cases (ss : List ByteArray) (k : Nat) : pickB ss k = altB k ∨ (takesB (pickB ss k) = true) := by
  unfold pickB
  split
  · split
    · exact Or.inr (by assumption)
    · exact Or.inl rfl
  · exact Or.inl rfl

theorem nm_attr (ss : List ByteArray) (l : List Attr) (k : Nat) (hk : k < 16) : attrNameB (nmB ss l k) = true := by
  unfold nmB
  split
  · exact alt_name ⟨k, hk⟩
  · rcases pick_cases ss k with h | h
    · rw [h]; exact alt_name ⟨k, hk⟩
    · exact takes_attr h

/-- Each name behind k rounds is one that is always there, of a round that is past, or begins beyond them. -/
def Past (k : Nat) (n : ByteArray) : Prop := (∃ j, j < k ∧ n = altB j) ∨ 98 ≤ (n.get! 0).toNat

theorem nm_past (ss : List ByteArray) (l : List Attr) (k : Nat) : Past (k + 1) (nmB ss l k) := by
  unfold nmB
  split
  · exact Or.inl ⟨k, by omega, rfl⟩
  · rcases pick_cases ss k with h | h
    · exact Or.inl ⟨k, by omega, h⟩
    · simp only [takesB, Bool.and_eq_true, decide_eq_true_eq] at h
      exact Or.inr h.1.2

theorem Past.mono {k k' : Nat} {n : ByteArray} (h : Past k n) (hk : k ≤ k') : Past k' n := by
  rcases h with ⟨j, hj, rfl⟩ | h
  · exact Or.inl ⟨j, by omega, rfl⟩
  · exact Or.inr h

theorem typed_past (ss : List ByteArray) (zs : List Int) (k : Nat) : ∀ a ∈ typedL ss zs k, Past k a.1 := by
  induction k with
  | zero => intro a ha; simp [typedL] at ha
  | succ k ih =>
    intro a ha
    rw [typedL, List.mem_append] at ha
    rcases ha with ha | ha
    · exact (ih a ha).mono (by omega)
    · simp only [List.mem_singleton] at ha
      subst ha
      exact nm_past ss _ k

theorem toList_inj {a b : ByteArray} (h : a.toList = b.toList) : a = b := by
  rw [ByteArray.toList_eq, ByteArray.toList_eq] at h
  apply ByteArray.ext
  exact Array.toList_inj.1 h

/-- The new name is none of those that are there. -/
theorem nm_new (ss : List ByteArray) (zs : List Int) (k : Nat) (hk : k < 16) : hasB (typedL ss zs k) (nmB ss (typedL ss zs k) k) = false := by
  unfold nmB
  split
  · rw [← Bool.not_eq_true]
    intro h
    unfold hasB at h
    rw [List.any_eq_true] at h
    obtain ⟨a, ha, e⟩ := h
    have e := toList_inj (beq_iff_eq.1 e)
    rcases typed_past ss zs k a ha with ⟨j, hj, h⟩ | h
    · rw [h] at e
      have := alt_apart ⟨j, by omega⟩ ⟨k, hk⟩
      simp only [e, beq_self_eq_true] at this
      have := of_decide_eq_true this.symm
      simp at this
      omega
    · rw [e, alt_first ⟨k, hk⟩] at h
      omega
  · rename_i h
    simpa using h

theorem typed_fault (ss : List ByteArray) (zs : List Int) (k : Nat) (hk : k ≤ 16) : attrsFault [] (typedL ss zs k) = 0 := by
  have step : ∀ (l : List Attr) (pre : List Attr) (a : Attr), attrsFault pre l = 0 → attrFault (pre ++ l) a = 0 → attrsFault pre (l ++ [a]) = 0 := by
    intro l
    induction l with
    | nil => intro pre a _ h; simp only [List.append_nil] at h; simp [attrsFault, h]
    | cons b r ih =>
      intro pre a h1 h2
      rw [List.cons_append, attrsFault]
      rw [attrsFault] at h1
      by_cases hb : attrFault pre b = 0
      · rw [if_pos hb] at h1 ⊢
        exact ih (pre ++ [b]) a h1 (by rw [List.append_assoc]; exact h2)
      · rw [if_neg hb] at h1
        exact absurd h1 hb
  induction k with
  | zero => rfl
  | succ k ih =>
    rw [typedL]
    refine step _ _ _ (ih (by omega)) ?_
    have h1 := nm_attr ss (typedL ss zs k) k (by omega)
    have h2 := nm_new ss zs k (by omega)
    have h3 : 1 ≤ 1 + zs.getD k 0 % 3 ∧ 1 + zs.getD k 0 % 3 ≤ 3 := by omega
    simp only [List.nil_append, attrFault, h1, h2, if_true]
    rw [if_pos h3]
    rfl

theorem name_size {s : ByteArray} (h : nameB s = true) : s.size ≤ 32 := by
  simp only [nameB, Bool.and_eq_true, decide_eq_true_eq] at h
  exact h.1.1.1
theorem attr_name {s : ByteArray} (h : attrNameB s = true) : nameB s = true := by
  simp only [attrNameB, Bool.and_eq_true] at h
  exact h.1

theorem typed_sizes (ss : List ByteArray) (zs : List Int) (k : Nat) (hk : k ≤ 16) : ∀ a ∈ typedL ss zs k, a.1.size ≤ 32 := by
  induction k with
  | zero => intro a ha; simp [typedL] at ha
  | succ k ih =>
    intro a ha
    rw [typedL, List.mem_append] at ha
    rcases ha with ha | ha
    · exact ih (by omega) a ha
    · simp only [List.mem_singleton] at ha
      subst ha
      exact name_size (attr_name (nm_attr ss _ k (by omega)))

theorem typed_ok (n : ByteArray) (ss : List ByteArray) (zs : List Int) (k : Nat) (hk : k ≤ 16) (hn : nameB n = true) : faultB n (typedL ss zs k) = 0 := by
  unfold faultB
  rw [if_pos hn, if_pos (by rw [typedL_length]; exact hk)]
  exact typed_fault ss zs k hk

theorem typed_kinds (ss : List ByteArray) (zs : List Int) (k : Nat) : ∀ a ∈ typedL ss zs k, 1 ≤ a.2 ∧ a.2 ≤ 3 := by
  induction k with
  | zero => intro a ha; simp [typedL] at ha
  | succ k ih =>
    intro a ha
    rw [typedL, List.mem_append] at ha
    rcases ha with ha | ha
    · exact ih a ha
    · simp only [List.mem_singleton] at ha
      subst ha
      simp only
      omega

end Go.Proofs.YtpcmhbafcgineaaDoor
