/- Package wire: what is wrong with an event; package value, Valid. -/
import Derived.Test.YtmdhacboegmccaaDoorAppVal
namespace Go.Proofs.YtmdhacboegmccaaDoor
open Go Go.RowKit

theorem valid_any (a : Val) (w : World) (hm : a.str.size ≤ maxLen) : Calls Tryd.prog 74 #[a.v] w fun e w' => e = .returned (.bool (validB a)) ∧ Below w.heap.size w w' := by
  obtain ⟨k, n, s, b⟩ := a
  simp only [Val.v]
  simp only at hm
  unfold maxLen at hm
  have hb := Lib.hid (fun (o : Obj) => (Below.refl w.heap.size w).alloc (Nat.le_refl _) o)
  by_cases h1 : k = 1
  · subst h1
    cases hs : (s.toList == []) <;> cases b
    all_goals
      have HE := Lib.hid hs
      go_enter Tryd.func74, Tryd.ntmps74
      go_wp2_with fail
      go_ret
      exact ⟨by simp [validB, HE.out], hb.out _⟩
  by_cases h2 : k = 2
  · subst h2
    cases hn : (n == 0) <;> cases b <;> by_cases hs : s.size ≤ 256
    all_goals
      have HE := Lib.hid hn
      have HS := Lib.hid hs
      go_enter Tryd.func74, Tryd.ntmps74
      go_wp2_with fail
      go_ret
      exact ⟨by (first | (simp [validB, HE.out, HS.out]; done) | (simp [validB, HE.out, HS.out]; omega)), hb.out _⟩
  by_cases h3 : k = 3
  · subst h3
    cases hn : (n == 0) <;> cases hs : (s.toList == [])
    all_goals
      have HE := Lib.hid hn
      have HS := Lib.hid hs
      go_enter Tryd.func74, Tryd.ntmps74
      go_wp2_with fail
      go_ret
      exact ⟨by simp [validB, HE.out, HS.out], hb.out _⟩
  have b1 : (k == 1) = false := by simpa using h1
  have b2 : (k == 2) = false := by simpa using h2
  have b3 : (k == 3) = false := by simpa using h3
  have HE := Lib.hid (show validB ⟨k, n, s, b⟩ = false by simp [validB, h1, h2, h3])
  clear h1 h2 h3
  go_enter Tryd.func74, Tryd.ntmps74
  go_wp2_with fail
  go_ret
  exact ⟨ret_bool HE.out.symm, hb.out _⟩


theorem appendValue_any (B : Nat) (v : Value) (l : List UInt8) (a : Val) (w : World) (ha : valOk a) (hown : w.ownsRow B 5 1 v l.length (bytesC l)) (hl : l.length ≤ 800000000) (hB : B ≤ w.heap.size) :
    Calls Tryd.prog 76 #[v, a.v] w fun e w' => ∃ v', e = .returned v' ∧ Ext8 B w v w' v' (l ++ valE a) := by
  obtain ⟨k, n, s, b⟩ := a
  obtain ⟨hv, h1, h2⟩ := ha
  simp only at h1 h2
  have hk : k = 1 ∨ k = 2 ∨ k = 3 := by
    unfold validB at hv
    simp only at hv
    split at hv
    · exact Or.inl ‹_›
    · split at hv
      · exact Or.inr (Or.inl ‹_›)
      · split at hv
        · exact Or.inr (Or.inr ‹_›)
        · simp at hv
  rcases hk with rfl | rfl | rfl
  · have hb : (s.toList == []) = true ∧ b = false := by simpa [validB] using hv
    obtain ⟨hs, rfl⟩ := hb
    obtain rfl := str_nil hs
    cases h0 : (n == 0)
    · exact appendValue_int B v l n h1 h2 h0 w hown hl hB
    · obtain rfl : n = 0 := by simpa using h0
      exact appendValue_int0 B v l w hown hl hB
  · have hb : (n = 0 ∧ b = false) ∧ s.size ≤ 256 := by simpa [validB] using hv
    obtain ⟨⟨rfl, rfl⟩, hs⟩ := hb
    cases h0 : (s.toList == [])
    · exact appendValue_str B v l s hs h0 w hown hl hB
    · obtain rfl := str_nil h0
      exact appendValue_str0 B v l w hown hl hB
  · have hb : n = 0 ∧ (s.toList == []) = true := by simpa [validB] using hv
    obtain ⟨rfl, hs⟩ := hb
    obtain rfl := str_nil hs
    cases b
    · exact appendValue_no B v l w hown hl hB
    · exact appendValue_yes B v l w hown hl hB
theorem valTail_le (a : Val) (h : valOk a) : (valE a).length ≤ 270 := by
  unfold valE valTail
  have h1 := putB_le a.int h.2.1 h.2.2
  split
  · simp only [List.length_cons]; omega
  · split
    · rename_i h2
      have hs : a.str.size ≤ 256 := by
        have := h.1
        unfold validB at this
        rw [if_neg (by omega), if_pos h2] at this
        simp only [Bool.and_eq_true, decide_eq_true_eq] at this
        exact this.2
      have h3 := putB_le (a.str.size : Int) (by omega) (by omega)
      have h4 : a.str.data.toList.length = a.str.size := rfl
      simp only [textE, List.length_cons, List.length_append]
      omega
    · split <;> simp
theorem vals_le : ∀ l : List Val, (∀ a ∈ l, valOk a) → (l.flatMap valE).length ≤ 270 * l.length
  | [], _ => by simp
  | a :: l, h => by
    have h1 := valTail_le a (h a (by simp))
    have h2 := vals_le l (fun x hx => h x (by simp [hx]))
    simp only [List.flatMap_cons, List.length_append, List.length_cons]
    omega

/-- The cells of a list of values lie from an address on, below a block. -/
def ValsIn (B : Nat) (w : World) (ao : Option Addr) (l : List Val) : Prop :=
  l = [] ∨ ∃ b o, ao = some ⟨b, o, none⟩ ∧ b < B ∧ ∀ i (h : i < l.length), w.cell? ⟨b, o + i * 4, none⟩ = some (.int .i64 l[i].kind) ∧ w.cell? ⟨b, o + i * 4 + 1, none⟩ = some (.int .i64 l[i].int) ∧ w.cell? ⟨b, o + i * 4 + 2, none⟩ = some (.string l[i].str) ∧ w.cell? ⟨b, o + i * 4 + 3, none⟩ = some (.bool l[i].bool)
theorem ValsIn.keep {B : Nat} {w w' : World} {ao : Option Addr} {l : List Val} (h : ValsIn B w ao l) (hb : ∀ k, k < B → w'.heap[k]? = w.heap[k]?) : ValsIn B w' ao l := by
  rcases h with h | ⟨b, o, rfl, hlt, h⟩
  · exact Or.inl h
  · refine Or.inr ⟨b, o, rfl, hlt, fun i hi => ?_⟩
    have e : ∀ j : Nat, w'.cell? ⟨b, j, none⟩ = w.cell? ⟨b, j, none⟩ := fun j => World.cell?_of_block (w := w) (hb b hlt)
    exact ⟨(e _).trans (h i hi).1, (e _).trans (h i hi).2.1, (e _).trans (h i hi).2.2.1, (e _).trans (h i hi).2.2.2⟩
theorem ValsIn.mono {B B' : Nat} {w : World} {ao : Option Addr} {l : List Val} (h : ValsIn B w ao l) (hB : B ≤ B') : ValsIn B' w ao l := by
  rcases h with h | ⟨b, o, rfl, hlt, h⟩
  · exact Or.inl h
  · exact Or.inr ⟨b, o, rfl, by omega, h⟩
theorem ValsIn.below {B : Nat} {w w' : World} {ao : Option Addr} {l : List Val} (h : ValsIn B w ao l) (hb : Below w.heap.size w w') (hB : B ≤ w.heap.size) : ValsIn B w' ao l := h.keep (fun k hk => hb.block k (by omega))
theorem ValsIn.ext {B : Nat} {w w' : World} {v v' : Value} {m : List UInt8} {ao : Option Addr} {l : List Val} (h : ValsIn B w ao l) (hx : Ext8 B w v w' v' m) (hB : B ≤ w.heap.size) (hv : ∀ k, v.ownBlock = some k → B ≤ k) : ValsIn B w' ao l :=
  h.keep (fun k hk => hx.grown.block k (by omega) (fun e => by have := hv k e.symm; omega))
theorem row_lo {w : World} {B : Nat} {v : Value} {n : Nat} {xs : List Value} (h : w.ownsRow B 5 1 v n xs) : ∀ k, v.ownBlock = some k → B ≤ k := fun k hk => (h.lt k hk).1

/-- An event as it is handed on. -/
def evV (e : Ev) (va : Option Addr) (cap : Nat) : Value := .agg #[.string e.ty, .int .i64 e.time, .slice va e.vals.length cap]
def evPre (e : Ev) : List UInt8 := textE e.ty ++ (putB e.time ++ putB e.vals.length)
theorem evE_pre (e : Ev) : evE e = evPre e ++ e.vals.flatMap valE := by unfold evE evPre; simp only [List.append_assoc]
theorem evPre_le (e : Ev) (h1 : e.ty.size ≤ 32) (h2 : 0 ≤ e.time ∧ e.time ≤ 4611686018427387904) (h3 : e.vals.length ≤ 16) : (evPre e).length ≤ 62 := by
  have a1 := putB_le (e.ty.size : Int) (by omega) (by omega)
  have a2 := putB_le e.time (by omega) (by omega)
  have a3 := putB_le (e.vals.length : Int) (by omega) (by omega)
  have a4 : e.ty.data.toList.length = e.ty.size := rfl
  unfold evPre textE
  simp only [List.length_append]
  omega
theorem evE_le (e : Ev) (h : evOk e) : (evE e).length ≤ 4400 := by
  have h1 := evPre_le e (name_size h.1).2 h.2.1 h.2.2.1
  have h2 := vals_le e.vals h.2.2.2
  have h3 := h.2.2.1
  rw [evE_pre, List.length_append]
  omega
/-- What is wrong with an event. -/
def evFault (e : Ev) : Int := if nameB e.ty = true then (if e.time < 0 ∨ 4611686018427387904 < e.time then 23 else if 16 < e.vals.length then 2 else if e.vals.all validB = true then 0 else 12) else 20
theorem evFault_ok (e : Ev) (hi : ∀ a ∈ e.vals, -9223372036854775808 ≤ a.int ∧ a.int ≤ 9223372036854775807) : evFault e = 0 ↔ evOk e := by
  unfold evFault evOk
  constructor
  · intro h
    split at h
    · split at h
      · cases h
      · split at h
        · cases h
        · split at h
          · rename_i h1 h2 h3 h4
            refine ⟨h1, by omega, by omega, fun v hv => ⟨?_, hi v hv⟩⟩
            rw [List.all_eq_true] at h4
            exact h4 v hv
          · cases h
    · cases h
  · rintro ⟨h1, h2, h3, h4⟩
    rw [if_pos h1, if_neg (by omega), if_neg (by omega), if_pos]
    rw [List.all_eq_true]
    exact fun v hv => (h4 v hv).1
end Go.Proofs.YtmdhacboegmccaaDoor
