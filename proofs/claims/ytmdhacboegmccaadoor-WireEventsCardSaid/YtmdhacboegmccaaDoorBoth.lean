/- Encode and Decode, the program's and the document's own, said in one way. -/
import Derived.Test.YtmdhacboegmccaaDoorTight
import Derived.Test.YtmdhacboegmccaaDoorInWeigh
import Derived.Test.YtmdhacboegmccaaDoorFront
namespace Go.Proofs.YtmdhacboegmccaaDoor
open Go Go.RowKit

theorem evOk_of {e : Ev} (h : evFault e = 0) (hm : ∀ a ∈ e.vals, valIn a) : evOk e := by
  unfold evFault at h
  split at h
  · rename_i hn
    split at h
    · cases h
    · rename_i ht
      split at h
      · cases h
      · rename_i hl
        split at h
        · rename_i ha
          exact ⟨hn, by omega, by omega, fun v hv => ⟨List.all_eq_true.1 ha v hv, (hm v hv).2.1, (hm v hv).2.2⟩⟩
        · cases h
  · cases h
theorem enc_any (e : Ev) (va : Option Addr) (cap : Nat) (w : World) (hres : ResAt w) (hva : ValsIn w.heap.size w va e.vals) (hm : ∀ a ∈ e.vals, valIn a) :
    Calls Tryd.prog 16 #[evV e va cap] w fun en w' => EncTo e w en w' ∧ Below w.heap.size w w' := by
  by_cases h : evFault e = 0
  · exact (encode_ok e va cap w hres hva (fun a ha => (hm a ha).1) (evOk_of h hm) h).mono fun en w' ⟨v, h1, h2, h3⟩ => ⟨Or.inl ⟨h, v, h1, h2⟩, h3⟩
  · exact (encode_no e va cap w hres hva (fun a ha => (hm a ha).1) (by simpa using h)).mono fun en w' ⟨h1, h2⟩ => ⟨Or.inr ⟨h, h1⟩, h2⟩
theorem dec_any (l : List UInt8) (ao : Option Addr) (cap : Nat) (w : World) (hres : ResAt w) (hb : BytesAt w ao l) (hlc : l.length ≤ cap) (hcm : cap ≤ maxLen) :
    Calls Tryd.prog 17 #[.slice ao l.length cap] w fun en w' => DecTo l w en w' ∧ Below w.heap.size w w' :=
  (decode_core l ao cap w hres hb hlc hcm).mono fun en w' ⟨h1, h2⟩ => ⟨by
    rcases h1 with ⟨h0, g, c, he, ho⟩ | h
    · exact Or.inl ⟨h0, some ⟨g, 0, none⟩, c, he, ho⟩
    · exact Or.inr h, h2⟩
theorem owned_vals2 {w : World} {B cap : Nat} {va : Option Addr} {l : List Val} (h : w.ownsRow B 95 4 (.slice va l.length cap) l.length (valCells l)) : ValsIn w.heap.size w va l := by
  rcases h.2 with ⟨e, h0⟩ | ⟨g, cap', cur, e, _⟩
  · exact Or.inl (List.eq_nil_of_length_eq_zero h0)
  · injection e with e1 e2 e3
    subst e1
    exact owned_vals h
theorem owned_len {w : World} {B cap e size n : Nat} {va : Option Addr} {xs : List Value} (h : w.ownsRow B e size (.slice va n cap) n xs) : n ≤ maxLen := by
  rcases h.2 with ⟨e, h0⟩ | ⟨g, cap', cur, e, _, _, hn, hc, _⟩
  · rw [h0]; exact Nat.zero_le _
  · exact Nat.le_trans hn hc
/-- What Encode answers, as the comparisons want it. -/
theorem enc_form {e : Ev} {w w' : World} {en : Ending} (h : EncTo e w en w') : ∃ ao cap l, en = .returned (.tuple #[.slice ao l.length cap, .int .i64 (evFault e)]) ∧ BytesAt w' ao l ∧ l = (if evFault e = 0 then evE e else []) ∧ l.length ≤ maxLen := by
  rcases h with ⟨h0, v, rfl, ho⟩ | ⟨h0, rfl⟩
  · obtain ⟨ao, cap, rfl, hb, h1, h2⟩ := owned_bytes ho
    exact ⟨ao, cap, evE e, by rw [h0], hb, by rw [if_pos h0], Nat.le_trans h1 h2⟩
  · exact ⟨none, 0, [], rfl, Or.inl rfl, by rw [if_neg h0], by simp⟩
/-- What Decode answers. -/
def decE (l : List UInt8) : Ev := if (eventR ⟨l, 0⟩).2.fault = 0 then (eventR ⟨l, 0⟩).1 else zeroEv
def decN (l : List UInt8) : Int := if (eventR ⟨l, 0⟩).2.fault = 0 then (l.length : Int) - ((eventR ⟨l, 0⟩).2.rest.length : Int) else 0
theorem dec_form {l : List UInt8} {w w' : World} {en : Ending} (h : DecTo l w en w') : ∃ va c, en = .returned (.tuple #[evV (decE l) va c, .int .i64 (decN l), .int .i64 (eventR ⟨l, 0⟩).2.fault]) ∧ ValsIn w'.heap.size w' va (decE l).vals ∧ (decE l).vals.length ≤ maxLen := by
  rcases h with ⟨h0, va, c, rfl, ho⟩ | ⟨h0, rfl⟩
  · refine ⟨va, c, ?_, ?_, ?_⟩
    · unfold decE decN evV
      rw [if_pos h0, if_pos h0, h0]
    · unfold decE
      rw [if_pos h0]
      exact owned_vals2 ho
    · unfold decE
      rw [if_pos h0]
      exact owned_len ho
  · refine ⟨none, 0, ?_, ?_, ?_⟩
    · unfold decE decN evV
      rw [if_neg h0, if_neg h0]
      rfl
    · unfold decE
      rw [if_neg h0]
      exact Or.inl rfl
    · unfold decE
      rw [if_neg h0]
      exact Nat.zero_le _
end Go.Proofs.YtmdhacboegmccaaDoor
