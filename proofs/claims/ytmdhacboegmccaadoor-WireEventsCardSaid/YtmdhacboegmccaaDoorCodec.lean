/- Reading with a first fault, as plain functions; what is written is read back, what is read is what would be written, less of it ends too early. No program is named here. -/
import Derived.Test.YtmdhacboegmccaaDoorForms
namespace Go.Proofs.YtmdhacboegmccaaDoor
open Go

/-- Bytes that are left, and the first fault. -/
structure Rd where
  rest : List UInt8
  fault : Int
def Rd.refuse (r : Rd) (e : Int) : Rd := if r.fault = 0 then ⟨[], e⟩ else r
theorem refuse_ill {e e' : Int} (h : e ≠ 0) : (⟨[], e⟩ : Rd).refuse e' = ⟨[], e⟩ := by simp [Rd.refuse, h]
theorem refuse_ok (l : List UInt8) (e : Int) : (⟨l, 0⟩ : Rd).refuse e = ⟨[], e⟩ := by simp [Rd.refuse]

/-- A step that reads what is written. -/
structure Codec {α : Type} (f : Rd → α × Rd) (ok : α → Prop) (enc : α → List UInt8) : Prop where
  there : ∀ a r, ok a → f ⟨enc a ++ r, 0⟩ = (a, ⟨r, 0⟩)
  back : ∀ b, (f ⟨b, 0⟩).2.fault = 0 → ok (f ⟨b, 0⟩).1 ∧ b = enc (f ⟨b, 0⟩).1 ++ (f ⟨b, 0⟩).2.rest
  short : ∀ a j, ok a → j < (enc a).length → (f ⟨(enc a).take j, 0⟩).2 = ⟨[], 30⟩
  ill : ∀ e, e ≠ 0 → (f ⟨[], e⟩).2 = ⟨[], e⟩
  shape : ∀ b, (f ⟨b, 0⟩).2.fault ≠ 0 → (f ⟨b, 0⟩).2.rest = []

def andThen {α β : Type} (f : Rd → α × Rd) (g : α → Rd → β × Rd) (r : Rd) : (α × β) × Rd := (((f r).1, (g (f r).1 (f r).2).1), (g (f r).1 (f r).2).2)
theorem rd_eta {r : Rd} {l : List UInt8} {e : Int} (h1 : r.rest = l) (h2 : r.fault = e) : r = ⟨l, e⟩ := by cases r; simp_all

theorem Codec.andThen {α β : Type} {f : Rd → α × Rd} {okf : α → Prop} {encf : α → List UInt8} {g : α → Rd → β × Rd} {okg : α → β → Prop} {encg : α → β → List UInt8}
    (hf : Codec f okf encf) (hg : ∀ a, okf a → Codec (g a) (okg a) (encg a)) (hi : ∀ a e, e ≠ 0 → (g a ⟨[], e⟩).2 = ⟨[], e⟩) :
    Codec (andThen f g) (fun p => okf p.1 ∧ okg p.1 p.2) (fun p => encf p.1 ++ encg p.1 p.2) where
  there := by
    rintro ⟨a, b⟩ r ⟨h1, h2⟩
    have e := hf.there a (encg a b ++ r) h1
    simp only [Proofs.YtmdhacboegmccaaDoor.andThen, List.append_assoc, e, (hg a h1).there b r h2]
  back := by
    intro b h
    by_cases hz : (f ⟨b, 0⟩).2.fault = 0
    · obtain ⟨h1, h2⟩ := hf.back b hz
      have e : (f ⟨b, 0⟩).2 = ⟨(f ⟨b, 0⟩).2.rest, 0⟩ := rd_eta rfl hz
      simp only [Proofs.YtmdhacboegmccaaDoor.andThen] at h ⊢
      rw [e] at h ⊢
      obtain ⟨h3, h4⟩ := (hg _ h1).back _ h
      refine ⟨⟨h1, h3⟩, ?_⟩
      rw [List.append_assoc, ← h4]
      exact h2
    · exfalso
      have e : (f ⟨b, 0⟩).2 = ⟨[], (f ⟨b, 0⟩).2.fault⟩ := rd_eta (hf.shape b hz) rfl
      simp only [Proofs.YtmdhacboegmccaaDoor.andThen] at h
      rw [e, hi _ _ hz] at h
      exact hz h
  short := by
    rintro ⟨a, b⟩ j ⟨h1, h2⟩ hj
    simp only [List.length_append] at hj
    simp only [Proofs.YtmdhacboegmccaaDoor.andThen]
    by_cases hlt : j < (encf a).length
    · rw [List.take_append_of_le_length (by omega)]
      have e := hf.short a j h1 hlt
      rw [e, hi _ _ (by decide)]
    · rw [List.take_append, List.take_of_length_le (by omega)]
      have e := hf.there a ((encg a b).take (j - (encf a).length)) h1
      rw [e]
      exact (hg a h1).short b _ h2 (by omega)
  ill := by
    intro e he
    simp only [Proofs.YtmdhacboegmccaaDoor.andThen]
    rw [hf.ill e he, hi _ e he]
  shape := by
    intro b h
    by_cases hz : (f ⟨b, 0⟩).2.fault = 0
    · obtain ⟨h1, h2⟩ := hf.back b hz
      have e : (f ⟨b, 0⟩).2 = ⟨(f ⟨b, 0⟩).2.rest, 0⟩ := rd_eta rfl hz
      simp only [Proofs.YtmdhacboegmccaaDoor.andThen] at h ⊢
      rw [e] at h ⊢
      exact (hg _ h1).shape _ h
    · have e : (f ⟨b, 0⟩).2 = ⟨[], (f ⟨b, 0⟩).2.fault⟩ := rd_eta (hf.shape b hz) rfl
      simp only [Proofs.YtmdhacboegmccaaDoor.andThen]
      rw [e, hi _ _ hz]

def mapped {α β : Type} (f : Rd → α × Rd) (m : α → β) (r : Rd) : β × Rd := (m (f r).1, (f r).2)
theorem Codec.mapped {α β : Type} {f : Rd → α × Rd} {ok : α → Prop} {enc : α → List UInt8} (hf : Codec f ok enc) (m : α → β) (u : β → α) (ok' : β → Prop) (enc' : β → List UInt8)
    (h1 : ∀ a, ok a → ok' (m a) ∧ enc' (m a) = enc a) (h2 : ∀ b, ok' b → ok (u b) ∧ m (u b) = b) : Codec (mapped f m) ok' enc' where
  there := by
    intro b r hb
    obtain ⟨h3, h4⟩ := h2 b hb
    have e : enc' b = enc (u b) := by rw [← (h1 _ h3).2, h4]
    simp only [Proofs.YtmdhacboegmccaaDoor.mapped, e, hf.there _ r h3, h4]
  back := by
    intro b h
    obtain ⟨h3, h4⟩ := hf.back b h
    obtain ⟨h5, h6⟩ := h1 _ h3
    refine ⟨h5, ?_⟩
    show b = enc' (m (f ⟨b, 0⟩).1) ++ (f ⟨b, 0⟩).2.rest
    rw [h6]
    exact h4
  short := by
    intro b j hb hj
    obtain ⟨h3, h4⟩ := h2 b hb
    have e : enc' b = enc (u b) := by rw [← (h1 _ h3).2, h4]
    simp only [Proofs.YtmdhacboegmccaaDoor.mapped, e]
    exact hf.short _ j h3 (by rw [← e]; exact hj)
  ill := fun e he => hf.ill e he
  shape := fun b h => hf.shape b h

/-- A number between two others. -/
def numberR (lo hi : Int) (r : Rd) : Int × Rd :=
  if (readZ 0 0 r.rest).2.2 = 0 then
    if unz (readZ 0 0 r.rest).1 < lo ∨ hi < unz (readZ 0 0 r.rest).1 then (0, r.refuse 31)
    else (unz (readZ 0 0 r.rest).1, ⟨r.rest.drop (readZ 0 0 r.rest).2.1, r.fault⟩)
  else (0, r.refuse (readZ 0 0 r.rest).2.2)
theorem number_codec (lo hi : Int) (h1 : -9223372036854775808 ≤ lo) (h2 : hi ≤ 9223372036854775807) : Codec (numberR lo hi) (fun n => lo ≤ n ∧ n ≤ hi) putB where
  there := by
    rintro n r ⟨a, b⟩
    have e := read_put (zz n) 0 0 r (by omega) (by have := zz_lt n (by omega) (by omega); simpa using this) (by omega)
    have e' : readZ 0 0 (putB n ++ r) = (zz n, (putB n).length, 0) := by unfold putB; rw [e]; simp
    simp only [numberR, e', if_true, unz_zz]
    rw [if_neg (by omega), List.drop_left]
  back := by
    intro b h
    unfold numberR at h ⊢
    simp only at h ⊢
    by_cases h0 : (readZ 0 0 b).2.2 = 0
    · rw [if_pos h0] at h ⊢
      by_cases hb : unz (readZ 0 0 b).1 < lo ∨ hi < unz (readZ 0 0 b).1
      · rw [if_pos hb, refuse_ok] at h; simp at h
      · rw [if_neg hb] at h ⊢
        obtain ⟨z, r, e1, e2, e3, _, e5, _⟩ := read_back b 0 0 (readZ 0 0 b).1 (readZ 0 0 b).2.1 (by omega) (Prod.ext rfl (Prod.ext rfl h0))
        have e2' : (readZ 0 0 b).1 = z := by rw [e2]; simp
        rw [e2'] at hb ⊢
        refine ⟨by simp only; omega, ?_⟩
        simp only [putB, zz_unz]
        rw [e5]
        conv => lhs; rw [e1]
        congr 1
        rw [e1]
        simp
    · rw [if_neg h0, refuse_ok] at h; exact absurd h h0
  short := by
    rintro n j ⟨a, b⟩ hj
    have e := read_put (zz n) 0 0 [] (by omega) (by have := zz_lt n (by omega) (by omega); simpa using this) (by omega)
    obtain ⟨z, r, e1, e2, e3, _, e5, e6⟩ := read_back _ 0 0 _ _ (by omega) e
    have hz : z = zz n := by simpa using e2.symm
    subst hz
    have e7 := e6 j hj
    unfold putB
    simp only [numberR, e7, refuse_ok]
    rfl
  ill := by intro e he; simp only [numberR, readZ, refuse_ill he]; rfl
  shape := by
    intro b h
    unfold numberR at h ⊢
    simp only at h ⊢
    split at h
    · split at h
      · rename_i h3 h4
        rw [if_pos h3, if_pos h4, refuse_ok]
      · exact absurd rfl h
    · rename_i h3
      rw [if_neg h3, refuse_ok]

/-- One byte between two others. -/
def singleR (lo hi : Nat) (r : Rd) : Nat × Rd :=
  match r.rest with
  | [] => (0, r.refuse 30)
  | x :: t => if x.toNat < lo ∨ hi < x.toNat then (0, r.refuse 31) else (x.toNat, ⟨t, r.fault⟩)
theorem single_codec (lo hi : Nat) (h : hi < 256) : Codec (singleR lo hi) (fun n => lo ≤ n ∧ n ≤ hi) (fun n => [UInt8.ofNat n]) where
  there := by
    rintro n r ⟨a, b⟩
    have e := u8_of n (by omega)
    simp only [singleR, List.cons_append, List.nil_append, e]
    rw [if_neg (by omega)]
  back := by
    intro b h
    cases b with
    | nil => simp [singleR, refuse_ok] at h
    | cons x t =>
      unfold singleR at h ⊢
      simp only at h ⊢
      by_cases hx : x.toNat < lo ∨ hi < x.toNat
      · rw [if_pos hx, refuse_ok] at h; simp at h
      · rw [if_neg hx]; exact ⟨by simp only; omega, by simp⟩
  short := by
    rintro n j _ hj
    obtain rfl : j = 0 := by simpa using hj
    simp [singleR, refuse_ok]
  ill := by intro e he; simp [singleR, refuse_ill he]
  shape := by
    intro b h
    cases b with
    | nil => simp [singleR, refuse_ok]
    | cons x t =>
      unfold singleR at h ⊢
      simp only at h ⊢
      by_cases hx : x.toNat < lo ∨ hi < x.toNat
      · rw [if_pos hx, refuse_ok]
      · rw [if_neg hx] at h; exact absurd rfl h

/-- As many bytes. -/
def bytesR (n : Int) (r : Rd) : List UInt8 × Rd := if (r.rest.length : Int) < n then ([], r.refuse 30) else (r.rest.take n.toNat, ⟨r.rest.drop n.toNat, r.fault⟩)
theorem bytes_codec (n : Int) (h : 0 ≤ n) : Codec (bytesR n) (fun l => (l.length : Int) = n) (fun l => l) where
  there := by
    intro l r hl
    have e : n.toNat = l.length := by omega
    simp only [bytesR, List.length_append, e]
    rw [if_neg (by omega)]
    simp
  back := by
    intro b hb
    unfold bytesR at hb ⊢
    by_cases hx : ((⟨b, 0⟩ : Rd).rest.length : Int) < n
    · rw [if_pos hx, refuse_ok] at hb; simp at hb
    · rw [if_neg hx]
      simp only at hx ⊢
      exact ⟨by simp; omega, by simp⟩
  short := by
    intro l j hl hj
    simp only [bytesR]
    rw [if_pos (by simp; omega), refuse_ok]
  ill := by
    intro e he
    simp only [bytesR]
    split
    · exact refuse_ill he
    · simp
  shape := by
    intro b hb
    unfold bytesR at hb ⊢
    by_cases hx : ((⟨b, 0⟩ : Rd).rest.length : Int) < n
    · rw [if_pos hx, refuse_ok]
    · rw [if_neg hx] at hb; exact absurd rfl hb
theorem bytes_ill (n : Int) (e : Int) (he : e ≠ 0) : (bytesR n ⟨[], e⟩).2 = ⟨[], e⟩ := by
  simp only [bytesR]
  split
  · exact refuse_ill he
  · simp

/-- A length and as many bytes. -/
def textR (lo hi : Int) : Rd → ByteArray × Rd := mapped (andThen (numberR lo hi) bytesR) (fun p => ⟨p.2.toArray⟩)
def textE (s : ByteArray) : List UInt8 := putB s.size ++ s.data.toList
theorem text_codec (lo hi : Int) (h1 : 0 ≤ lo) (h2 : hi ≤ 9223372036854775807) : Codec (textR lo hi) (fun s => lo ≤ (s.size : Int) ∧ (s.size : Int) ≤ hi) textE := by
  refine ((number_codec lo hi (by omega) h2).andThen (fun n hn => bytes_codec n (by omega)) bytes_ill).mapped _ (fun s => ((s.size : Int), s.data.toList)) _ _ ?_ ?_
  · rintro ⟨n, l⟩ ⟨⟨a, b⟩, c⟩
    have e : (⟨l.toArray⟩ : ByteArray).size = l.length := by simp [ByteArray.size]
    simp only at a b c
    refine ⟨by simp only [e]; omega, ?_⟩
    simp only [textE, e, c]
  · intro s hs
    exact ⟨⟨hs, by simp only; rfl⟩, by simp⟩
end Go.Proofs.YtmdhacboegmccaaDoor
