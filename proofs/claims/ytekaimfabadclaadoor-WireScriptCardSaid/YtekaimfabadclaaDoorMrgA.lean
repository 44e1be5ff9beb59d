/- Texts put together: Spec, Forms, Codec, EvForm, Sum, Chars, Name, Fold, Row, Int, Text, AppVal, EvFault, Encode. -/
import Derived.Laws.RangeAny
import Derived.Laws.Strings
import Derived.Test.YtekaimfabadclaaDoorRows
import Derived.WalkKit
import Derived.WalkLawsBesides
import Derived.WalkSpells
import Derived.Lib.Hide
import Derived.Deep.LoopGhost
import Derived.Laws.Bits64
import Derived.Laws.Bits64b
import Derived.Laws.DeepNot64
import Derived.Deep.AppendLies
import Derived.Laws.AppendOwnNone
import Derived.Deep.DeepMust
import Derived.Deep.RegionHeld3
import Derived.Deep.RegionWith
import Derived.Deep.Cut
import Derived.Deep.DeepCutAuto
import Derived.Deep.QuietTactic
import Derived.BigQuiet
import Derived.Lib.AppendStr
import Derived.Outline
/- Plain functions and facts on bytes: what a name is. No program is named here. -/
namespace Go.Proofs.YtekaimfabadclaaDoor
open Go

/-- A digit, by its code. -/
def digI (c : Int) : Bool := decide (48 ≤ c) && decide (c ≤ 57)
/-- A letter or the underscore, by its code. -/
def lttrI (c : Int) : Bool := decide (97 ≤ c) && decide (c ≤ 122) || decide (65 ≤ c) && decide (c ≤ 90) || (c == 95)
/-- A byte of a word. -/
def wordByte (b : UInt8) : Bool := digI b.toNat || lttrI b.toNat
/-- How many bytes at the front make a word. -/
def wordLen (s : ByteArray) : Nat := (s.data.toList.takeWhile wordByte).length

theorem take_front {p : UInt8 → Bool} : ∀ (l : List UInt8) (n : Nat), (∀ i (h : i < l.length), i < n → p l[i] = true) → (∀ h : n < l.length, p l[n] = false) → n ≤ l.length → (l.takeWhile p).length = n
  | [], n, _, _, hn => by simp at hn; simp [hn]
  | b :: r, 0, _, h2, _ => by
    have := h2 (by simp)
    simp at this
    simp [List.takeWhile, this]
  | b :: r, n + 1, h1, h2, hn => by
    have hb : p b = true := h1 0 (by simp) (by omega)
    have := take_front r n (fun i h hi => h1 (i + 1) (by simp; omega) (by omega)) (fun h => h2 (by simp; omega)) (by simp at hn; omega)
    simp [List.takeWhile, hb, this]

theorem wordLen_eq (s : ByteArray) (n : Nat) (h1 : ∀ i (h : i < s.size), i < n → wordByte s[i] = true) (h2 : ∀ h : n < s.size, wordByte s[n] = false) (hn : n ≤ s.size) : wordLen s = n :=
  take_front s.data.toList n (fun i h hi => h1 i (by simpa using h) hi) (fun h => h2 (by simpa using h)) (by simpa using hn)

theorem wordLen_le (s : ByteArray) : wordLen s ≤ s.size := by
  have := (List.takeWhile_prefix wordByte (l := s.data.toList)).length_le
  simpa [wordLen] using this

theorem digI_high {c : Int} (h : 128 ≤ c) : digI c = false := by simp [digI]; omega
theorem lttrI_high {c : Int} (h : 128 ≤ c) : lttrI c = false := by simp [lttrI]; omega
theorem wordByte_high {b : UInt8} (h : 128 ≤ b.toNat) : wordByte b = false := by
  simp [wordByte, digI_high (c := b.toNat) (by omega), lttrI_high (c := b.toNat) (by omega)]

/-- Is the text one word? -/
def isWordB (s : ByteArray) : Bool := decide (0 < s.size) && decide (wordLen s = s.size)

/-- The words of the language, in the order of the table. -/
def resWords : List (List UInt8) := [[80, 65, 84, 84, 69, 82, 78], [83, 69, 81], [80, 65, 82, 84, 73, 84, 73, 79, 78], [66, 89], [87, 72, 69, 82, 69], [87, 73, 84, 72, 73, 78], [82, 69, 84, 85, 82, 78], [65, 78, 68], [79, 82], [78, 79, 84], [84, 82, 85, 69], [70, 65, 76, 83, 69], [84, 89, 80, 69], [73, 78, 84], [83, 84, 82], [66, 79, 79, 76]]
def resWord (k : Nat) : ByteArray := ⟨(resWords.getD k []).toArray⟩
/-- What the table's cells hold. -/
def resCells : Array Value := (resWords.map fun l => Value.string ⟨l.toArray⟩).toArray
/-- May the text be a name? -/
def nameB (s : ByteArray) : Bool := decide (s.size ≤ 32) && isWordB s && !digI (s.get! 0).toNat && !resWords.contains s.data.toList
/-- May an attribute have this name? -/
def attrNameB (s : ByteArray) : Bool := nameB s && !(s.data.toList == [116, 105, 109, 101])

/-- An attribute: its name and the number of its kind. -/
abbrev Attr := ByteArray × Int
/-- The cells of a list of attributes lie from an address on. -/
def AttrsAt (w : World) (ao : Option Addr) (l : List Attr) : Prop :=
  l = [] ∨ ∃ b o, ao = some ⟨b, o, none⟩ ∧ ∀ i (h : i < l.length), w.cell? ⟨b, o + i * 2, none⟩ = some (.string l[i].1) ∧ w.cell? ⟨b, o + i * 2 + 1, none⟩ = some (.int .i64 l[i].2)
/-- Has one of them this name? -/
def hasB (l : List Attr) (n : ByteArray) : Bool := l.any fun a => a.1.toList == n.toList

end Go.Proofs.YtekaimfabadclaaDoor
/- Plain functions and facts on bytes: a number's form, and how it is read. No program is named here. -/
namespace Go.Proofs.YtekaimfabadclaaDoor
open Go

/-- The number that is laid in groups. -/
def zz (n : Int) : Nat := if n < 0 then (-2 * n - 1).toNat else (2 * n).toNat
def unz (z : Nat) : Int := if z % 2 = 1 then -((z / 2 : Nat) : Int) - 1 else ((z / 2 : Nat) : Int)
/-- The groups of a number. -/
def putZ (z : Nat) : List UInt8 := if h : z < 128 then [UInt8.ofNat z] else UInt8.ofNat (z % 128 + 128) :: putZ (z / 128)
termination_by z
decreasing_by omega
/-- A number's form. -/
def putB (n : Int) : List UInt8 := putZ (zz n)
/-- The groups read: the number, how many bytes in all, the error. -/
def readZ : Nat → Nat → List UInt8 → Nat × Nat × Int
  | _, _, [] => (0, 0, 30)
  | i, a, x :: r =>
    if i = 9 ∧ 1 < x.toNat then (0, 0, 31)
    else if 128 ≤ x.toNat then readZ (i + 1) (a + x.toNat % 128 * 128 ^ i) r
    else if x.toNat = 0 ∧ 0 < i then (0, 0, 31)
    else (a + x.toNat % 128 * 128 ^ i, i + 1, 0)

theorem zz_unz (z : Nat) : zz (unz z) = z := by unfold zz unz; split <;> split <;> omega
theorem unz_zz (n : Int) : unz (zz n) = n := by unfold zz unz; split <;> split <;> omega
theorem zz_lt (n : Int) (h1 : -9223372036854775808 ≤ n) (h2 : n ≤ 9223372036854775807) : zz n < 2 ^ 64 := by unfold zz; split <;> omega
theorem unz_bd (z : Nat) (h : z < 2 ^ 64) : -9223372036854775808 ≤ unz z ∧ unz z ≤ 9223372036854775807 := by unfold unz; split <;> omega

theorem u8_of (n : Nat) (h : n < 256) : (UInt8.ofNat n).toNat = n := by simp; omega
theorem u8_eq {x : UInt8} {n : Nat} (h : x.toNat = n) : x = UInt8.ofNat n := by rw [← h]; simp

theorem pow_pos128 (i : Nat) : 1 ≤ 128 ^ i := Nat.pow_pos (by decide)
theorem pow128_succ (i : Nat) : 128 ^ (i + 1) = 128 * 128 ^ i := by rw [Nat.pow_succ, Nat.mul_comm]
theorem group_sum (z p : Nat) : z % 128 * p + z / 128 * (128 * p) = z * p := by
  have h := Nat.mod_add_div z 128
  rw [← Nat.mul_assoc, Nat.mul_comm (z / 128) 128, ← Nat.add_mul, h]

/-- What is written is read back, whatever stands behind. -/
theorem read_put : ∀ (z : Nat) (i a : Nat) (rest : List UInt8), i ≤ 9 → z * 128 ^ i < 2 ^ 64 → (0 < i → 0 < z) → readZ i a (putZ z ++ rest) = (a + z * 128 ^ i, i + (putZ z).length, 0) := by
  intro z
  induction z using Nat.strongRecOn with
  | ind z ih =>
    intro i a rest hi hz h0
    have hp := pow_pos128 i
    by_cases h : z < 128
    · have hx : (UInt8.ofNat z).toNat = z := u8_of z (by omega)
      have e : putZ z = [UInt8.ofNat z] := by rw [putZ, dif_pos h]
      rw [e]
      simp only [List.cons_append, List.nil_append, readZ, hx, List.length_cons, List.length_nil]
      rw [if_neg, if_neg (by omega), if_neg (by omega), Nat.mod_eq_of_lt h]
      rintro ⟨rfl, h1⟩
      have : z * 128 ^ 9 ≥ 2 * 128 ^ 9 := Nat.mul_le_mul_right _ (by omega)
      omega
    · have hx : (UInt8.ofNat (z % 128 + 128)).toNat = z % 128 + 128 := u8_of _ (by omega)
      have e : putZ z = UInt8.ofNat (z % 128 + 128) :: putZ (z / 128) := by rw [putZ, dif_neg h]
      rw [e]
      have hi9 : i ≠ 9 := by
        rintro rfl
        have : z * 128 ^ 9 ≥ 128 * 128 ^ 9 := Nat.mul_le_mul_right _ (by omega)
        omega
      have hs := group_sum z (128 ^ i)
      simp only [List.cons_append, readZ, hx, List.length_cons]
      have e2 : (z % 128 + 128) % 128 = z % 128 := by omega
      rw [if_neg (by omega), if_pos (by omega), ih (z / 128) (by omega) (i + 1) _ rest (by omega) (by rw [pow128_succ]; omega) (by omega), e2, pow128_succ]
      refine Prod.ext ?_ (Prod.ext ?_ rfl)
      · show a + z % 128 * 128 ^ i + z / 128 * (128 * 128 ^ i) = a + z * 128 ^ i
        omega
      · show i + 1 + (putZ (z / 128)).length = i + ((putZ (z / 128)).length + 1)
        omega

/-- What is read is what would be written; fewer bytes end too early. -/
theorem read_back : ∀ (b : List UInt8) (i a v n : Nat), i ≤ 9 → readZ i a b = (v, n, 0) →
    ∃ z r, b = putZ z ++ r ∧ v = a + z * 128 ^ i ∧ z * 128 ^ i < 2 ^ 64 ∧ (0 < i → 0 < z) ∧ n = i + (putZ z).length ∧ ∀ j, j < (putZ z).length → readZ i a ((putZ z).take j) = (0, 0, 30) := by
  intro b
  induction b with
  | nil => intro i a v n _ h; simp [readZ] at h
  | cons x r ih =>
    intro i a v n hi h
    have hp := pow_pos128 i
    have hx8 : x.toNat < 256 := x.toNat_lt
    have hpow : 128 ^ i ≤ 128 ^ 9 := Nat.pow_le_pow_right (by decide) hi
    rw [readZ] at h
    by_cases h1 : i = 9 ∧ 1 < x.toNat
    · rw [if_pos h1] at h; simp at h
    rw [if_neg h1] at h
    by_cases h2 : 128 ≤ x.toNat
    · rw [if_pos h2] at h
      have hi9 : i ≠ 9 := fun e => h1 ⟨e, by omega⟩
      obtain ⟨z, r', hb, hv, hz, h0, hn, hj⟩ := ih (i + 1) _ v n (by omega) h
      have hz0 : 0 < z := h0 (by omega)
      have hd : (z * 128 + x.toNat % 128) / 128 = z := by omega
      have hm : (z * 128 + x.toNat % 128) % 128 = x.toNat % 128 := by omega
      have e : putZ (z * 128 + x.toNat % 128) = x :: putZ z := by
        rw [putZ, dif_neg (by omega), hd, hm]
        congr 1
        exact (u8_eq (by omega)).symm
      have hs := group_sum (z * 128 + x.toNat % 128) (128 ^ i)
      rw [hd, hm] at hs
      rw [pow128_succ] at hv hz
      refine ⟨z * 128 + x.toNat % 128, r', by rw [e, hb]; rfl, by omega, ?_, by omega, by rw [e, hn, List.length_cons]; omega, ?_⟩
      · have hi8 : 128 ^ i ≤ 128 ^ 8 := Nat.pow_le_pow_right (by decide) (by omega)
        have hzle : z * (128 * 128 ^ i) + x.toNat % 128 * 128 ^ i < 2 ^ 64 := by
          have hdv : 128 * 128 ^ i ∣ 2 ^ 64 ∨ i = 9 := by
            rcases Nat.lt_or_ge i 9 with h9 | h9
            · left
              rw [← pow128_succ]
              have e7 : (128 : Nat) = 2 ^ 7 := by decide
              rw [e7, ← Nat.pow_mul]
              exact Nat.pow_dvd_pow 2 (by omega)
            · omega
          rcases hdv with ⟨c, hc⟩ | h9
          · have hzc : z < c := by
              rw [hc, Nat.mul_comm] at hz
              exact Nat.lt_of_mul_lt_mul_left hz
            have hstep : (z + 1) * (128 * 128 ^ i) ≤ c * (128 * 128 ^ i) := Nat.mul_le_mul_right _ hzc
            have hlow : x.toNat % 128 * 128 ^ i < 128 * 128 ^ i := Nat.mul_lt_mul_of_pos_right (by omega) (by omega)
            rw [Nat.add_mul, Nat.one_mul] at hstep
            rw [hc, Nat.mul_comm (128 * 128 ^ i) c]
            omega
          · exact absurd h9 hi9
        omega
      · intro j hjl
        rw [e]
        cases j with
        | zero => rfl
        | succ j =>
          rw [List.take_succ_cons, readZ, if_neg h1, if_pos h2]
          exact hj j (by rw [e] at hjl; simp at hjl; omega)
    · rw [if_neg h2] at h
      by_cases h3 : x.toNat = 0 ∧ 0 < i
      · rw [if_pos h3] at h; simp at h
      · rw [if_neg h3] at h
        have e : putZ x.toNat = [x] := by rw [putZ, dif_pos (by omega)]; congr 1; simp
        have e1 := congrArg Prod.fst h
        have e2 := congrArg (fun q => q.2.1) h
        simp only at e1 e2
        rw [Nat.mod_eq_of_lt (by omega)] at e1
        refine ⟨x.toNat, r, by rw [e]; rfl, e1.symm, ?_, by omega, by rw [e]; simp; omega, ?_⟩
        · by_cases h9 : i = 9
          · subst h9
            have : x.toNat * 128 ^ 9 ≤ 1 * 128 ^ 9 := Nat.mul_le_mul_right _ (by omega)
            omega
          · have hi8 : 128 ^ i ≤ 128 ^ 8 := Nat.pow_le_pow_right (by decide) (by omega)
            have : x.toNat * 128 ^ i ≤ 127 * 128 ^ 8 := Nat.mul_le_mul (by omega) hi8
            omega
        · intro j hj
          rw [e] at hj ⊢
          obtain rfl : j = 0 := by simpa using hj
          rfl
theorem putZ_pos (z : Nat) : 0 < (putZ z).length := by rw [putZ]; split <;> simp
theorem putZ_len : ∀ (k z : Nat), z < 128 ^ (k + 1) → (putZ z).length ≤ k + 1
  | 0, z, h => by rw [putZ, dif_pos (by simpa using h)]; simp
  | k + 1, z, h => by
    rw [putZ]
    split
    · simp
    · have := putZ_len k (z / 128) (by rw [Nat.div_lt_iff_lt_mul (by decide), Nat.mul_comm, ← pow128_succ]; exact h)
      simp; omega
end Go.Proofs.YtekaimfabadclaaDoor
/- Reading with a first fault, as plain functions; what is written is read back, what is read is what would be written, less of it ends too early. No program is named here. -/
namespace Go.Proofs.YtekaimfabadclaaDoor
open Go

/-- Bytes that are left, and the first fault. -/
structure Rd where
  rest : List UInt8
  fault : Int
def Rd.refuse (r : Rd) (e : Int) : Rd := if r.fault = 0 then ⟨[], e⟩ else r
theorem refuse_ill {e e' : Int} (h : e ≠ 0) : (⟨[], e⟩ : Rd).refuse e' = ⟨[], e⟩ := by simp [Rd.refuse, h]
theorem refuse_ok (l : List UInt8) (e : Int) : (⟨l, 0⟩ : Rd).refuse e = ⟨[], e⟩ := by simp [Rd.refuse]

/-- A step that reads what is written. -/
structure Codec {α : Type} (f : Rd → α × Rd) (ok : α → Prop) (enc : α → List UInt8) : Prop where
  there : ∀ a r, ok a → f ⟨enc a ++ r, 0⟩ = (a, ⟨r, 0⟩)
  back : ∀ b, (f ⟨b, 0⟩).2.fault = 0 → ok (f ⟨b, 0⟩).1 ∧ b = enc (f ⟨b, 0⟩).1 ++ (f ⟨b, 0⟩).2.rest
  short : ∀ a j, ok a → j < (enc a).length → (f ⟨(enc a).take j, 0⟩).2 = ⟨[], 30⟩
  ill : ∀ e, e ≠ 0 → (f ⟨[], e⟩).2 = ⟨[], e⟩
  shape : ∀ b, (f ⟨b, 0⟩).2.fault ≠ 0 → (f ⟨b, 0⟩).2.rest = []

def andThen {α β : Type} (f : Rd → α × Rd) (g : α → Rd → β × Rd) (r : Rd) : (α × β) × Rd := (((f r).1, (g (f r).1 (f r).2).1), (g (f r).1 (f r).2).2)
theorem rd_eta {r : Rd} {l : List UInt8} {e : Int} (h1 : r.rest = l) (h2 : r.fault = e) : r = ⟨l, e⟩ := by cases r; simp_all

theorem Codec.andThen {α β : Type} {f : Rd → α × Rd} {okf : α → Prop} {encf : α → List UInt8} {g : α → Rd → β × Rd} {okg : α → β → Prop} {encg : α → β → List UInt8}
    (hf : Codec f okf encf) (hg : ∀ a, okf a → Codec (g a) (okg a) (encg a)) (hi : ∀ a e, e ≠ 0 → (g a ⟨[], e⟩).2 = ⟨[], e⟩) :
    Codec (andThen f g) (fun p => okf p.1 ∧ okg p.1 p.2) (fun p => encf p.1 ++ encg p.1 p.2) where
  there := by
    rintro ⟨a, b⟩ r ⟨h1, h2⟩
    have e := hf.there a (encg a b ++ r) h1
    simp only [Proofs.YtekaimfabadclaaDoor.andThen, List.append_assoc, e, (hg a h1).there b r h2]
  back := by
    intro b h
    by_cases hz : (f ⟨b, 0⟩).2.fault = 0
    · obtain ⟨h1, h2⟩ := hf.back b hz
      have e : (f ⟨b, 0⟩).2 = ⟨(f ⟨b, 0⟩).2.rest, 0⟩ := rd_eta rfl hz
      simp only [Proofs.YtekaimfabadclaaDoor.andThen] at h ⊢
      rw [e] at h ⊢
      obtain ⟨h3, h4⟩ := (hg _ h1).back _ h
      refine ⟨⟨h1, h3⟩, ?_⟩
      rw [List.append_assoc, ← h4]
      exact h2
    · exfalso
      have e : (f ⟨b, 0⟩).2 = ⟨[], (f ⟨b, 0⟩).2.fault⟩ := rd_eta (hf.shape b hz) rfl
      simp only [Proofs.YtekaimfabadclaaDoor.andThen] at h
      rw [e, hi _ _ hz] at h
      exact hz h
  short := by
    rintro ⟨a, b⟩ j ⟨h1, h2⟩ hj
    simp only [List.length_append] at hj
    simp only [Proofs.YtekaimfabadclaaDoor.andThen]
    by_cases hlt : j < (encf a).length
    · rw [List.take_append_of_le_length (by omega)]
      have e := hf.short a j h1 hlt
      rw [e, hi _ _ (by decide)]
    · rw [List.take_append, List.take_of_length_le (by omega)]
      have e := hf.there a ((encg a b).take (j - (encf a).length)) h1
      rw [e]
      exact (hg a h1).short b _ h2 (by omega)
  ill := by
    intro e he
    simp only [Proofs.YtekaimfabadclaaDoor.andThen]
    rw [hf.ill e he, hi _ e he]
  shape := by
    intro b h
    by_cases hz : (f ⟨b, 0⟩).2.fault = 0
    · obtain ⟨h1, h2⟩ := hf.back b hz
      have e : (f ⟨b, 0⟩).2 = ⟨(f ⟨b, 0⟩).2.rest, 0⟩ := rd_eta rfl hz
      simp only [Proofs.YtekaimfabadclaaDoor.andThen] at h ⊢
      rw [e] at h ⊢
      exact (hg _ h1).shape _ h
    · have e : (f ⟨b, 0⟩).2 = ⟨[], (f ⟨b, 0⟩).2.fault⟩ := rd_eta (hf.shape b hz) rfl
      simp only [Proofs.YtekaimfabadclaaDoor.andThen]
      rw [e, hi _ _ hz]

def mapped {α β : Type} (f : Rd → α × Rd) (m : α → β) (r : Rd) : β × Rd := (m (f r).1, (f r).2)
theorem Codec.mapped {α β : Type} {f : Rd → α × Rd} {ok : α → Prop} {enc : α → List UInt8} (hf : Codec f ok enc) (m : α → β) (u : β → α) (ok' : β → Prop) (enc' : β → List UInt8)
    (h1 : ∀ a, ok a → ok' (m a) ∧ enc' (m a) = enc a) (h2 : ∀ b, ok' b → ok (u b) ∧ m (u b) = b) : Codec (mapped f m) ok' enc' where
  there := by
    intro b r hb
    obtain ⟨h3, h4⟩ := h2 b hb
    have e : enc' b = enc (u b) := by rw [← (h1 _ h3).2, h4]
    simp only [Proofs.YtekaimfabadclaaDoor.mapped, e, hf.there _ r h3, h4]
  back := by
    intro b h
    obtain ⟨h3, h4⟩ := hf.back b h
    obtain ⟨h5, h6⟩ := h1 _ h3
    refine ⟨h5, ?_⟩
    show b = enc' (m (f ⟨b, 0⟩).1) ++ (f ⟨b, 0⟩).2.rest
    rw [h6]
    exact h4
  short := by
    intro b j hb hj
    obtain ⟨h3, h4⟩ := h2 b hb
    have e : enc' b = enc (u b) := by rw [← (h1 _ h3).2, h4]
    simp only [Proofs.YtekaimfabadclaaDoor.mapped, e]
    exact hf.short _ j h3 (by rw [← e]; exact hj)
  ill := fun e he => hf.ill e he
  shape := fun b h => hf.shape b h

/-- A number between two others. -/
def numberR (lo hi : Int) (r : Rd) : Int × Rd :=
  if (readZ 0 0 r.rest).2.2 = 0 then
    if unz (readZ 0 0 r.rest).1 < lo ∨ hi < unz (readZ 0 0 r.rest).1 then (0, r.refuse 31)
    else (unz (readZ 0 0 r.rest).1, ⟨r.rest.drop (readZ 0 0 r.rest).2.1, r.fault⟩)
  else (0, r.refuse (readZ 0 0 r.rest).2.2)
theorem number_codec (lo hi : Int) (h1 : -9223372036854775808 ≤ lo) (h2 : hi ≤ 9223372036854775807) : Codec (numberR lo hi) (fun n => lo ≤ n ∧ n ≤ hi) putB where
  there := by
    rintro n r ⟨a, b⟩
    have e := read_put (zz n) 0 0 r (by omega) (by have := zz_lt n (by omega) (by omega); simpa using this) (by omega)
    have e' : readZ 0 0 (putB n ++ r) = (zz n, (putB n).length, 0) := by unfold putB; rw [e]; simp
    simp only [numberR, e', if_true, unz_zz]
    rw [if_neg (by omega), List.drop_left]
  back := by
    intro b h
    unfold numberR at h ⊢
    simp only at h ⊢
    by_cases h0 : (readZ 0 0 b).2.2 = 0
    · rw [if_pos h0] at h ⊢
      by_cases hb : unz (readZ 0 0 b).1 < lo ∨ hi < unz (readZ 0 0 b).1
      · rw [if_pos hb, refuse_ok] at h; simp at h
      · rw [if_neg hb] at h ⊢
        obtain ⟨z, r, e1, e2, e3, _, e5, _⟩ := read_back b 0 0 (readZ 0 0 b).1 (readZ 0 0 b).2.1 (by omega) (Prod.ext rfl (Prod.ext rfl h0))
        have e2' : (readZ 0 0 b).1 = z := by rw [e2]; simp
        rw [e2'] at hb ⊢
        refine ⟨by simp only; omega, ?_⟩
        simp only [putB, zz_unz]
        rw [e5]
        conv => lhs; rw [e1]
        congr 1
        rw [e1]
        simp
    · rw [if_neg h0, refuse_ok] at h; exact absurd h h0
  short := by
    rintro n j ⟨a, b⟩ hj
    have e := read_put (zz n) 0 0 [] (by omega) (by have := zz_lt n (by omega) (by omega); simpa using this) (by omega)
    obtain ⟨z, r, e1, e2, e3, _, e5, e6⟩ := read_back _ 0 0 _ _ (by omega) e
    have hz : z = zz n := by simpa using e2.symm
    subst hz
    have e7 := e6 j hj
    unfold putB
    simp only [numberR, e7, refuse_ok]
    rfl
  ill := by intro e he; simp only [numberR, readZ, refuse_ill he]; rfl
  shape := by
    intro b h
    unfold numberR at h ⊢
    simp only at h ⊢
    split at h
    · split at h
      · rename_i h3 h4
        rw [if_pos h3, if_pos h4, refuse_ok]
      · exact absurd rfl h
    · rename_i h3
      rw [if_neg h3, refuse_ok]

/-- One byte between two others. -/
def singleR (lo hi : Nat) (r : Rd) : Nat × Rd :=
  match r.rest with
  | [] => (0, r.refuse 30)
  | x :: t => if x.toNat < lo ∨ hi < x.toNat then (0, r.refuse 31) else (x.toNat, ⟨t, r.fault⟩)
theorem single_codec (lo hi : Nat) (h : hi < 256) : Codec (singleR lo hi) (fun n => lo ≤ n ∧ n ≤ hi) (fun n => [UInt8.ofNat n]) where
  there := by
    rintro n r ⟨a, b⟩
    have e := u8_of n (by omega)
    simp only [singleR, List.cons_append, List.nil_append, e]
    rw [if_neg (by omega)]
  back := by
    intro b h
    cases b with
    | nil => simp [singleR, refuse_ok] at h
    | cons x t =>
      unfold singleR at h ⊢
      simp only at h ⊢
      by_cases hx : x.toNat < lo ∨ hi < x.toNat
      · rw [if_pos hx, refuse_ok] at h; simp at h
      · rw [if_neg hx]; exact ⟨by simp only; omega, by simp⟩
  short := by
    rintro n j _ hj
    obtain rfl : j = 0 := by simpa using hj
    simp [singleR, refuse_ok]
  ill := by intro e he; simp [singleR, refuse_ill he]
  shape := by
    intro b h
    cases b with
    | nil => simp [singleR, refuse_ok]
    | cons x t =>
      unfold singleR at h ⊢
      simp only at h ⊢
      by_cases hx : x.toNat < lo ∨ hi < x.toNat
      · rw [if_pos hx, refuse_ok]
      · rw [if_neg hx] at h; exact absurd rfl h

/-- As many bytes. -/
def bytesR (n : Int) (r : Rd) : List UInt8 × Rd := if (r.rest.length : Int) < n then ([], r.refuse 30) else (r.rest.take n.toNat, ⟨r.rest.drop n.toNat, r.fault⟩)
theorem bytes_codec (n : Int) (h : 0 ≤ n) : Codec (bytesR n) (fun l => (l.length : Int) = n) (fun l => l) where
  there := by
    intro l r hl
    have e : n.toNat = l.length := by omega
    simp only [bytesR, List.length_append, e]
    rw [if_neg (by omega)]
    simp
  back := by
    intro b hb
    unfold bytesR at hb ⊢
    by_cases hx : ((⟨b, 0⟩ : Rd).rest.length : Int) < n
    · rw [if_pos hx, refuse_ok] at hb; simp at hb
    · rw [if_neg hx]
      simp only at hx ⊢
      exact ⟨by simp; omega, by simp⟩
  short := by
    intro l j hl hj
    simp only [bytesR]
    rw [if_pos (by simp; omega), refuse_ok]
  ill := by
    intro e he
    simp only [bytesR]
    split
    · exact refuse_ill he
    · simp
  shape := by
    intro b hb
    unfold bytesR at hb ⊢
    by_cases hx : ((⟨b, 0⟩ : Rd).rest.length : Int) < n
    · rw [if_pos hx, refuse_ok]
    · rw [if_neg hx] at hb; exact absurd rfl hb
theorem bytes_ill (n : Int) (e : Int) (he : e ≠ 0) : (bytesR n ⟨[], e⟩).2 = ⟨[], e⟩ := by
  simp only [bytesR]
  split
  · exact refuse_ill he
  · simp

/-- A length and as many bytes. -/
def textR (lo hi : Int) : Rd → ByteArray × Rd := mapped (andThen (numberR lo hi) bytesR) (fun p => ⟨p.2.toArray⟩)
def textE (s : ByteArray) : List UInt8 := putB s.size ++ s.data.toList
theorem text_codec (lo hi : Int) (h1 : 0 ≤ lo) (h2 : hi ≤ 9223372036854775807) : Codec (textR lo hi) (fun s => lo ≤ (s.size : Int) ∧ (s.size : Int) ≤ hi) textE := by
  refine ((number_codec lo hi (by omega) h2).andThen (fun n hn => bytes_codec n (by omega)) bytes_ill).mapped _ (fun s => ((s.size : Int), s.data.toList)) _ _ ?_ ?_
  · rintro ⟨n, l⟩ ⟨⟨a, b⟩, c⟩
    have e : (⟨l.toArray⟩ : ByteArray).size = l.length := by simp [ByteArray.size]
    simp only at a b c
    refine ⟨by simp only [e]; omega, ?_⟩
    simp only [textE, e, c]
  · intro s hs
    exact ⟨⟨hs, by simp only; rfl⟩, by simp⟩
end Go.Proofs.YtekaimfabadclaaDoor
/- Values and events as bytes: plain functions and facts. No program is named here. -/
namespace Go.Proofs.YtekaimfabadclaaDoor
open Go

/-- A value: its kind, number, text, truth value. -/
structure Val where
  kind : Int
  int : Int
  str : ByteArray
  bool : Bool
def zeroVal : Val := ⟨0, 0, ⟨#[]⟩, false⟩
/-- May the value be? -/
def validB (a : Val) : Bool :=
  if a.kind = 1 then (a.str.toList == []) && !a.bool
  else if a.kind = 2 then (a.int == 0) && !a.bool && decide (a.str.size ≤ 256)
  else if a.kind = 3 then (a.int == 0) && (a.str.toList == [])
  else false
/-- May it be, its number being one of 64 bits? -/
def valOk (a : Val) : Prop := validB a = true ∧ -9223372036854775808 ≤ a.int ∧ a.int ≤ 9223372036854775807
/-- A value's form behind its kind. -/
def valTail (a : Val) : List UInt8 := if a.kind = 1 then putB a.int else if a.kind = 2 then textE a.str else if a.bool then [1] else [0]
def valE (a : Val) : List UInt8 := UInt8.ofNat a.kind.toNat :: valTail a

theorem str_nil {s : ByteArray} (h : (s.toList == []) = true) : s = ⟨#[]⟩ := by
  have h : s.toList = [] := by simpa using h
  rw [ByteArray.toList_eq] at h
  obtain ⟨⟨l⟩⟩ := s
  simp at h
  rw [h]

/-- What stands behind a kind. -/
def tailR (k : Nat) (r : Rd) : Val × Rd :=
  if k = 1 then mapped (numberR (-9223372036854775808) 9223372036854775807) (fun n => (⟨1, n, ⟨#[]⟩, false⟩ : Val)) r
  else if k = 2 then mapped (textR 0 256) (fun s => (⟨2, 0, s, false⟩ : Val)) r
  else if k = 3 then mapped (singleR 0 1) (fun n => (⟨3, 0, ⟨#[]⟩, n == 1⟩ : Val)) r
  else (⟨k, 0, ⟨#[]⟩, false⟩, r)
theorem tail_codec (k : Nat) (h : 1 ≤ k ∧ k ≤ 3) : Codec (tailR k) (fun a => a.kind = k ∧ valOk a) valTail := by
  have h' : k = 1 ∨ k = 2 ∨ k = 3 := by omega
  rcases h' with rfl | rfl | rfl
  · have e : tailR 1 = mapped (numberR (-9223372036854775808) 9223372036854775807) (fun n => (⟨1, n, ⟨#[]⟩, false⟩ : Val)) := by funext r; rfl
    rw [e]
    refine (number_codec _ _ (by omega) (by omega)).mapped _ (fun a => a.int) _ _ ?_ ?_
    · intro n hn
      exact ⟨⟨rfl, by simp [validB], hn.1, hn.2⟩, rfl⟩
    · rintro ⟨k, n, s, b⟩ ⟨h1, h2, h3, h4⟩
      simp only at h1 h2 h3 h4
      subst h1
      have hb : (s.toList == []) = true ∧ b = false := by simpa [validB] using h2
      exact ⟨⟨h3, h4⟩, by simp only [str_nil hb.1, hb.2]; rfl⟩
  · have e : tailR 2 = mapped (textR 0 256) (fun s => (⟨2, 0, s, false⟩ : Val)) := by funext r; rfl
    rw [e]
    refine (text_codec _ _ (by omega) (by omega)).mapped _ (fun a => a.str) _ _ ?_ ?_
    · intro s hs
      exact ⟨⟨rfl, by simp [validB]; omega, by simp, by simp⟩, rfl⟩
    · rintro ⟨k, n, s, b⟩ ⟨h1, h2, h3, h4⟩
      simp only at h1 h2 h3 h4
      subst h1
      have hb : (n = 0 ∧ b = false) ∧ s.size ≤ 256 := by simpa [validB] using h2
      exact ⟨by simp only; omega, by simp only [hb.1.1, hb.1.2]; rfl⟩
  · have e : tailR 3 = mapped (singleR 0 1) (fun n => (⟨3, 0, ⟨#[]⟩, n == 1⟩ : Val)) := by funext r; rfl
    rw [e]
    refine (single_codec _ _ (by omega)).mapped _ (fun a => if a.bool then 1 else 0) _ _ ?_ ?_
    · intro n hn
      have h' : n = 0 ∨ n = 1 := by omega
      rcases h' with rfl | rfl
      · exact ⟨⟨rfl, by simp [validB], by simp, by simp⟩, rfl⟩
      · exact ⟨⟨rfl, by simp [validB], by simp, by simp⟩, rfl⟩
    · rintro ⟨k, n, s, b⟩ ⟨h1, h2, h3, h4⟩
      simp only at h1 h2 h3 h4
      subst h1
      have hb : n = 0 ∧ (s.toList == []) = true := by simpa [validB] using h2
      refine ⟨by cases b <;> simp, ?_⟩
      simp only [str_nil hb.2, hb.1]
      cases b <;> rfl
theorem tail_ill (k : Nat) (e : Int) (he : e ≠ 0) : (tailR k ⟨[], e⟩).2 = ⟨[], e⟩ := by
  unfold tailR
  split
  · exact (number_codec (-9223372036854775808) 9223372036854775807 (by omega) (by omega)).ill e he
  · split
    · exact (text_codec 0 256 (by omega) (by omega)).ill e he
    · split
      · exact (single_codec 0 1 (by omega)).ill e he
      · rfl

/-- A value. -/
def valueR : Rd → Val × Rd := mapped (andThen (singleR 1 3) tailR) (fun p => p.2)
theorem value_codec : Codec valueR valOk valE := by
  refine ((single_codec 1 3 (by omega)).andThen (fun k hk => tail_codec k hk) tail_ill).mapped _ (fun a => (a.kind.toNat, a)) _ _ ?_ ?_
  · rintro ⟨k, a⟩ ⟨h1, h2, h3⟩
    simp only at h1 h2 h3
    refine ⟨h3, ?_⟩
    simp only [valE, h2]
    rfl
  · rintro ⟨k, n, s, b⟩ h
    have hk : k = 1 ∨ k = 2 ∨ k = 3 := by
      have := h.1
      unfold validB at this
      simp only at this
      split at this
      · exact Or.inl ‹_›
      · split at this
        · exact Or.inr (Or.inl ‹_›)
        · split at this
          · exact Or.inr (Or.inr ‹_›)
          · simp at this
    exact ⟨⟨by simp only; omega, by simp only; omega, h⟩, rfl⟩

/-- One behind the other. -/
def timesR {α : Type} (f : Rd → α × Rd) : Nat → Rd → List α × Rd
  | 0, r => ([], r)
  | n + 1, r => ((f r).1 :: (timesR f n (f r).2).1, (timesR f n (f r).2).2)
theorem times_ill {α : Type} {f : Rd → α × Rd} {ok : α → Prop} {enc : α → List UInt8} (hf : Codec f ok enc) : ∀ (n : Nat) (e : Int), e ≠ 0 → (timesR f n ⟨[], e⟩).2 = ⟨[], e⟩
  | 0, e, _ => rfl
  | n + 1, e, he => by
    show (timesR f n (f ⟨[], e⟩).2).2 = _
    rw [hf.ill e he]
    exact times_ill hf n e he
theorem times_codec {α : Type} {f : Rd → α × Rd} {ok : α → Prop} {enc : α → List UInt8} (hf : Codec f ok enc) : ∀ n : Nat, Codec (timesR f n) (fun l => l.length = n ∧ ∀ a ∈ l, ok a) (fun l => l.flatMap enc)
  | 0 => {
      there := by
        rintro l r ⟨h, _⟩
        obtain rfl := List.eq_nil_of_length_eq_zero h
        rfl
      back := fun b _ => ⟨⟨rfl, fun a ha => by cases ha⟩, rfl⟩
      short := by
        rintro l j ⟨h, _⟩ hj
        obtain rfl := List.eq_nil_of_length_eq_zero h
        simp at hj
      ill := fun e _ => rfl
      shape := fun b h => absurd rfl h }
  | n + 1 => by
      have h := hf.andThen (fun _ _ => times_codec hf n) (fun _ e he => times_ill hf n e he)
      have e : timesR f (n + 1) = mapped (andThen f (fun _ => timesR f n)) (fun p => p.1 :: p.2) := by funext r; rfl
      rw [e]
      cases n with
      | zero =>
        refine ⟨?_, ?_, ?_, ?_, ?_⟩
        · rintro l r ⟨h1, h2⟩
          match l, h1 with
          | [a], _ =>
            have := h.there (a, []) r ⟨h2 a (by simp), rfl, fun a ha => by cases ha⟩
            simp only [List.flatMap_cons, List.flatMap_nil, List.append_nil] at this ⊢
            simp only [Proofs.YtekaimfabadclaaDoor.mapped, this]
        · intro b hb
          obtain ⟨⟨h1, h2, h3⟩, h4⟩ := h.back b hb
          refine ⟨⟨by simp only [Proofs.YtekaimfabadclaaDoor.mapped, List.length_cons, h2], ?_⟩, ?_⟩
          · intro a ha
            simp only [Proofs.YtekaimfabadclaaDoor.mapped, List.mem_cons] at ha
            rcases ha with rfl | ha
            · exact h1
            · exact h3 a ha
          · simp only [Proofs.YtekaimfabadclaaDoor.mapped, List.flatMap_cons]
            exact h4
        · rintro l j ⟨h1, h2⟩ hj
          match l, h1 with
          | [a], _ =>
            have := h.short (a, []) j ⟨h2 a (by simp), rfl, fun a ha => by cases ha⟩ (by simpa using hj)
            simpa [Proofs.YtekaimfabadclaaDoor.mapped] using this
        · exact fun e he => h.ill e he
        · exact fun b hb => h.shape b hb
      | succ m =>
        refine ⟨?_, ?_, ?_, ?_, ?_⟩
        · rintro l r ⟨h1, h2⟩
          match l, h1 with
          | a :: t, h1 =>
            have := h.there (a, t) r ⟨h2 a (by simp), by simpa using h1, fun x hx => h2 x (by simp [hx])⟩
            simp only [List.flatMap_cons] at this ⊢
            simp only [Proofs.YtekaimfabadclaaDoor.mapped, this]
        · intro b hb
          obtain ⟨⟨h1, h2, h3⟩, h4⟩ := h.back b hb
          refine ⟨⟨by simp only [Proofs.YtekaimfabadclaaDoor.mapped, List.length_cons, h2], ?_⟩, ?_⟩
          · intro a ha
            simp only [Proofs.YtekaimfabadclaaDoor.mapped, List.mem_cons] at ha
            rcases ha with rfl | ha
            · exact h1
            · exact h3 a ha
          · simp only [Proofs.YtekaimfabadclaaDoor.mapped, List.flatMap_cons]
            exact h4
        · rintro l j ⟨h1, h2⟩ hj
          match l, h1 with
          | a :: t, h1 =>
            have := h.short (a, t) j ⟨h2 a (by simp), by simpa using h1, fun x hx => h2 x (by simp [hx])⟩ (by simpa using hj)
            simpa [Proofs.YtekaimfabadclaaDoor.mapped] using this
        · exact fun e he => h.ill e he
        · exact fun b hb => h.shape b hb

/-- A look at what was read. -/
def lookR (ok : Bool) (r : Rd) : Unit × Rd := ((), if ok then r else r.refuse 31)
theorem look_codec (ok : Bool) : Codec (lookR ok) (fun _ => ok = true) (fun _ => []) where
  there := by intro _ r h; simp [lookR, h]
  back := by
    intro b h
    unfold lookR at h ⊢
    cases ok
    · simp [refuse_ok] at h
    · exact ⟨rfl, rfl⟩
  short := by intro _ j _ hj; simp at hj
  ill := by intro e he; cases ok <;> simp [lookR, refuse_ill he]
  shape := by
    intro b h
    unfold lookR at h ⊢
    cases ok
    · simp [refuse_ok]
    · exact absurd rfl h
theorem look_ill (ok : Bool) (e : Int) (he : e ≠ 0) : (lookR ok ⟨[], e⟩).2 = ⟨[], e⟩ := (look_codec ok).ill e he

/-- An event. -/
structure Ev where
  ty : ByteArray
  time : Int
  vals : List Val
def zeroEv : Ev := ⟨⟨#[]⟩, 0, []⟩
def evOk (e : Ev) : Prop := nameB e.ty = true ∧ (0 ≤ e.time ∧ e.time ≤ 4611686018427387904) ∧ e.vals.length ≤ 16 ∧ ∀ v ∈ e.vals, valOk v
def evE (e : Ev) : List UInt8 := textE e.ty ++ (putB e.time ++ (putB e.vals.length ++ e.vals.flatMap valE))
def eventR : Rd → Ev × Rd :=
  mapped (andThen (textR 1 32) fun s => andThen (lookR (nameB s)) fun _ => andThen (numberR 0 4611686018427387904) fun _ => andThen (numberR 0 16) fun n => timesR valueR n.toNat) (fun p => ⟨p.1, p.2.2.1, p.2.2.2.2⟩)
theorem name_size {s : ByteArray} (h : nameB s = true) : 1 ≤ s.size ∧ s.size ≤ 32 := by
  unfold nameB isWordB at h
  simp only [Bool.and_eq_true, decide_eq_true_eq] at h
  exact ⟨h.1.1.2.1, h.1.1.1⟩
theorem andThen_ill {α β : Type} {f : Rd → α × Rd} {g : α → Rd → β × Rd} (hf : ∀ e, e ≠ 0 → (f ⟨[], e⟩).2 = ⟨[], e⟩) (hg : ∀ a e, e ≠ 0 → (g a ⟨[], e⟩).2 = ⟨[], e⟩) (e : Int) (he : e ≠ 0) : (andThen f g ⟨[], e⟩).2 = ⟨[], e⟩ := by
  show (g (f ⟨[], e⟩).1 (f ⟨[], e⟩).2).2 = _
  rw [hf e he]
  exact hg _ e he
theorem event_codec : Codec eventR evOk evE := by
  have hv := fun n : Int => times_codec value_codec n.toNat
  have hvi := fun (n : Int) => times_ill value_codec n.toNat
  have hn16 := number_codec 0 16 (by omega) (by omega)
  have hnt := number_codec 0 4611686018427387904 (by omega) (by omega)
  have h3 := hn16.andThen (fun n _ => hv n) hvi
  have i3 := andThen_ill hn16.ill hvi
  have h2 := hnt.andThen (fun _ _ => h3) (fun _ => i3)
  have i2 := andThen_ill hnt.ill (fun _ : Int => i3)
  have h1 := fun s : ByteArray => (look_codec (nameB s)).andThen (fun _ _ => h2) (fun _ => i2)
  have i1 := fun s : ByteArray => andThen_ill (look_ill (nameB s)) (fun _ : Unit => i2)
  have h0 := (text_codec 1 32 (by omega) (by omega)).andThen (fun s _ => h1 s) i1
  refine h0.mapped _ (fun e => (e.ty, (), e.time, (e.vals.length : Int), e.vals)) _ _ ?_ ?_
  · rintro ⟨s, u, t, n, l⟩ ⟨h1, h2, h3, h4, h5, h6⟩
    simp only at h1 h2 h3 h4 h5 h6
    have e : (l.length : Int) = n := by omega
    refine ⟨⟨h2, h3, by simp only; omega, h6⟩, ?_⟩
    simp only [evE, e]
    rfl
  · rintro ⟨s, t, l⟩ ⟨h1, h2, h3, h4⟩
    simp only at h1 h2 h3 h4
    have := name_size h1
    exact ⟨⟨by simp only; omega, h1, h2, by simp only; omega, by simp, h4⟩, rfl⟩

/-- A batch ahead of its sum. -/
def batchR : Rd → List Ev × Rd := mapped (andThen (numberR 0 1024) fun n => timesR eventR n.toNat) (fun p => p.2)
def batchE (l : List Ev) : List UInt8 := putB l.length ++ l.flatMap evE
theorem batch_codec : Codec batchR (fun l => l.length ≤ 1024 ∧ ∀ e ∈ l, evOk e) batchE := by
  refine ((number_codec 0 1024 (by omega) (by omega)).andThen (fun n _ => times_codec event_codec n.toNat) (fun n => times_ill event_codec n.toNat)).mapped _ (fun l => ((l.length : Int), l)) _ _ ?_ ?_
  · rintro ⟨n, l⟩ ⟨h1, h2, h3⟩
    simp only at h1 h2 h3
    have e : (l.length : Int) = n := by omega
    exact ⟨⟨by simp only; omega, h3⟩, by simp only [batchE, e]⟩
  · rintro l ⟨h1, h2⟩
    exact ⟨⟨by simp only; omega, by simp, h2⟩, rfl⟩
end Go.Proofs.YtekaimfabadclaaDoor
/- The sum of bytes, and damage: plain functions and facts. No program is named here. -/
namespace Go.Proofs.YtekaimfabadclaaDoor
open Go

/-- The two numbers. -/
def sumR (pq : Nat × Nat) (x : UInt8) : Nat × Nat := ((pq.1 + x.toNat) % 65521, (pq.2 + (pq.1 + x.toNat) % 65521) % 65521)
def sumPQ (l : List UInt8) : Nat × Nat := l.foldl sumR (1, 0)
def sumB (l : List UInt8) : List UInt8 := [UInt8.ofNat ((sumPQ l).2 / 256), UInt8.ofNat ((sumPQ l).2 % 256), UInt8.ofNat ((sumPQ l).1 / 256), UInt8.ofNat ((sumPQ l).1 % 256)]
theorem sumPQ_snoc (l : List UInt8) (x : UInt8) : sumPQ (l ++ [x]) = sumR (sumPQ l) x := by simp [sumPQ]
theorem sum_lt : ∀ (l : List UInt8) (p q : Nat), p < 65521 → q < 65521 → (l.foldl sumR (p, q)).1 < 65521 ∧ (l.foldl sumR (p, q)).2 < 65521
  | [], _, _, hp, hq => ⟨hp, hq⟩
  | x :: l, p, q, _, _ => sum_lt l _ _ (Nat.mod_lt _ (by decide)) (Nat.mod_lt _ (by decide))
theorem sumPQ_lt (l : List UInt8) : (sumPQ l).1 < 65521 ∧ (sumPQ l).2 < 65521 := sum_lt l 1 0 (by decide) (by decide)
theorem sumB_len (l : List UInt8) : (sumB l).length = 4 := rfl
theorem sumB_inj {l m : List UInt8} (h : sumB l = sumB m) : sumPQ l = sumPQ m := by
  have h1 := sumPQ_lt l
  have h2 := sumPQ_lt m
  unfold sumB at h
  simp only [List.cons.injEq, and_true] at h
  obtain ⟨a, b, c, d⟩ := h
  have a := congrArg UInt8.toNat a
  have b := congrArg UInt8.toNat b
  have c := congrArg UInt8.toNat c
  have d := congrArg UInt8.toNat d
  rw [u8_of _ (by omega), u8_of _ (by omega)] at a b c d
  exact Prod.ext (by omega) (by omega)
/-- From two states on: the first numbers differ as they did; the second ones too, if the first ones are alike. -/
theorem sum_first : ∀ (l : List UInt8) (p q p' q' : Nat), p < 65521 → p' < 65521 → p ≠ p' → (l.foldl sumR (p, q)).1 ≠ (l.foldl sumR (p', q')).1
  | [], _, _, _, _, _, _, h => h
  | x :: l, p, q, p', q', hp, hp', h => sum_first l _ _ _ _ (Nat.mod_lt _ (by decide)) (Nat.mod_lt _ (by decide)) (by simp only; omega)
theorem sum_second : ∀ (l : List UInt8) (p q q' : Nat), q < 65521 → q' < 65521 → q ≠ q' → (l.foldl sumR (p, q)).2 ≠ (l.foldl sumR (p, q')).2
  | [], _, _, _, _, _, h => h
  | x :: l, p, q, q', hq, hq', h => sum_second l _ _ _ (Nat.mod_lt _ (by decide)) (Nat.mod_lt _ (by decide)) (by simp only; omega)
/-- One byte another one. -/
theorem sum_turn (l m : List UInt8) (x y : UInt8) (h : x ≠ y) : sumPQ (l ++ x :: m) ≠ sumPQ (l ++ y :: m) := by
  intro e
  have hl := sumPQ_lt l
  have hx := x.toNat_lt
  have hy := y.toNat_lt
  have hn : x.toNat ≠ y.toNat := fun e => h (UInt8.toNat_inj.1 e)
  unfold sumPQ at e hl
  rw [List.foldl_append, List.foldl_append, List.foldl_cons, List.foldl_cons] at e
  refine sum_first m _ _ _ _ (Nat.mod_lt _ (by decide)) (Nat.mod_lt _ (by decide)) ?_ (congrArg Prod.fst e)
  omega
/-- Two neighbours exchanged. -/
theorem sum_swap (l m : List UInt8) (x y : UInt8) (h : x ≠ y) : sumPQ (l ++ x :: y :: m) ≠ sumPQ (l ++ y :: x :: m) := by
  intro e
  have hl := sumPQ_lt l
  have hx := x.toNat_lt
  have hy := y.toNat_lt
  have hn : x.toNat ≠ y.toNat := fun e => h (UInt8.toNat_inj.1 e)
  unfold sumPQ at e hl
  rw [List.foldl_append, List.foldl_append, List.foldl_cons, List.foldl_cons, List.foldl_cons, List.foldl_cons] at e
  obtain ⟨⟨p, q⟩, hpq⟩ : ∃ c, c = l.foldl sumR (1, 0) := ⟨_, rfl⟩
  rw [← hpq] at e hl
  simp only at hl
  have hp2 : ((p + x.toNat) % 65521 + y.toNat) % 65521 = ((p + y.toNat) % 65521 + x.toNat) % 65521 := by omega
  simp only [sumR, hp2] at e
  refine sum_second m _ _ _ (Nat.mod_lt _ (by decide)) (Nat.mod_lt _ (by decide)) ?_ (congrArg Prod.snd e)
  omega
end Go.Proofs.YtekaimfabadclaaDoor
/- Package schema: one character, and how many bytes at the front of a text make a word, for every text. -/
namespace Go.Proofs.YtekaimfabadclaaDoor
open Go Go.RowKit

theorem isDigit_any (c : Int) (w : World) : Calls Tryd.prog 87 #[.int .i32 c] w fun e w' => e = .returned (.bool (digI c)) ∧ w = w' := by
  by_cases h1 : 48 ≤ c <;> by_cases h2 : c ≤ 57
  all_goals
    go_enter Tryd.func87, Tryd.ntmps87
    go_wp2
    go_ret
    exact ⟨by simp [digI, h1, h2], rfl⟩

theorem isLetter_any (c : Int) (w : World) : Calls Tryd.prog 90 #[.int .i32 c] w fun e w' => e = .returned (.bool (lttrI c)) ∧ w = w' := by
  by_cases h1 : 97 ≤ c <;> by_cases h2 : c ≤ 122 <;> by_cases h3 : 65 ≤ c <;> by_cases h4 : c ≤ 90
  all_goals
    first
      | (exfalso; omega)
      | (go_enter Tryd.func90, Tryd.ntmps90
         go_wp2
         go_ret
         exact ⟨by simp [lttrI, h1, h2, h3, h4] <;> (intro h; omega), rfl⟩)

set_option maxRecDepth 100000 in
theorem wordLength_any (s : ByteArray) (w : World) : Calls Tryd.prog 89 #[.string s] w fun e w' => e = .returned (.int .i64 (wordLen s)) ∧ Below w.heap.size w w' := by
  go_enter Tryd.func89, Tryd.ntmps89
  go_wp2
  go_loopw [3] (fun _ w' => ∃ pos : Nat, w' = w.iter s pos ∧ pos ≤ s.size ∧ (∀ i (h : i < s.size), i < pos → wordByte s[i] = true)) (fun _ w' => s.size - w'.iterPos w.heap.size)
  case atStart => exact ⟨0, rfl, Nat.zero_le _, fun i _ hi => absurd hi (by omega)⟩
  case round =>
    obtain ⟨pos, rfl, hpos, hall⟩ := hrel
    have HA := Lib.hid hall
    clear hall
    by_cases hp : pos < s.size
    · by_cases hw : wordByte (s[pos]'hp) = true
      · have ha : (s[pos]'hp).toNat < 128 := by
          rcases Nat.lt_or_ge (s[pos]'hp).toNat 128 with h | h
          · exact h
          · rw [wordByte_high h] at hw; cases hw
        have hnx : ∀ ty, (Instr.next (.pointer (some ⟨w.heap.size, 0, none⟩)) true ty).run Tryd.prog (w.iter s pos) = _ := fun ty => run_next_ascii w s pos ty hp ha
        have HW := Lib.hid hw
        obtain ⟨c, hc⟩ : ∃ c : Nat, c = (s[pos]'hp).toNat := ⟨_, rfl⟩
        rw [← hc] at hnx
        have hd : digI (c : Int) = true ∨ (digI (c : Int) = false ∧ lttrI (c : Int) = true) := by
          rw [wordByte, ← hc] at hw
          cases h : digI (c : Int) <;> simp_all
        have HC := Lib.hid hc
        clear hc hw ha
        rcases hd with hd | ⟨hd, hl⟩
        all_goals
          go_wp2_with (first | (go_at_call 87; refine (isDigit_any _ _).mono ?_; rintro e w' ⟨rfl, rfl⟩) | (go_at_call 90; refine (isLetter_any _ _).mono ?_; rintro e w' ⟨rfl, rfl⟩))
          go_roundw
          case rel =>
            refine ⟨pos + 1, rfl, by omega, fun i h hi => ?_⟩
            rcases Nat.lt_or_ge i pos with h' | h'
            · exact HA.out i h h'
            · obtain rfl : i = pos := by omega
              exact HW.out
          case measure => simp; omega
      · obtain ⟨c, hc⟩ : ∃ c : Nat, c = (Utf8.decode s pos).1 := ⟨_, rfl⟩
        have hnx : ∀ ty, (Instr.next (.pointer (some ⟨w.heap.size, 0, none⟩)) true ty).run Tryd.prog (w.iter s pos) = _ := fun ty => run_next_any w s pos ty hp
        rw [← hc] at hnx
        have hd : digI (c : Int) = false ∧ lttrI (c : Int) = false := by
          by_cases ha : (s[pos]'hp).toNat < 128
          · rw [decode_ascii s pos hp ha] at hc
            simp only at hc
            subst hc
            simpa [wordByte] using hw
          · have := (decode_high s pos hp (by omega)).1
            exact ⟨digI_high (by omega), lttrI_high (by omega)⟩
        obtain ⟨hd, hl⟩ := hd
        have HE := Lib.hid (wordLen_eq s pos HA.out (fun _ => by simpa using hw) hpos)
        clear hc hw
        go_wp2_with (first | (go_at_call 87; refine (isDigit_any _ _).mono ?_; rintro e w' ⟨rfl, rfl⟩) | (go_at_call 90; refine (isLetter_any _ _).mono ?_; rintro e w' ⟨rfl, rfl⟩))
        go_ret
        exact ⟨by rw [HE.out]; rfl, (Below.refl _ _).alloc (Nat.le_refl _) _⟩
    · have hnx : ∀ ty, (Instr.next (.pointer (some ⟨w.heap.size, 0, none⟩)) true ty).run Tryd.prog (w.iter s pos) = _ := fun ty => run_next_end w s pos ty hp
      have HE := Lib.hid (wordLen_eq s s.size (fun i h hi => HA.out i h (by omega)) (fun h => absurd h (by omega)) (Nat.le_refl _))
      go_wp2
      go_ret
      exact ⟨by rw [HE.out]; rfl, (Below.refl _ _).alloc (Nat.le_refl _) _⟩
end Go.Proofs.YtekaimfabadclaaDoor
/- Package schema: whether a text is a word, a name, an attribute's name, for every text, over the table of the words of the language. -/
namespace Go.Proofs.YtekaimfabadclaaDoor
open Go Go.RowKit

/-- The table of the words of the language lies in its variable. -/
def ResAt (w : World) : Prop := ∃ t fr, w.heap[0]? = some (.cells resCells t fr)
theorem ResAt.lt {w : World} (h : ResAt w) : 0 < w.heap.size := by
  obtain ⟨t, fr, h⟩ := h
  exact (Array.getElem?_eq_some_iff.1 h).1
theorem ResAt.below {w w' : World} (h : ResAt w) (hb : Below w.heap.size w w') : ResAt w' := by
  have hl := h.lt
  obtain ⟨t, fr, h⟩ := h
  exact ⟨t, fr, (hb.block _ hl).trans h⟩

theorem ret_bool {a b : Bool} (h : a = b) : Ending.returned (.bool a) = .returned (.bool b) := by rw [h]

theorem isWord_any (s : ByteArray) (w : World) : Calls Tryd.prog 86 #[.string s] w fun e w' => e = .returned (.bool (isWordB s)) ∧ Below w.heap.size w w' := by
  by_cases h : s.size = 0
  · have h1 : s.toList = [] := by rw [ByteArray.toList_eq]; exact List.eq_nil_of_length_eq_zero (by simpa using h)
    have h2 : (s.toList == []) = true := by rw [h1]; rfl
    have HE := Lib.hid (show isWordB s = false by simp [isWordB, h])
    clear h1 h
    go_enter Tryd.func86, Tryd.ntmps86
    go_wp2_with fail
    go_ret
    exact ⟨ret_bool HE.out.symm, Below.refl _ _⟩
  · have h2 : (s.toList == []) = false := by
      rw [ByteArray.toList_eq, beq_eq_false_iff_ne]
      intro e
      exact h (by simpa using congrArg List.length e)
    have h3 : s.toList.isEmpty = false := by
      cases e : s.toList with
      | nil => rw [e] at h2; cases h2
      | cons a l => rfl
    have HE := Lib.hid (show ((wordLen s : Int) == s.size) = isWordB s by
      have h0 : 0 < s.size := by omega
      rw [Bool.eq_iff_iff]
      simp [isWordB, h0]
      omega)
    go_enter Tryd.func86, Tryd.ntmps86
    go_wp2_with (go_at_call 89; refine (wordLength_any _ _).mono ?_; rintro e w' ⟨rfl, hb⟩)
    go_ret
    exact ⟨ret_bool HE.out, hb⟩

theorem isWordB_pos {s : ByteArray} (h : isWordB s = true) : 0 < s.size := by simp [isWordB] at h; exact h.1

theorem res_index : ∀ k : Nat, k < 16 → ∀ w : World, (Instr.index 121 (.agg resCells) (.int .i64 k)).run Tryd.prog w = .ok (.string (resWord k)) w
  | 0, _, _ => by kernel_rfl | 1, _, _ => by kernel_rfl | 2, _, _ => by kernel_rfl | 3, _, _ => by kernel_rfl
  | 4, _, _ => by kernel_rfl | 5, _, _ => by kernel_rfl | 6, _, _ => by kernel_rfl | 7, _, _ => by kernel_rfl
  | 8, _, _ => by kernel_rfl | 9, _, _ => by kernel_rfl | 10, _, _ => by kernel_rfl | 11, _, _ => by kernel_rfl
  | 12, _, _ => by kernel_rfl | 13, _, _ => by kernel_rfl | 14, _, _ => by kernel_rfl | 15, _, _ => by kernel_rfl
  | n + 16, h, _ => by omega

set_option maxRecDepth 100000 in
theorem name_long (s : ByteArray) (w : World) (h1 : ¬ s.size ≤ 32) : Calls Tryd.prog 73 #[.string s] w fun e w' => e = .returned (.bool (nameB s)) ∧ Below w.heap.size w w' := by
  go_enter Tryd.func73, Tryd.ntmps73
  go_wp2_with (go_at_call 86; refine (isWord_any _ _).mono ?_; rintro e w' ⟨rfl, hb⟩)
  go_ret
  exact ⟨by simp [nameB, h1], Below.refl _ _⟩
set_option maxRecDepth 100000 in
theorem name_word (s : ByteArray) (w : World) (h1 : s.size ≤ 32) (h2 : isWordB s = false) : Calls Tryd.prog 73 #[.string s] w fun e w' => e = .returned (.bool (nameB s)) ∧ Below w.heap.size w w' := by
  have HE := Lib.hid (show nameB s = false by simp [nameB, h2])
  go_enter Tryd.func73, Tryd.ntmps73
  go_wp2_with (go_at_call 86; refine (isWord_any _ _).mono ?_; rintro e w' ⟨rfl, hb⟩)
  go_ret
  exact ⟨ret_bool HE.out.symm, hb⟩
set_option maxRecDepth 100000 in
theorem name_digit (s : ByteArray) (w : World) (h1 : s.size ≤ 32) (h2 : isWordB s = true) (h0 : 0 < s.size) (h3 : digI (s[0]'h0).toNat = true) : Calls Tryd.prog 73 #[.string s] w fun e w' => e = .returned (.bool (nameB s)) ∧ Below w.heap.size w w' := by
  have HE := Lib.hid (show nameB s = false by
    have e : s.get! 0 = s[0]'h0 := get_at s 0 h0
    simp [nameB, e, h3])
  have hb0 : (s[0]'h0).toNat < 256 := (s[0]'h0).toNat_lt
  go_enter Tryd.func73, Tryd.ntmps73
  go_wp2_with (first | (go_at_call 86; refine (isWord_any _ _).mono ?_; rintro e w' ⟨rfl, hb⟩) | (go_at_call 87; refine (isDigit_any _ _).mono ?_; rintro e w' ⟨rfl, rfl⟩))
  go_ret
  exact ⟨ret_bool HE.out.symm, hb⟩

theorem res_hit (s : ByteArray) (k : Nat) (hk : k < 16) (h : (s.toList == (resWord k).toList) = true) : resWords.contains s.data.toList = true := by
  rw [beq_iff_eq, ByteArray.toList_eq] at h
  have e : (resWord k).toList = resWords.getD k [] := by simp [resWord]
  have hl : k < resWords.length := by simpa [resWords] using hk
  have e2 : resWords.getD k [] = resWords[k]'hl := by simp [List.getD, List.getElem?_eq_getElem hl]
  rw [h, e, e2, List.contains_iff_mem]
  exact List.getElem_mem hl
theorem res_miss (s : ByteArray) (h : ∀ j, j < 16 → (s.toList == (resWord j).toList) = false) : resWords.contains s.data.toList = false := by
  rw [← Bool.not_eq_true, List.contains_iff_mem]
  intro hm
  obtain ⟨j, hj, e⟩ := List.getElem_of_mem hm
  have h16 : j < 16 := by simpa [resWords] using hj
  have := h j h16
  rw [beq_eq_false_iff_ne] at this
  apply this
  have e2 : (resWord j).toList = resWords.getD j [] := by simp [resWord]
  have e3 : resWords.getD j [] = resWords[j]'hj := by simp [List.getD, List.getElem?_eq_getElem hj]
  rw [e2, e3, e, ByteArray.toList_eq]
theorem nameB_res (s : ByteArray) (h1 : s.size ≤ 32) (h2 : isWordB s = true) (h0 : 0 < s.size) (h3 : digI (s[0]'h0).toNat = false) : nameB s = !resWords.contains s.data.toList := by
  have e : s.get! 0 = s[0]'h0 := get_at s 0 h0
  simp [nameB, e, h1, h2, h3]

set_option maxRecDepth 100000 in
theorem name_rest (s : ByteArray) (w : World) (hr : ResAt w) (h1 : s.size ≤ 32) (h2 : isWordB s = true) (h0 : 0 < s.size) (h3 : digI (s[0]'h0).toNat = false) : Calls Tryd.prog 73 #[.string s] w fun e w' => e = .returned (.bool (nameB s)) ∧ Below w.heap.size w w' := by
  have HI := Lib.hid res_index
  have HN := Lib.hid (nameB_res s h1 h2 h0 h3)
  have hb0 : (s[0]'h0).toNat < 256 := (s[0]'h0).toNat_lt
  go_enter Tryd.func73, Tryd.ntmps73
  go_wp2_with (first | (go_at_call 86; refine (isWord_any _ _).mono ?_; rintro e w' ⟨rfl, hb⟩; obtain ⟨tr, fr, hg⟩ := hr.below hb) | (go_at_call 87; refine (isDigit_any _ _).mono ?_; rintro e w' ⟨rfl, rfl⟩) | (refine wpList_load_row rfl 121 _ rfl 0 rfl _ _ _ _ hg Tryd.underlying121 rfl (by kernel_rfl) ?_))
  clear h3 hr
  have HB := Lib.hid hb
  clear hb
  go_loop [4, 20] (fun _ i => ∃ k : Nat, k ≤ 16 ∧ i = .int .i64 k ∧ ∀ j, j < k → (s.toList == (resWord j).toList) = false) (fun _ i => 16 - (intOf i).toNat)
  case atStart => exact ⟨0, Nat.zero_le _, rfl, fun j hj => absurd hj (by omega)⟩
  case round =>
    obtain ⟨k, hk, rfl, hall⟩ := hrel
    have HA := Lib.hid hall
    clear hall
    by_cases hlt : k < 16
    · have hix := HI.out k hlt
      by_cases heq : (s.toList == (resWord k).toList) = true
      · have HE := Lib.hid (show nameB s = false by rw [HN.out, res_hit s k hlt heq]; rfl)
        go_wp2
        go_ret
        exact ⟨ret_bool HE.out.symm, HB.out⟩
      · have heq' : (s.toList == (resWord k).toList) = false := by simpa using heq
        clear heq
        go_wp2
        go_round
        case rel =>
          refine ⟨k + 1, by omega, by go_num, fun j hj => ?_⟩
          rcases Nat.lt_or_ge j k with h' | h'
          · exact HA.out j h'
          · obtain rfl : j = k := by omega
            exact heq'
        case measure => simp [intOf]; omega
    · have HE := Lib.hid (show nameB s = true by rw [HN.out, res_miss s (fun j hj => HA.out j (by omega))]; rfl)
      go_wp2
      go_ret
      exact ⟨ret_bool HE.out.symm, HB.out⟩

/-- Name, for every text. -/
theorem name_any (s : ByteArray) (w : World) (hr : ResAt w) : Calls Tryd.prog 73 #[.string s] w fun e w' => e = .returned (.bool (nameB s)) ∧ Below w.heap.size w w' := by
  by_cases h1 : s.size ≤ 32
  · cases h2 : isWordB s
    · exact name_word s w h1 h2
    · have h0 := isWordB_pos h2
      cases h3 : digI (s[0]'h0).toNat
      · exact name_rest s w hr h1 h2 h0 h3
      · exact name_digit s w h1 h2 h0 h3
  · exact name_long s w h1

end Go.Proofs.YtekaimfabadclaaDoor
/- Package wire: fold and unfold, for every number. -/
namespace Go.Proofs.YtekaimfabadclaaDoor
open Go Go.RowKit

theorem xor_ones (b : Nat) (hb : b < 18446744073709551616) : 18446744073709551615 ^^^ b = 18446744073709551615 - b := by
  have h1 := BitVec.toNat_not (x := BitVec.ofNat 64 b)
  rw [BitVec.not_def, BitVec.toNat_xor, BitVec.toNat_allOnes, BitVec.toNat_ofNat, Nat.mod_eq_of_lt (by omega)] at h1
  omega
theorem not_u64 (b : Nat) (hb : b < 18446744073709551616) : bits .xor .u64 IntKind.u64.max (b : Int) = ((18446744073709551615 - b : Nat) : Int) := by
  rw [show IntKind.u64.max = ((18446744073709551615 : Nat) : Int) from by rfl, bits_xor_u64_nat _ _ (by omega) hb, xor_ones b hb]
theorem and_one (z : Nat) (h : z < 18446744073709551616) : bits .and .u64 (z : Int) 1 = ((z % 2 : Nat) : Int) := by
  have := bits_and_u64_nat z 1 h (by omega)
  rw [Nat.and_one_is_mod] at this
  exact this
theorem ret_i64 {a b : Int} (h : a = b) : Ending.returned (.int .i64 a) = .returned (.int .i64 b) := by rw [h]
theorem ret_u64 {a b : Int} (h : a = b) : Ending.returned (.int .u64 a) = .returned (.int .u64 b) := by rw [h]

set_option maxRecDepth 100000 in
theorem fold_any (n : Int) (w : World) (h1 : -9223372036854775808 ≤ n) (h2 : n ≤ 9223372036854775807) : Calls Tryd.prog 72 #[.int .i64 n] w fun e w' => e = .returned (.int .u64 (zz n : Nat)) ∧ w = w' := by
  by_cases hn : n < 0
  · obtain ⟨m, hm⟩ : ∃ m : Nat, (m : Int) = 18446744073709551616 + 2 * n := ⟨(18446744073709551616 + 2 * n).toNat, by omega⟩
    have hx : IntKind.u64.wrap (IntKind.u64.wrap n * 2) = (m : Int) := by rw [IntKind.wrap_u64, IntKind.wrap_u64]; omega
    have HN := Lib.hid (not_u64 m (by omega))
    have HM := Lib.hid hm
    clear hm
    have hs : ¬ IntKind.u64.signed = true := by decide
    go_enter Tryd.func72, Tryd.ntmps72
    go_wp2_with fail
    go_ret
    refine ⟨ret_u64 ?_, rfl⟩
    rw [HN.out]
    have := HM.out
    unfold zz
    rw [if_pos hn]
    omega
  · go_enter Tryd.func72, Tryd.ntmps72
    go_wp2_with fail
    go_ret
    refine ⟨ret_u64 ?_, rfl⟩
    unfold zz
    rw [if_neg (by omega)]
    omega
set_option maxRecDepth 100000 in
theorem unfold_any (z : Nat) (w : World) (h : z < 2 ^ 64) : Calls Tryd.prog 46 #[.int .u64 z] w fun e w' => e = .returned (.int .i64 (unz z)) ∧ w = w' := by
  have hs : IntKind.i64.signed = true := by decide
  by_cases hn : z % 2 = 1
  · have hb : (bits .and .u64 (z : Int) 1 == 1) = true := by rw [and_one z h, hn]; rfl
    have HN := Lib.hid (i64_not (z / 2) (by omega))
    have HZ := Lib.hid hn
    clear hn
    go_enter Tryd.func46, Tryd.ntmps46
    go_wp2_with fail
    go_ret
    refine ⟨ret_i64 ?_, rfl⟩
    unfold unz
    rw [if_pos HZ.out]
    have := HN.out
    rw [show ((z : Int) / 2) = ((z / 2 : Nat) : Int) from by omega, this]
    omega
  · have hb : (bits .and .u64 (z : Int) 1 == 1) = false := by rw [and_one z h, show z % 2 = 0 from by omega]; rfl
    have HZ := Lib.hid hn
    clear hn
    go_enter Tryd.func46, Tryd.ntmps46
    go_wp2_with fail
    go_ret
    refine ⟨ret_i64 ?_, rfl⟩
    unfold unz
    rw [if_neg HZ.out]
    omega
end Go.Proofs.YtekaimfabadclaaDoor
/- A slice of bytes that the call owns, handed on and appended to. -/
namespace Go.Proofs.YtekaimfabadclaaDoor
open Go Go.RowKit

def bytesC (l : List UInt8) : List Value := l.map fun b => Value.int .u8 (b.toNat : Int)
theorem bytesC_len (l : List UInt8) : (bytesC l).length = l.length := by simp [bytesC]
theorem bytesC_append (l m : List UInt8) : bytesC (l ++ m) = bytesC l ++ bytesC m := by simp [bytesC]
theorem bytesC_get (l : List UInt8) (i : Nat) (h : i < l.length) : (bytesC l)[i]? = some (.int .u8 (l[i].toNat : Int)) := by simp [bytesC, h]
theorem bytesC_one (l : List UInt8) : ∀ u ∈ bytesC l, u.oneCell' = true := by
  intro u hu
  unfold bytesC at hu
  rw [List.mem_map] at hu
  obtain ⟨b, _, rfl⟩ := hu
  rfl
theorem Tryd.infoU8 : (Tryd.prog.info? 5).map (fun i => (i.zero, i.size, i.bytes)) = some (some (.int .u8 0), 1, 1) := by kernel_rfl
theorem grownBy_trans {a b c : World} {r s : Option Nat} (h : a.grownBy b r) (k : b.grownBy c s) (hs : s = r ∨ ∀ g, s = some g → a.heap.size ≤ g) : a.grownBy c r :=
  ⟨k.os.trans h.os, k.tape.trans h.tape, k.output.trans h.output, Nat.le_trans h.size k.size, fun i hi hr => (k.block i (Nat.lt_of_lt_of_le hi h.size) (by
    rcases hs with rfl | hs
    · exact hr
    · intro e; have := hs i e.symm; omega)).trans (h.block i hi hr)⟩
theorem grownBy_refl (w : World) (r : Option Nat) : w.grownBy w r := ⟨rfl, rfl, rfl, Nat.le_refl _, fun _ _ _ => rfl⟩
theorem grownBy_of_below {w w' : World} (h : Below w.heap.size w w') (r : Option Nat) : w.grownBy w' r := ⟨h.os, h.tape, h.output, h.size, fun k hk _ => h.block k hk⟩

/-- The row of v in w has become the row of v' in w', which holds l; nothing else has turned, but for what is new. -/
structure Ext8 (B : Nat) (w : World) (v : Value) (w' : World) (v' : Value) (l : List UInt8) : Prop where
  own : w'.ownsRow B 5 1 v' l.length (bytesC l)
  grown : w.grownBy w' v.ownBlock
  row : v'.ownBlock = v.ownBlock ∨ ∃ g, w.heap.size ≤ g ∧ v'.ownBlock = some g
theorem Ext8.refl {B : Nat} {w : World} {v : Value} {l : List UInt8} (h : w.ownsRow B 5 1 v l.length (bytesC l)) : Ext8 B w v w v l := ⟨h, grownBy_refl _ _, Or.inl rfl⟩
theorem Ext8.trans {B : Nat} {a b c : World} {u v x : Value} {l m : List UInt8} (h : Ext8 B a u b v l) (k : Ext8 B b v c x m) : Ext8 B a u c x m := by
  refine ⟨k.own, grownBy_trans h.grown k.grown ?_, ?_⟩
  · rcases h.row with e | ⟨g, hg, e⟩
    · exact Or.inl e
    · exact Or.inr (fun g' e' => by rw [e] at e'; cases e'; exact hg)
  · rcases k.row with e | ⟨g, hg, e⟩
    · rw [e]; exact h.row
    · exact Or.inr ⟨g, Nat.le_trans h.grown.size hg, e⟩
/-- What is done beside it, in new memory alone. -/
theorem Ext8.pre {B : Nat} {a b c : World} {v x : Value} {m : List UInt8} (h : Below a.heap.size a b) (k : Ext8 B b v c x m) : Ext8 B a v c x m :=
  ⟨k.own, grownBy_trans (grownBy_of_below h _) k.grown (Or.inl rfl), by
    rcases k.row with e | ⟨g, hg, e⟩
    · exact Or.inl e
    · exact Or.inr ⟨g, Nat.le_trans h.size hg, e⟩⟩
theorem Ext8.post {B : Nat} {a b c : World} {v x : Value} {m : List UInt8} (k : Ext8 B a v b x m) (h : Below b.heap.size b c) : Ext8 B a v c x m :=
  ⟨by
    obtain ⟨h1, h2⟩ := k.own
    refine ⟨h1, ?_⟩
    rcases h2 with h2 | ⟨g, cap, cur, hv, hg, hh, r⟩
    · exact Or.inl h2
    · exact Or.inr ⟨g, cap, cur, hv, hg, (h.block g (Array.getElem?_eq_some_iff.1 hh).1).trans hh, r⟩, grownBy_trans k.grown (grownBy_of_below h v.ownBlock) (Or.inl rfl), k.row⟩
theorem owns_below {w w' : World} {base : Nat} {e : TypeId} {size : Nat} {v : Value} {n : Nat} {xs : List Value} (h : w.ownsRow base e size v n xs) (hb : Below w.heap.size w w') : w'.ownsRow base e size v n xs := by
  obtain ⟨h1, h2⟩ := h
  refine ⟨h1, ?_⟩
  rcases h2 with h2 | ⟨g, cap, cur, hv, hg, hh, r⟩
  · exact Or.inl h2
  · exact Or.inr ⟨g, cap, cur, hv, hg, (hb.block g (Array.getElem?_eq_some_iff.1 hh).1).trans hh, r⟩
/-- Behind an append of what lies in a new block. -/
theorem Ext8.app {B : Nat} {w w7 : World} {v : Value} {l m : List UInt8} {o : Obj} {g cap k : Nat} (hk : k = l.length + m.length) (ho : w7.ownsRow B 5 1 (.slice (some ⟨g, 0, none⟩) k cap) k (bytesC l ++ bytesC m)) (hg : (w.alloc o).grownBy w7 v.ownBlock) (ha : v.ownBlock = some g ∨ g = (w.alloc o).heap.size) : Ext8 B w v w7 (.slice (some ⟨g, 0, none⟩) k cap) (l ++ m) := by
  subst hk
  refine ⟨?_, grownBy_trans (World.grownBy_alloc w o v.ownBlock) hg (Or.inl rfl), ?_⟩
  · rw [bytesC_append, List.length_append]; exact ho
  · rcases ha with ha | ha
    · exact Or.inl (by rw [ha]; rfl)
    · exact Or.inr ⟨g, by rw [ha]; simp, rfl⟩
theorem or128 : ∀ x : Fin 256, bits BinOp.or IntKind.u8 (x.val : Int) 128 = ((x.val % 128 + 128 : Nat) : Int) := by decide +kernel
theorem or_u8 (z : Nat) : bits BinOp.or IntKind.u8 ((z : Int) % 256) 128 = (((UInt8.ofNat (z % 128 + 128)).toNat : Nat) : Int) := by
  have h := or128 ⟨z % 256, Nat.mod_lt _ (by decide)⟩
  have e : (z : Int) % 256 = ((z % 256 : Nat) : Int) := by omega
  rw [e]
  simp only at h
  rw [h, u8_of _ (by omega)]
  congr 1
  omega
theorem putZ_small {z : Nat} (h : z < 128) : putZ z = [UInt8.ofNat z] := by rw [putZ, dif_pos h]
theorem putZ_big {z : Nat} (h : ¬ z < 128) : putZ z = UInt8.ofNat (z % 128 + 128) :: putZ (z / 128) := by rw [putZ, dif_neg h]
theorem putZ_le (z : Nat) (h : z < 2 ^ 64) : (putZ z).length ≤ 10 := putZ_len 9 z (by omega)
theorem putB_le (n : Int) (h1 : -9223372036854775808 ≤ n) (h2 : n ≤ 9223372036854775807) : (putB n).length ≤ 10 := putZ_le _ (zz_lt n h1 h2)

set_option maxHeartbeats 8000000 in
set_option maxRecDepth 100000 in
theorem appendInt_any (B : Nat) (v : Value) (l : List UInt8) (n : Int) (w : World) (hown : w.ownsRow B 5 1 v l.length (bytesC l)) (hl : l.length ≤ 1000000000) (hB : B ≤ w.heap.size) (h1 : -9223372036854775808 ≤ n) (h2 : n ≤ 9223372036854775807) :
    Calls Tryd.prog 45 #[v, .int .i64 n] w fun e w' => ∃ v', e = .returned v' ∧ Ext8 B w v w' v' (l ++ putB n) := by
  obtain ⟨i0, hi0, hz0, hz1, hz2⟩ := info_parts Tryd.infoU8
  have HO := Lib.hid hown
  have hzl := zz_lt n h1 h2
  obtain ⟨z0, hz⟩ : ∃ z0, z0 = zz n := ⟨_, rfl⟩
  rw [← hz] at hzl
  have HZ := Lib.hid hz
  clear hz hown
  go_enter Tryd.func45, Tryd.ntmps45
  go_wp2_with fail
  refine (fold_any n w h1 h2).mono ?_; rintro e w1 ⟨rfl, rfl⟩
  rw [← HZ.out]
  go_wp2_with fail
  go_loopw [0, 5] (fun u i wr => ∃ (u' : Value) (z : Nat) (cur : List UInt8), u' = u ∧ i = .int .u64 z ∧ z < 2 ^ 64 ∧ Ext8 B w v wr u cur ∧ cur ++ putZ z = l ++ putZ z0) (fun _ i _ => (intOf i).toNat)
  case atStart => exact ⟨_, z0, l, rfl, rfl, hzl, Ext8.refl HO.out, rfl⟩
  case round =>
    obtain ⟨u', z, cur, rfl, rfl, hz64, hext, hcur⟩ := hrel
    have hlen := congrArg List.length hcur
    rw [List.length_append, List.length_append] at hlen
    have hz10 := putZ_le z0 hzl
    have hcl : cur.length ≤ 1000000010 := by omega
    have HE := Lib.hid hext
    have HC := Lib.hid hcur
    have hsz := hext.grown.size
    clear hext hcur hlen hz10
    by_cases hlt : z < 128
    · have HP := Lib.hid (putZ_small hlt)
      obtain ⟨x, hx⟩ : ∃ x, x = UInt8.ofNat z := ⟨_, rfl⟩
      rw [← hx] at HP
      obtain rfl : z = x.toNat := by rw [hx]; exact (u8_of z (by omega)).symm
      clear hx
      go_wp2_with (at_builtin; go_must (refine wpList_append_lies _ (by rfl) _ _ _ (by rfl) B 5 i0 _ 1 1 Tryd.underlying25 hi0 hz0 hz1 hz2 rfl (by omega) u' cur.length (bytesC cur) (by rfl) (HE.out.own.alloc _) ⟨_, 0, none⟩ 1 1 (bytesC [x]) (by rfl) (by rfl) (World.news_of_block (cs := #[.int .u8 (x.toNat : Int)]) (t := 5) (fr := (0, 0)) (heap_alloc_new _ _)) (bytesC_one _) (by omega) (by unfold maxLen; omega) (by omega) (by simp; omega) _ rfl ?_; intro g cap w7 hown7 hgrow7 hat7 hlt7))
      go_ret
      refine ⟨_, rfl, ?_⟩
      have h := HE.out.trans (Ext8.app rfl hown7 hgrow7 hat7)
      have e : cur ++ [x] = l ++ putB n := by rw [← HP.out, HC.out, HZ.out]; rfl
      rw [e] at h
      exact h
    · have hor := or_u8 z
      have HP := Lib.hid (putZ_big hlt)
      obtain ⟨x, hx⟩ : ∃ x, x = UInt8.ofNat (z % 128 + 128) := ⟨_, rfl⟩
      rw [← hx] at hor HP
      clear hx
      go_wp2_with (at_builtin; go_must (refine wpList_append_lies _ (by rfl) _ _ _ (by rfl) B 5 i0 _ 1 1 Tryd.underlying25 hi0 hz0 hz1 hz2 rfl (by omega) u' cur.length (bytesC cur) (by rfl) (HE.out.own.alloc _) ⟨_, 0, none⟩ 1 1 (bytesC [x]) (by rfl) (by rfl) (World.news_of_block (cs := #[.int .u8 (x.toNat : Int)]) (t := 5) (fr := (0, 0)) (heap_alloc_new _ _)) (bytesC_one _) (by omega) (by unfold maxLen; omega) (by omega) (by simp; omega) _ rfl ?_; intro g cap w7 hown7 hgrow7 hat7 hlt7))
      go_roundw
      case rel => exact ⟨_, z / 128, cur ++ [x], rfl, by go_num, by omega, HE.out.trans (Ext8.app rfl hown7 hgrow7 hat7), by rw [List.append_assoc]; have := HP.out; rw [List.singleton_append, ← this]; exact HC.out⟩
      case measure => simp [intOf]; omega
end Go.Proofs.YtekaimfabadclaaDoor
/- Package wire: PutInt, and Int over any bytes. -/
namespace Go.Proofs.YtekaimfabadclaaDoor
open Go Go.RowKit

theorem Ext8.fresh {B : Nat} {w w' : World} {v' : Value} {l : List UInt8} (h : Ext8 B w (.slice none 0 0) w' v' l) : Below w.heap.size w w' :=
  ⟨h.grown.os, h.grown.tape, h.grown.output, h.grown.size, fun k hk => h.grown.block k hk (by simp [Value.ownBlock])⟩
theorem owns_nil (w : World) (B : Nat) : w.ownsRow B 5 1 (.slice none 0 0) ([] : List UInt8).length (bytesC []) := World.ownsRow_nil _ _ _ _

set_option maxRecDepth 100000 in
theorem putInt_any (n : Int) (w : World) (h1 : -9223372036854775808 ≤ n) (h2 : n ≤ 9223372036854775807) :
    Calls Tryd.prog 14 #[.int .i64 n] w fun e w' => ∃ v', e = .returned v' ∧ Ext8 w.heap.size w (.slice none 0 0) w' v' (putB n) := by
  go_enter Tryd.func14, Tryd.ntmps14
  go_wp2_with fail
  refine (appendInt_any w.heap.size (.slice none 0 0) [] n w (owns_nil _ _) (by simp) (Nat.le_refl _) h1 h2).mono ?_; rintro e w1 ⟨v', rfl, hx⟩
  go_wp2_with fail
  go_ret
  exact ⟨_, rfl, hx⟩

/-- The cells of some bytes lie from an address on. -/
def BytesAt (w : World) (ao : Option Addr) (l : List UInt8) : Prop :=
  l = [] ∨ ∃ b o, ao = some ⟨b, o, none⟩ ∧ ∀ i (h : i < l.length), w.cell? ⟨b, o + i, none⟩ = some (.int .u8 (l[i].toNat : Int))
theorem BytesAt.below {w w' : World} {ao : Option Addr} {l : List UInt8} (h : BytesAt w ao l) (hb : Below w.heap.size w w') : BytesAt w' ao l := by
  rcases h with h | ⟨b, o, rfl, h⟩
  · exact Or.inl h
  · exact Or.inr ⟨b, o, rfl, fun i hi => by
      have hl := World.block_lt_of_cell? w _ (h i hi)
      exact (hb.cell (p := ⟨b, o + i, none⟩) hl).trans (h i hi)⟩
/-- What Int answers: the number, the bytes, the error. -/
def intB (l : List UInt8) : Int × Nat × Int := if (readZ 0 0 l).2.2 = 0 then (unz (readZ 0 0 l).1, (readZ 0 0 l).2.1, 0) else (0, 0, (readZ 0 0 l).2.2)
theorem not128 : ∀ x : Fin 256, bits BinOp.andNot IntKind.u8 (x.val : Int) 128 = ((x.val % 128 : Nat) : Int) := by decide +kernel
theorem andNot_u8 (x : UInt8) : bits BinOp.andNot IntKind.u8 (x.toNat : Int) 128 = ((x.toNat % 128 : Nat) : Int) := not128 ⟨x.toNat, x.toNat_lt⟩
theorem readZ_step (l : List UInt8) (k a : Nat) (hk : k < l.length) : readZ k a (l.drop k) = if k = 9 ∧ 1 < l[k].toNat then (0, 0, 31) else if 128 ≤ l[k].toNat then readZ (k + 1) (a + l[k].toNat % 128 * 128 ^ k) (l.drop (k + 1)) else if l[k].toNat = 0 ∧ 0 < k then (0, 0, 31) else (a + l[k].toNat % 128 * 128 ^ k, k + 1, 0) := by
  rw [List.drop_eq_getElem_cons hk, readZ]

theorem pow128 (k : Nat) : 128 ^ k = 2 ^ (7 * k) := by rw [Nat.pow_mul]
theorem or_step (a k : Nat) (x : UInt8) (hk : k ≤ 9) (ha : a < 128 ^ k) (h9 : k = 9 → x.toNat ≤ 1) : bits BinOp.or IntKind.u64 (a : Int) (IntKind.u64.wrap ((x.toNat : Int) % 128 * 2 ^ (7 * k))) = ((a + x.toNat % 128 * 128 ^ k : Nat) : Int) := by
  have hp : 128 ^ k ≤ 128 ^ 9 := Nat.pow_le_pow_right (by decide) hk
  have hb : x.toNat % 128 * 128 ^ k < 18446744073709551616 := by
    by_cases h : k = 9
    · subst h
      have h1 := h9 rfl
      have : x.toNat % 128 * 128 ^ 9 ≤ 1 * 128 ^ 9 := Nat.mul_le_mul_right _ (by omega)
      omega
    · have hp8 : 128 ^ k ≤ 128 ^ 8 := Nat.pow_le_pow_right (by decide) (by omega)
      have : x.toNat % 128 * 128 ^ k ≤ 127 * 128 ^ 8 := Nat.mul_le_mul (by omega) hp8
      omega
  have e : (x.toNat : Int) % 128 * 2 ^ (7 * k) = ((x.toNat % 128 * 128 ^ k : Nat) : Int) := by
    rw [pow128]
    push_cast
    rfl
  rw [e, IntKind.wrap_u64]
  have e2 : ((x.toNat % 128 * 128 ^ k : Nat) : Int) % 18446744073709551616 = ((x.toNat % 128 * 128 ^ k : Nat) : Int) := Int.emod_eq_of_lt (by omega) (by omega)
  rw [e2, bits_or_u64_nat _ _ (by omega) hb]
  have h := Nat.shiftLeft_add_eq_or_of_lt (b := a) (i := 7 * k) (by rw [← pow128]; exact ha) (x.toNat % 128)
  rw [Nat.shiftLeft_eq, ← pow128] at h
  rw [Nat.or_comm, ← h, Nat.add_comm]
theorem step_lt (a k : Nat) (x : UInt8) (ha : a < 128 ^ k) : a + x.toNat % 128 * 128 ^ k < 128 ^ (k + 1) := by
  rw [pow128_succ]
  have : x.toNat % 128 * 128 ^ k ≤ 127 * 128 ^ k := Nat.mul_le_mul_right _ (by omega)
  omega

set_option maxHeartbeats 8000000 in
set_option maxRecDepth 100000 in
theorem int_any (l : List UInt8) (ao : Option Addr) (cap : Nat) (w : World) (hb : BytesAt w ao l) (hl : l.length ≤ maxLen) :
    Calls Tryd.prog 15 #[.slice ao l.length cap] w fun e w' => e = .returned (.tuple #[.int .i64 (intB l).1, .int .i64 (intB l).2.1, .int .i64 (intB l).2.2]) ∧ w = w' := by
  unfold maxLen at hl
  have HB := Lib.hid hb
  clear hb
  go_enter Tryd.func15, Tryd.ntmps15
  go_wp2_with fail
  go_loop [5, 10] (fun z i => ∃ k a : Nat, k ≤ l.length ∧ k ≤ 9 ∧ a < 128 ^ k ∧ i = .int .i64 k ∧ z = .int .u64 a ∧ readZ k a (l.drop k) = readZ 0 0 l) (fun _ i => l.length - (intOf i).toNat)
  case atStart => exact ⟨0, 0, Nat.zero_le _, by omega, by omega, rfl, rfl, rfl⟩
  case round =>
    obtain ⟨k, a, hk, hk9, ha, rfl, rfl, hr⟩ := hrel
    have HR := Lib.hid hr
    clear hr
    by_cases hlt : k < l.length
    · obtain ⟨b, o, rfl, hc⟩ : ∃ b o, ao = some ⟨b, o, none⟩ ∧ ∀ i (h : i < l.length), w.cell? ⟨b, o + i, none⟩ = some (.int .u8 (l[i].toNat : Int)) := by
        rcases HB.out with h | h
        · rw [h] at hlt; simp at hlt
        · exact h
      have hck := hc k hlt
      have HS := Lib.hid (readZ_step l k a hlt)
      obtain ⟨x, hx⟩ : ∃ x, x = l[k] := ⟨_, rfl⟩
      rw [← hx] at hck HS
      have hx8 := x.toNat_lt
      have han := andNot_u8 x
      have HA := Lib.hid ha
      clear hc hx ha
      have HP := Lib.hid (pow_pos128 k)
      by_cases h9 : k = 9 ∧ 1 < x.toNat
      · have HE := Lib.hid (show readZ 0 0 l = (0, 0, 31) by rw [← HR.out, HS.out, if_pos h9])
        have hxb : decide ((1 : Int) < (x.toNat : Int)) = true := decide_eq_true (by omega)
        obtain ⟨rfl, h91⟩ := h9
        have h9b : (((9 : Nat) : Int) == 9) = true := rfl
        clear h91
        go_wp2_with fail
        go_ret3
        exact ⟨by unfold intB; rw [HE.out]; rfl, rfl⟩
      · have HOR := Lib.hid (or_step a k x hk9 HA.out (fun e => by omega))
        have hor := HOR.out
        have HLT := Lib.hid (step_lt a k x HA.out)
        obtain ⟨s, hs⟩ : ∃ s, s = a + x.toNat % 128 * 128 ^ k := ⟨_, rfl⟩
        rw [← hs] at hor HLT HS
        have HSS := Lib.hid hs
        have HN := Lib.hid h9
        clear hs
        have key : ∀ (c : Bool), (((k : Int) == 9) = true ∧ decide ((1 : Int) < (x.toNat : Int)) = false) ∨ ((k : Int) == 9) = false := by
          intro _
          by_cases e : k = 9
          · left
            exact ⟨beq_iff_eq.2 (by omega), decide_eq_false (by omega)⟩
          · right
            exact beq_eq_false_iff_ne.2 (by omega)
        have hs64 : s < 2 ^ 64 := by
          have h1 := HOR.out
          have h2 := HSS.out
          by_cases e : k = 9
          · have h3 : x.toNat ≤ 1 := by omega
            have h4 := HA.out
            subst e
            have : x.toNat % 128 * 128 ^ 9 ≤ 1 * 128 ^ 9 := Nat.mul_le_mul_right _ (by omega)
            omega
          · have h3 := HLT.out
            have hp8 : 128 ^ (k + 1) ≤ 128 ^ 9 := Nat.pow_le_pow_right (by decide) (by omega)
            omega
        clear h9
        rcases key true with ⟨q1, q2⟩ | q1
        all_goals
          clear key
          by_cases hx1 : 128 ≤ x.toNat
          · have HE := Lib.hid (show readZ (k + 1) s (l.drop (k + 1)) = readZ 0 0 l by rw [← HR.out, HS.out, if_neg HN.out, if_pos hx1])
            have hk8 : k ≤ 8 := by have := HN.out; omega
            go_wp2_with fail
            go_round
            case rel => exact ⟨k + 1, s, by omega, by omega, HLT.out, by go_num, rfl, HE.out⟩
            case measure => simp [intOf]; omega
          · by_cases hx0 : x.toNat = 0 ∧ 0 < k
            · have HE := Lib.hid (show readZ 0 0 l = (0, 0, 31) by rw [← HR.out, HS.out, if_neg HN.out, if_neg hx1, if_pos hx0])
              have b0 : ((x.toNat : Int) == 0) = true := by rw [hx0.1]; rfl
              have b1 : 0 < k := hx0.2
              clear hx0
              go_wp2_with fail
              go_ret3
              exact ⟨by unfold intB; rw [HE.out]; rfl, rfl⟩
            · have HE := Lib.hid (show readZ 0 0 l = (s, k + 1, 0) by rw [← HR.out, HS.out, if_neg HN.out, if_neg hx1, if_neg hx0])
              have b : ((x.toNat : Int) == 0) = false ∨ (((x.toNat : Int) == 0) = true ∧ ¬ 0 < k) := by
                by_cases e : x.toNat = 0
                · exact Or.inr ⟨beq_iff_eq.2 (by omega), by omega⟩
                · exact Or.inl (beq_eq_false_iff_ne.2 (by omega))
              clear hx0
              rcases b with b0 | ⟨b0, b1⟩
              all_goals
                go_wp2_with fail
                refine (unfold_any s w hs64).mono ?_; rintro e w' ⟨rfl, rfl⟩
                go_wp2_with fail
                go_ret3
                exact ⟨by unfold intB; rw [HE.out]; simp, rfl⟩
    · have HE := Lib.hid (show readZ 0 0 l = (0, 0, 30) by rw [← HR.out, List.drop_of_length_le (by omega)]; rfl)
      go_wp2_with fail
      go_ret3
      exact ⟨by unfold intB; rw [HE.out]; rfl, rfl⟩
end Go.Proofs.YtekaimfabadclaaDoor
/- Package wire: appendText and appendValue. -/
namespace Go.Proofs.YtekaimfabadclaaDoor
open Go Go.RowKit

section
variable {P : Program} (w : World)
/-- A string's bytes appended, and where the new slice lies. -/
theorem run_append_string_at (base : Nat) (t u ty e : TypeId) (i : TypeInfo) (ht : P.underlying t = some (.slice e)) (hu : P.underlying u = some .string) (hi : P.info? e = some i) (hz : i.zero = some (.int .u8 0))
    (hsize : i.size = 1) (hby : i.bytes = 1)
    (v : Value) (n : Nat) (xs : List Value) (hown : w.ownsRow base e 1 v n xs) (s : ByteArray)
    (h63 : n + s.size ≤ maxLen) (hbytes : n + s.size ≤ 140737488355328) (hbase : base ≤ w.heap.size) :
    ∃ v' w', (Builtin.append_ #[t, u] ty #[v, .string s]).run P w = .ok v' w' ∧ w'.ownsRow base e 1 v' (n + s.size) (xs ++ Lib.strCells s) ∧ w.grownBy w' v.ownBlock ∧ (v'.ownBlock = v.ownBlock ∨ v'.ownBlock = some w.heap.size) := by
  obtain ⟨v', w', hr, h2, h3, h4⟩ := Lib.run_append_own_string (P := P) w base t u ty e i ht hu hi hz hsize hby v n xs hown s h63 hbytes hbase
  refine ⟨v', w', hr, h2, h3, ?_⟩
  have hxl : xs.length = n := by simpa using hown.1
  unfold maxLen at h63
  rcases hown.2 with ⟨rfl, rfl⟩ | ⟨g, cap, cur, rfl, hbg, hg, hnc, hcm, hcs, htake⟩
  · by_cases hm : s.size = 0
    · have := h4.2 ⟨rfl, hm⟩
      rw [this]
      exact Or.inl rfl
    · have hr2 := run_append_nil_string (P := P) w t u ty e i (.int .u8 0) ht hu hi hz s (by omega) (by omega) (by rw [hby]; omega)
      rw [hr] at hr2
      injection hr2 with e1 _
      rw [e1]
      exact Or.inr rfl
  · by_cases hroom : n + s.size ≤ cap
    · have hcs' : cur.size = cap := by simpa using hcs
      have hr2 := Lib.run_append_room_string (P := P) w t u ty e i ht hu hi hsize g n cap cur hg s hroom (by omega)
      rw [hr] at hr2
      injection hr2 with e1 _
      rw [e1]
      exact Or.inl rfl
    · have holds : ∀ j u, xs[j]? = some u → w.cell? ((⟨g, 0, none⟩ : Addr).add j) = some u := hown.cells (g := g) rfl
      have hr2 := Lib.run_append_grow_string (P := P) w t u ty e i (.int .u8 0) ht hu hi hz ⟨g, 0, none⟩ n cap xs (by rw [hsize]; simpa using hxl) holds s (by omega) (by omega) (by rw [hby]; exact growslice_fits (by omega) (by omega))
      rw [hr] at hr2
      injection hr2 with e1 _
      rw [e1]
      exact Or.inr rfl
theorem wpList_append_string_at {ops : Array Oper} {rest : List Oper} {o : Oper} {a : Act} {Q : Exit → Act → World → Prop} (hgd : o.guard = none) (sl x : Operand) (t u : TypeId)
    (ho : o.op = .call { callee := .builtin .append, args := #[sl, x], argTypes := #[t, u] })
    (base : Nat) (e : TypeId) (i : TypeInfo) (ht : P.underlying t = some (.slice e)) (hu : P.underlying u = some .string) (hi : P.info? e = some i) (hz : i.zero = some (.int .u8 0))
    (hsize : i.size = 1) (hby : i.bytes = 1)
    (v : Value) (n : Nat) (xs : List Value) (hs : a.eval sl = v) (hown : w.ownsRow base e 1 v n xs) (s : ByteArray) (hx : a.eval x = .string s)
    (h63 : n + s.size ≤ maxLen) (hbytes : n + s.size ≤ 140737488355328) (hbase : base ≤ w.heap.size)
    (h : ∀ v' w', w'.ownsRow base e 1 v' (n + s.size) (xs ++ Lib.strCells s) → w.grownBy w' v.ownBlock → (v'.ownBlock = v.ownBlock ∨ v'.ownBlock = some w.heap.size) → wpList P ops Q rest (a.put o.dst v') w') : wpList P ops Q (o :: rest) a w := by
  refine wpList_plain hgd fun K hK => ?_
  obtain ⟨v', w', hr, h2, h3, h4⟩ := run_append_string_at (P := P) w base t u o.type e i ht hu hi hz hsize hby v n xs hown s h63 hbytes hbase
  unfold Oper.wp execOp
  simp only [ho, resolve, invoke, builtin, Sem.run_bind, Sem.run_pure, Result.andThen_ok, List.map_toArray, List.map_cons, List.map_nil, hs, hx, hr]
  exact hK _ _ (h v' w' h2 h3 h4)
end
theorem Ext8.appS {B : Nat} {w w7 : World} {v v' : Value} {l : List UInt8} {s : ByteArray} {k : Nat} (hk : k = l.length + s.size) (ho : w7.ownsRow B 5 1 v' k (bytesC l ++ Lib.strCells s)) (hg : w.grownBy w7 v.ownBlock) (ha : v'.ownBlock = v.ownBlock ∨ v'.ownBlock = some w.heap.size) : Ext8 B w v w7 v' (l ++ s.data.toList) := by
  subst hk
  refine ⟨?_, hg, ?_⟩
  · rw [bytesC_append, List.length_append]; exact ho
  · rcases ha with ha | ha
    · exact Or.inl ha
    · exact Or.inr ⟨_, Nat.le_refl _, ha⟩

set_option maxHeartbeats 8000000 in
set_option maxRecDepth 100000 in
theorem appendText_any (B : Nat) (v : Value) (l : List UInt8) (s : ByteArray) (w : World) (hown : w.ownsRow B 5 1 v l.length (bytesC l)) (hl : l.length ≤ 900000000) (hs : s.size ≤ 1000000) (hB : B ≤ w.heap.size) :
    Calls Tryd.prog 75 #[v, .string s] w fun e w' => ∃ v', e = .returned v' ∧ Ext8 B w v w' v' (l ++ textE s) := by
  obtain ⟨i0, hi0, hz0, hz1, hz2⟩ := info_parts Tryd.infoU8
  have HO := Lib.hid hown
  have hpl := putB_le (s.size : Int) (by omega) (by omega)
  clear hown
  go_enter Tryd.func75, Tryd.ntmps75
  go_wp2_with fail
  refine (appendInt_any B v l s.size w HO.out (by omega) hB (by omega) (by omega)).mono ?_; rintro e w1 ⟨v1, rfl, hx1⟩
  have HX := Lib.hid hx1
  have hll : (l ++ putB s.size).length ≤ 900000010 := by rw [List.length_append]; omega
  have hz1' := hx1.grown.size
  clear hx1
  go_wp2_with (at_builtin; go_must (refine wpList_append_string_at _ (by rfl) _ _ _ _ (by rfl) B 5 i0 Tryd.underlying25 Tryd.underlying9 hi0 hz0 hz1 hz2 v1 (l ++ putB s.size).length (bytesC (l ++ putB s.size)) (by rfl) HX.out.own s (by rfl) (by unfold maxLen; omega) (by omega) (by omega) ?_; intro v2 w7 hown7 hgrow7 hat7))
  go_ret
  refine ⟨_, rfl, ?_⟩
  have h := HX.out.trans (Ext8.appS rfl hown7 hgrow7 hat7)
  rw [List.append_assoc] at h
  exact h

/-- A value as it lies in memory, and as it is handed on. -/
def Val.v (a : Val) : Value := .agg #[.int .i64 a.kind, .int .i64 a.int, .string a.str, .bool a.bool]
end Go.Proofs.YtekaimfabadclaaDoor
/- Package wire: appendValue, for every value that may be. -/
namespace Go.Proofs.YtekaimfabadclaaDoor
open Go Go.RowKit

/-- The box of a value, and the row beside it. -/
structure BoxV (w0 w : World) (a : Val) : Prop where
  c0 : w.cell? ⟨w0.heap.size, 0, none⟩ = some (.int .i64 a.kind)
  c1 : w.cell? ⟨w0.heap.size, 1, none⟩ = some (.int .i64 a.int)
  c2 : w.cell? ⟨w0.heap.size, 2, none⟩ = some (.string a.str)
  c3 : w.cell? ⟨w0.heap.size, 3, none⟩ = some (.bool a.bool)
theorem BoxV.made (w : World) (a : Val) : BoxV w (w.alloc (Obj.cells #[.int .i64 a.kind, .int .i64 a.int, .string a.str, .bool a.bool] 95)) a := ⟨by simp, by simp, by simp, by simp⟩
theorem row_apart {w : World} {B : Nat} {v : Value} {n : Nat} {xs : List Value} (h : w.ownsRow B 5 1 v n xs) : some w.heap.size ≠ v.ownBlock := by
  intro e
  have := (h.lt _ e.symm).2
  omega
theorem BoxV.grown {w0 w w' : World} {a : Val} {row : Option Nat} (h : BoxV w0 w a) (hg : w.grownBy w' row) (hne : some w0.heap.size ≠ row) : BoxV w0 w' a :=
  ⟨hg.cell h.c0 hne, hg.cell h.c1 hne, hg.cell h.c2 hne, hg.cell h.c3 hne⟩

theorem valE_int0 : valE ⟨1, 0, ⟨#[]⟩, false⟩ = [1] ++ [0] := by
  unfold valE valTail putB
  rw [if_pos rfl, show zz 0 = 0 from rfl, putZ_small (by omega)]
  rfl
theorem valE_str0 : valE ⟨2, 0, ⟨#[]⟩, false⟩ = [2] ++ [0] := by
  unfold valE valTail textE putB
  rw [if_neg (by decide), if_pos rfl, show zz ((⟨#[]⟩ : ByteArray).size : Int) = 0 from rfl, putZ_small (by omega)]
  rfl
theorem valE_no : valE ⟨3, 0, ⟨#[]⟩, false⟩ = [3] ++ [0] := rfl
theorem valE_yes : valE ⟨3, 0, ⟨#[]⟩, true⟩ = [3] ++ [1] := rfl

set_option maxHeartbeats 8000000 in
set_option maxRecDepth 100000 in
theorem appendValue_int0 (B : Nat) (v : Value) (l : List UInt8)  (w : World) (hown : w.ownsRow B 5 1 v l.length (bytesC l)) (hl : l.length ≤ 800000000) (hB : B ≤ w.heap.size) :
    Calls Tryd.prog 76 #[v, (⟨1, 0, ⟨#[]⟩, false⟩ : Val).v] w fun e w' => ∃ v', e = .returned v' ∧ Ext8 B w v w' v' (l ++ valE ⟨1, 0, ⟨#[]⟩, false⟩) := by
  obtain ⟨i0, hi0, hz0, hz1, hz2⟩ := info_parts Tryd.infoU8
  simp only [Val.v]
  obtain ⟨W1, hW1⟩ : ∃ W1, W1 = w.alloc (Obj.cells #[.int .i64 1, .int .i64 0, .string ⟨#[]⟩, .bool false] 95) := ⟨_, rfl⟩
  have hb1 : Below w.heap.size w W1 := by rw [hW1]; exact (Below.refl _ _).alloc (Nat.le_refl _) _
  have HB1 := Lib.hid hb1
  have HO1 := Lib.hid (owns_below hown hb1)
  have HBX := Lib.hid (show BoxV w W1 ⟨1, 0, ⟨#[]⟩, false⟩ by rw [hW1]; exact BoxV.made w ⟨1, 0, ⟨#[]⟩, false⟩)
  have hap := row_apart hown
  have hsz1 : w.heap.size < W1.heap.size := by rw [hW1]; simp
  have c0 := HBX.out.c0
  simp only at c0
  have HW1 := Lib.hid hW1
  clear hown hb1 hW1
  go_enter Tryd.func76, Tryd.ntmps76
  go_upto_region 1 with fail
  rw [← HW1.out]
  go_upto_region 2 with (at_builtin; go_must (refine wpList_append_lies _ (by rfl) _ _ _ (by rfl) B 5 i0 _ 1 1 Tryd.underlying25 hi0 hz0 hz1 hz2 rfl (by omega) v l.length (bytesC l) (by rfl) (HO1.out.alloc _) ⟨_, 0, none⟩ 1 1 (bytesC [1]) (by rfl) (by rfl) (World.news_of_block (cs := #[.int .u8 1]) (t := 5) (fr := (0, 0)) (heap_alloc_new _ _)) (bytesC_one _) (by omega) (by unfold maxLen; omega) (by omega) (by simp; omega) _ rfl ?_; intro g cap w7 hown7 hgrow7 hat7 hlt7; have HX := Lib.hid (Ext8.app (m := [1]) rfl hown7 hgrow7 hat7); have hbx := (HBX.out.grown (World.grownBy_alloc W1 (Obj.cells #[Value.int IntKind.u8 1] 5) none) (by simp)).grown hgrow7 hap; have d0 := hbx.c0; have d1 := hbx.c1; have d2 := hbx.c2; have d3 := hbx.c3; simp only at d0 d1 d2 d3; have z7 : W1.heap.size < w7.heap.size := Nat.lt_of_lt_of_le (by simp) hgrow7.size; clear hown7 hgrow7 hat7 hbx))
  have hll : (l ++ [(1 : UInt8)]).length = l.length + 1 := by simp
  have HLL := Lib.hid hll
  have hlb : (l ++ [(1 : UInt8)]).length ≤ 800000001 := by omega
  clear hll
  go_wp2_with (at_builtin; go_must (refine wpList_append_lies _ (by rfl) _ _ _ (by rfl) B 5 i0 _ 1 1 Tryd.underlying25 hi0 hz0 hz1 hz2 rfl (by omega) (.slice (some ⟨g, 0, none⟩) (l.length + 1) cap) (l ++ [1]).length (bytesC (l ++ [1])) (by first | rfl | (rw [HLL.out])) (HX.out.own.alloc _) ⟨_, 0, none⟩ 1 1 (bytesC [0]) (by rfl) (by rfl) (World.news_of_block (cs := #[.int .u8 0]) (t := 5) (fr := (0, 0)) (heap_alloc_new _ _)) (bytesC_one _) (by omega) (by unfold maxLen; omega) (by omega) (by simp; omega) _ rfl ?_; intro g2 cap2 w8 hown8 hgrow8 hat8 hlt8))
  go_ret
  refine ⟨_, rfl, ?_⟩
  have h := Ext8.pre HB1.out (HX.out.trans (Ext8.app (m := [0]) rfl hown8 hgrow8 hat8))
  have e : (l ++ [(1 : UInt8)]).length + [(0 : UInt8)].length = l.length + 1 + 1 := by simp
  rw [e, List.append_assoc, ← valE_int0] at h
  exact h

set_option maxHeartbeats 8000000 in
set_option maxRecDepth 100000 in
theorem appendValue_int (B : Nat) (v : Value) (l : List UInt8) (n : Int) (h1 : -9223372036854775808 ≤ n) (h2 : n ≤ 9223372036854775807) (h0 : (n == 0) = false) (w : World) (hown : w.ownsRow B 5 1 v l.length (bytesC l)) (hl : l.length ≤ 800000000) (hB : B ≤ w.heap.size) :
    Calls Tryd.prog 76 #[v, (⟨1, n, ⟨#[]⟩, false⟩ : Val).v] w fun e w' => ∃ v', e = .returned v' ∧ Ext8 B w v w' v' (l ++ valE ⟨1, n, ⟨#[]⟩, false⟩) := by
  obtain ⟨i0, hi0, hz0, hz1, hz2⟩ := info_parts Tryd.infoU8
  simp only [Val.v]
  obtain ⟨W1, hW1⟩ : ∃ W1, W1 = w.alloc (Obj.cells #[.int .i64 1, .int .i64 n, .string ⟨#[]⟩, .bool false] 95) := ⟨_, rfl⟩
  have hb1 : Below w.heap.size w W1 := by rw [hW1]; exact (Below.refl _ _).alloc (Nat.le_refl _) _
  have HB1 := Lib.hid hb1
  have HO1 := Lib.hid (owns_below hown hb1)
  have HBX := Lib.hid (show BoxV w W1 ⟨1, n, ⟨#[]⟩, false⟩ by rw [hW1]; exact BoxV.made w ⟨1, n, ⟨#[]⟩, false⟩)
  have hap := row_apart hown
  have hsz1 : w.heap.size < W1.heap.size := by rw [hW1]; simp
  have c0 := HBX.out.c0
  simp only at c0
  have HW1 := Lib.hid hW1
  clear hown hb1 hW1
  go_enter Tryd.func76, Tryd.ntmps76
  go_upto_region 1 with fail
  rw [← HW1.out]
  go_upto_region 2 with (at_builtin; go_must (refine wpList_append_lies _ (by rfl) _ _ _ (by rfl) B 5 i0 _ 1 1 Tryd.underlying25 hi0 hz0 hz1 hz2 rfl (by omega) v l.length (bytesC l) (by rfl) (HO1.out.alloc _) ⟨_, 0, none⟩ 1 1 (bytesC [1]) (by rfl) (by rfl) (World.news_of_block (cs := #[.int .u8 1]) (t := 5) (fr := (0, 0)) (heap_alloc_new _ _)) (bytesC_one _) (by omega) (by unfold maxLen; omega) (by omega) (by simp; omega) _ rfl ?_; intro g cap w7 hown7 hgrow7 hat7 hlt7; have HX := Lib.hid (Ext8.app (m := [1]) rfl hown7 hgrow7 hat7); have hbx := (HBX.out.grown (World.grownBy_alloc W1 (Obj.cells #[Value.int IntKind.u8 1] 5) none) (by simp)).grown hgrow7 hap; have d0 := hbx.c0; have d1 := hbx.c1; have d2 := hbx.c2; have d3 := hbx.c3; simp only at d0 d1 d2 d3; have z7 : W1.heap.size < w7.heap.size := Nat.lt_of_lt_of_le (by simp) hgrow7.size; clear hown7 hgrow7 hat7 hbx))
  have hll : (l ++ [(1 : UInt8)]).length = l.length + 1 := by simp
  have HLL := Lib.hid hll
  have hlb : (l ++ [(1 : UInt8)]).length ≤ 800000001 := by omega
  clear hll
  go_wp2_with fail
  refine (appendInt_any B _ _ n w7 HX.out.own (by omega) (by omega) h1 h2).mono ?_; rintro e w8 ⟨v8, rfl, hx8⟩
  go_wp2_with fail
  go_ret
  refine ⟨_, rfl, ?_⟩
  have h := Ext8.pre HB1.out (HX.out.trans hx8)
  rw [List.append_assoc] at h
  exact h

set_option maxHeartbeats 8000000 in
set_option maxRecDepth 100000 in
theorem appendValue_str0 (B : Nat) (v : Value) (l : List UInt8)  (w : World) (hown : w.ownsRow B 5 1 v l.length (bytesC l)) (hl : l.length ≤ 800000000) (hB : B ≤ w.heap.size) :
    Calls Tryd.prog 76 #[v, (⟨2, 0, ⟨#[]⟩, false⟩ : Val).v] w fun e w' => ∃ v', e = .returned v' ∧ Ext8 B w v w' v' (l ++ valE ⟨2, 0, ⟨#[]⟩, false⟩) := by
  obtain ⟨i0, hi0, hz0, hz1, hz2⟩ := info_parts Tryd.infoU8
  simp only [Val.v]
  obtain ⟨W1, hW1⟩ : ∃ W1, W1 = w.alloc (Obj.cells #[.int .i64 2, .int .i64 0, .string ⟨#[]⟩, .bool false] 95) := ⟨_, rfl⟩
  have hb1 : Below w.heap.size w W1 := by rw [hW1]; exact (Below.refl _ _).alloc (Nat.le_refl _) _
  have HB1 := Lib.hid hb1
  have HO1 := Lib.hid (owns_below hown hb1)
  have HBX := Lib.hid (show BoxV w W1 ⟨2, 0, ⟨#[]⟩, false⟩ by rw [hW1]; exact BoxV.made w ⟨2, 0, ⟨#[]⟩, false⟩)
  have hap := row_apart hown
  have hsz1 : w.heap.size < W1.heap.size := by rw [hW1]; simp
  have c0 := HBX.out.c0
  simp only at c0
  have HW1 := Lib.hid hW1
  clear hown hb1 hW1
  go_enter Tryd.func76, Tryd.ntmps76
  go_upto_region 1 with fail
  rw [← HW1.out]
  go_upto_region 2 with (at_builtin; go_must (refine wpList_append_lies _ (by rfl) _ _ _ (by rfl) B 5 i0 _ 1 1 Tryd.underlying25 hi0 hz0 hz1 hz2 rfl (by omega) v l.length (bytesC l) (by rfl) (HO1.out.alloc _) ⟨_, 0, none⟩ 1 1 (bytesC [2]) (by rfl) (by rfl) (World.news_of_block (cs := #[.int .u8 2]) (t := 5) (fr := (0, 0)) (heap_alloc_new _ _)) (bytesC_one _) (by omega) (by unfold maxLen; omega) (by omega) (by simp; omega) _ rfl ?_; intro g cap w7 hown7 hgrow7 hat7 hlt7; have HX := Lib.hid (Ext8.app (m := [2]) rfl hown7 hgrow7 hat7); have hbx := (HBX.out.grown (World.grownBy_alloc W1 (Obj.cells #[Value.int IntKind.u8 2] 5) none) (by simp)).grown hgrow7 hap; have d0 := hbx.c0; have d1 := hbx.c1; have d2 := hbx.c2; have d3 := hbx.c3; simp only at d0 d1 d2 d3; have z7 : W1.heap.size < w7.heap.size := Nat.lt_of_lt_of_le (by simp) hgrow7.size; clear hown7 hgrow7 hat7 hbx))
  have hll : (l ++ [(2 : UInt8)]).length = l.length + 1 := by simp
  have HLL := Lib.hid hll
  have hlb : (l ++ [(2 : UInt8)]).length ≤ 800000001 := by omega
  clear hll
  go_wp2_with (at_builtin; go_must (refine wpList_append_lies _ (by rfl) _ _ _ (by rfl) B 5 i0 _ 1 1 Tryd.underlying25 hi0 hz0 hz1 hz2 rfl (by omega) (.slice (some ⟨g, 0, none⟩) (l.length + 1) cap) (l ++ [2]).length (bytesC (l ++ [2])) (by first | rfl | (rw [HLL.out])) (HX.out.own.alloc _) ⟨_, 0, none⟩ 1 1 (bytesC [0]) (by rfl) (by rfl) (World.news_of_block (cs := #[.int .u8 0]) (t := 5) (fr := (0, 0)) (heap_alloc_new _ _)) (bytesC_one _) (by omega) (by unfold maxLen; omega) (by omega) (by simp; omega) _ rfl ?_; intro g2 cap2 w8 hown8 hgrow8 hat8 hlt8))
  go_ret
  refine ⟨_, rfl, ?_⟩
  have h := Ext8.pre HB1.out (HX.out.trans (Ext8.app (m := [0]) rfl hown8 hgrow8 hat8))
  have e : (l ++ [(2 : UInt8)]).length + [(0 : UInt8)].length = l.length + 1 + 1 := by simp
  rw [e, List.append_assoc, ← valE_str0] at h
  exact h

set_option maxHeartbeats 8000000 in
set_option maxRecDepth 100000 in
theorem appendValue_str (B : Nat) (v : Value) (l : List UInt8) (s : ByteArray) (hs : s.size ≤ 256) (h0 : (s.toList == []) = false) (w : World) (hown : w.ownsRow B 5 1 v l.length (bytesC l)) (hl : l.length ≤ 800000000) (hB : B ≤ w.heap.size) :
    Calls Tryd.prog 76 #[v, (⟨2, 0, s, false⟩ : Val).v] w fun e w' => ∃ v', e = .returned v' ∧ Ext8 B w v w' v' (l ++ valE ⟨2, 0, s, false⟩) := by
  obtain ⟨i0, hi0, hz0, hz1, hz2⟩ := info_parts Tryd.infoU8
  simp only [Val.v]
  obtain ⟨W1, hW1⟩ : ∃ W1, W1 = w.alloc (Obj.cells #[.int .i64 2, .int .i64 0, .string s, .bool false] 95) := ⟨_, rfl⟩
  have hb1 : Below w.heap.size w W1 := by rw [hW1]; exact (Below.refl _ _).alloc (Nat.le_refl _) _
  have HB1 := Lib.hid hb1
  have HO1 := Lib.hid (owns_below hown hb1)
  have HBX := Lib.hid (show BoxV w W1 ⟨2, 0, s, false⟩ by rw [hW1]; exact BoxV.made w ⟨2, 0, s, false⟩)
  have hap := row_apart hown
  have hsz1 : w.heap.size < W1.heap.size := by rw [hW1]; simp
  have c0 := HBX.out.c0
  simp only at c0
  have HW1 := Lib.hid hW1
  clear hown hb1 hW1
  go_enter Tryd.func76, Tryd.ntmps76
  go_upto_region 1 with fail
  rw [← HW1.out]
  go_upto_region 2 with (at_builtin; go_must (refine wpList_append_lies _ (by rfl) _ _ _ (by rfl) B 5 i0 _ 1 1 Tryd.underlying25 hi0 hz0 hz1 hz2 rfl (by omega) v l.length (bytesC l) (by rfl) (HO1.out.alloc _) ⟨_, 0, none⟩ 1 1 (bytesC [2]) (by rfl) (by rfl) (World.news_of_block (cs := #[.int .u8 2]) (t := 5) (fr := (0, 0)) (heap_alloc_new _ _)) (bytesC_one _) (by omega) (by unfold maxLen; omega) (by omega) (by simp; omega) _ rfl ?_; intro g cap w7 hown7 hgrow7 hat7 hlt7; have HX := Lib.hid (Ext8.app (m := [2]) rfl hown7 hgrow7 hat7); have hbx := (HBX.out.grown (World.grownBy_alloc W1 (Obj.cells #[Value.int IntKind.u8 2] 5) none) (by simp)).grown hgrow7 hap; have d0 := hbx.c0; have d1 := hbx.c1; have d2 := hbx.c2; have d3 := hbx.c3; simp only at d0 d1 d2 d3; have z7 : W1.heap.size < w7.heap.size := Nat.lt_of_lt_of_le (by simp) hgrow7.size; clear hown7 hgrow7 hat7 hbx))
  have hll : (l ++ [(2 : UInt8)]).length = l.length + 1 := by simp
  have HLL := Lib.hid hll
  have hlb : (l ++ [(2 : UInt8)]).length ≤ 800000001 := by omega
  clear hll
  go_wp2_with fail
  refine (appendText_any B _ _ s w7 HX.out.own (by omega) (by omega) (by omega)).mono ?_; rintro e w8 ⟨v8, rfl, hx8⟩
  go_wp2_with fail
  go_ret
  refine ⟨_, rfl, ?_⟩
  have h := Ext8.pre HB1.out (HX.out.trans hx8)
  rw [List.append_assoc] at h
  exact h

set_option maxHeartbeats 8000000 in
set_option maxRecDepth 100000 in
theorem appendValue_no (B : Nat) (v : Value) (l : List UInt8)  (w : World) (hown : w.ownsRow B 5 1 v l.length (bytesC l)) (hl : l.length ≤ 800000000) (hB : B ≤ w.heap.size) :
    Calls Tryd.prog 76 #[v, (⟨3, 0, ⟨#[]⟩, false⟩ : Val).v] w fun e w' => ∃ v', e = .returned v' ∧ Ext8 B w v w' v' (l ++ valE ⟨3, 0, ⟨#[]⟩, false⟩) := by
  obtain ⟨i0, hi0, hz0, hz1, hz2⟩ := info_parts Tryd.infoU8
  simp only [Val.v]
  obtain ⟨W1, hW1⟩ : ∃ W1, W1 = w.alloc (Obj.cells #[.int .i64 3, .int .i64 0, .string ⟨#[]⟩, .bool false] 95) := ⟨_, rfl⟩
  have hb1 : Below w.heap.size w W1 := by rw [hW1]; exact (Below.refl _ _).alloc (Nat.le_refl _) _
  have HB1 := Lib.hid hb1
  have HO1 := Lib.hid (owns_below hown hb1)
  have HBX := Lib.hid (show BoxV w W1 ⟨3, 0, ⟨#[]⟩, false⟩ by rw [hW1]; exact BoxV.made w ⟨3, 0, ⟨#[]⟩, false⟩)
  have hap := row_apart hown
  have hsz1 : w.heap.size < W1.heap.size := by rw [hW1]; simp
  have c0 := HBX.out.c0
  simp only at c0
  have HW1 := Lib.hid hW1
  clear hown hb1 hW1
  go_enter Tryd.func76, Tryd.ntmps76
  go_upto_region 1 with fail
  rw [← HW1.out]
  go_upto_region 2 with (at_builtin; go_must (refine wpList_append_lies _ (by rfl) _ _ _ (by rfl) B 5 i0 _ 1 1 Tryd.underlying25 hi0 hz0 hz1 hz2 rfl (by omega) v l.length (bytesC l) (by rfl) (HO1.out.alloc _) ⟨_, 0, none⟩ 1 1 (bytesC [3]) (by rfl) (by rfl) (World.news_of_block (cs := #[.int .u8 3]) (t := 5) (fr := (0, 0)) (heap_alloc_new _ _)) (bytesC_one _) (by omega) (by unfold maxLen; omega) (by omega) (by simp; omega) _ rfl ?_; intro g cap w7 hown7 hgrow7 hat7 hlt7; have HX := Lib.hid (Ext8.app (m := [3]) rfl hown7 hgrow7 hat7); have hbx := (HBX.out.grown (World.grownBy_alloc W1 (Obj.cells #[Value.int IntKind.u8 3] 5) none) (by simp)).grown hgrow7 hap; have d0 := hbx.c0; have d1 := hbx.c1; have d2 := hbx.c2; have d3 := hbx.c3; simp only at d0 d1 d2 d3; have z7 : W1.heap.size < w7.heap.size := Nat.lt_of_lt_of_le (by simp) hgrow7.size; clear hown7 hgrow7 hat7 hbx))
  have hll : (l ++ [(3 : UInt8)]).length = l.length + 1 := by simp
  have HLL := Lib.hid hll
  have hlb : (l ++ [(3 : UInt8)]).length ≤ 800000001 := by omega
  clear hll
  go_wp2_with (at_builtin; go_must (refine wpList_append_lies _ (by rfl) _ _ _ (by rfl) B 5 i0 _ 1 1 Tryd.underlying25 hi0 hz0 hz1 hz2 rfl (by omega) (.slice (some ⟨g, 0, none⟩) (l.length + 1) cap) (l ++ [3]).length (bytesC (l ++ [3])) (by first | rfl | (rw [HLL.out])) (HX.out.own.alloc _) ⟨_, 0, none⟩ 1 1 (bytesC [0]) (by rfl) (by rfl) (World.news_of_block (cs := #[.int .u8 0]) (t := 5) (fr := (0, 0)) (heap_alloc_new _ _)) (bytesC_one _) (by omega) (by unfold maxLen; omega) (by omega) (by simp; omega) _ rfl ?_; intro g2 cap2 w8 hown8 hgrow8 hat8 hlt8))
  go_ret
  refine ⟨_, rfl, ?_⟩
  have h := Ext8.pre HB1.out (HX.out.trans (Ext8.app (m := [0]) rfl hown8 hgrow8 hat8))
  have e : (l ++ [(3 : UInt8)]).length + [(0 : UInt8)].length = l.length + 1 + 1 := by simp
  rw [e, List.append_assoc, ← valE_no] at h
  exact h

set_option maxHeartbeats 8000000 in
set_option maxRecDepth 100000 in
theorem appendValue_yes (B : Nat) (v : Value) (l : List UInt8)  (w : World) (hown : w.ownsRow B 5 1 v l.length (bytesC l)) (hl : l.length ≤ 800000000) (hB : B ≤ w.heap.size) :
    Calls Tryd.prog 76 #[v, (⟨3, 0, ⟨#[]⟩, true⟩ : Val).v] w fun e w' => ∃ v', e = .returned v' ∧ Ext8 B w v w' v' (l ++ valE ⟨3, 0, ⟨#[]⟩, true⟩) := by
  obtain ⟨i0, hi0, hz0, hz1, hz2⟩ := info_parts Tryd.infoU8
  simp only [Val.v]
  obtain ⟨W1, hW1⟩ : ∃ W1, W1 = w.alloc (Obj.cells #[.int .i64 3, .int .i64 0, .string ⟨#[]⟩, .bool true] 95) := ⟨_, rfl⟩
  have hb1 : Below w.heap.size w W1 := by rw [hW1]; exact (Below.refl _ _).alloc (Nat.le_refl _) _
  have HB1 := Lib.hid hb1
  have HO1 := Lib.hid (owns_below hown hb1)
  have HBX := Lib.hid (show BoxV w W1 ⟨3, 0, ⟨#[]⟩, true⟩ by rw [hW1]; exact BoxV.made w ⟨3, 0, ⟨#[]⟩, true⟩)
  have hap := row_apart hown
  have hsz1 : w.heap.size < W1.heap.size := by rw [hW1]; simp
  have c0 := HBX.out.c0
  simp only at c0
  have HW1 := Lib.hid hW1
  clear hown hb1 hW1
  go_enter Tryd.func76, Tryd.ntmps76
  go_upto_region 1 with fail
  rw [← HW1.out]
  go_upto_region 2 with (at_builtin; go_must (refine wpList_append_lies _ (by rfl) _ _ _ (by rfl) B 5 i0 _ 1 1 Tryd.underlying25 hi0 hz0 hz1 hz2 rfl (by omega) v l.length (bytesC l) (by rfl) (HO1.out.alloc _) ⟨_, 0, none⟩ 1 1 (bytesC [3]) (by rfl) (by rfl) (World.news_of_block (cs := #[.int .u8 3]) (t := 5) (fr := (0, 0)) (heap_alloc_new _ _)) (bytesC_one _) (by omega) (by unfold maxLen; omega) (by omega) (by simp; omega) _ rfl ?_; intro g cap w7 hown7 hgrow7 hat7 hlt7; have HX := Lib.hid (Ext8.app (m := [3]) rfl hown7 hgrow7 hat7); have hbx := (HBX.out.grown (World.grownBy_alloc W1 (Obj.cells #[Value.int IntKind.u8 3] 5) none) (by simp)).grown hgrow7 hap; have d0 := hbx.c0; have d1 := hbx.c1; have d2 := hbx.c2; have d3 := hbx.c3; simp only at d0 d1 d2 d3; have z7 : W1.heap.size < w7.heap.size := Nat.lt_of_lt_of_le (by simp) hgrow7.size; clear hown7 hgrow7 hat7 hbx))
  have hll : (l ++ [(3 : UInt8)]).length = l.length + 1 := by simp
  have HLL := Lib.hid hll
  have hlb : (l ++ [(3 : UInt8)]).length ≤ 800000001 := by omega
  clear hll
  go_wp2_with (at_builtin; go_must (refine wpList_append_lies _ (by rfl) _ _ _ (by rfl) B 5 i0 _ 1 1 Tryd.underlying25 hi0 hz0 hz1 hz2 rfl (by omega) (.slice (some ⟨g, 0, none⟩) (l.length + 1) cap) (l ++ [3]).length (bytesC (l ++ [3])) (by first | rfl | (rw [HLL.out])) (HX.out.own.alloc _) ⟨_, 0, none⟩ 1 1 (bytesC [1]) (by rfl) (by rfl) (World.news_of_block (cs := #[.int .u8 1]) (t := 5) (fr := (0, 0)) (heap_alloc_new _ _)) (bytesC_one _) (by omega) (by unfold maxLen; omega) (by omega) (by simp; omega) _ rfl ?_; intro g2 cap2 w8 hown8 hgrow8 hat8 hlt8))
  go_ret
  refine ⟨_, rfl, ?_⟩
  have h := Ext8.pre HB1.out (HX.out.trans (Ext8.app (m := [1]) rfl hown8 hgrow8 hat8))
  have e : (l ++ [(3 : UInt8)]).length + [(1 : UInt8)].length = l.length + 1 + 1 := by simp
  rw [e, List.append_assoc, ← valE_yes] at h
  exact h

end Go.Proofs.YtekaimfabadclaaDoor
/- Package wire: what is wrong with an event; package value, Valid. -/
namespace Go.Proofs.YtekaimfabadclaaDoor
open Go Go.RowKit

theorem valid_any (a : Val) (w : World) (hm : a.str.size ≤ maxLen) : Calls Tryd.prog 74 #[a.v] w fun e w' => e = .returned (.bool (validB a)) ∧ Below w.heap.size w w' := by
  obtain ⟨k, n, s, b⟩ := a
  simp only [Val.v]
  simp only at hm
  unfold maxLen at hm
  have hb := Lib.hid (fun (o : Obj) => (Below.refl w.heap.size w).alloc (Nat.le_refl _) o)
  by_cases h1 : k = 1
  · subst h1
    cases hs : (s.toList == []) <;> cases b
    all_goals
      have HE := Lib.hid hs
      go_enter Tryd.func74, Tryd.ntmps74
      go_wp2_with fail
      go_ret
      exact ⟨by simp [validB, HE.out], hb.out _⟩
  by_cases h2 : k = 2
  · subst h2
    cases hn : (n == 0) <;> cases b <;> by_cases hs : s.size ≤ 256
    all_goals
      have HE := Lib.hid hn
      have HS := Lib.hid hs
      go_enter Tryd.func74, Tryd.ntmps74
      go_wp2_with fail
      go_ret
      exact ⟨by (first | (simp [validB, HE.out, HS.out]; done) | (simp [validB, HE.out, HS.out]; omega)), hb.out _⟩
  by_cases h3 : k = 3
  · subst h3
    cases hn : (n == 0) <;> cases hs : (s.toList == [])
    all_goals
      have HE := Lib.hid hn
      have HS := Lib.hid hs
      go_enter Tryd.func74, Tryd.ntmps74
      go_wp2_with fail
      go_ret
      exact ⟨by simp [validB, HE.out, HS.out], hb.out _⟩
  have b1 : (k == 1) = false := by simpa using h1
  have b2 : (k == 2) = false := by simpa using h2
  have b3 : (k == 3) = false := by simpa using h3
  have HE := Lib.hid (show validB ⟨k, n, s, b⟩ = false by simp [validB, h1, h2, h3])
  clear h1 h2 h3
  go_enter Tryd.func74, Tryd.ntmps74
  go_wp2_with fail
  go_ret
  exact ⟨ret_bool HE.out.symm, hb.out _⟩


theorem appendValue_any (B : Nat) (v : Value) (l : List UInt8) (a : Val) (w : World) (ha : valOk a) (hown : w.ownsRow B 5 1 v l.length (bytesC l)) (hl : l.length ≤ 800000000) (hB : B ≤ w.heap.size) :
    Calls Tryd.prog 76 #[v, a.v] w fun e w' => ∃ v', e = .returned v' ∧ Ext8 B w v w' v' (l ++ valE a) := by
  obtain ⟨k, n, s, b⟩ := a
  obtain ⟨hv, h1, h2⟩ := ha
  simp only at h1 h2
  have hk : k = 1 ∨ k = 2 ∨ k = 3 := by
    unfold validB at hv
    simp only at hv
    split at hv
    · exact Or.inl ‹_›
    · split at hv
      · exact Or.inr (Or.inl ‹_›)
      · split at hv
        · exact Or.inr (Or.inr ‹_›)
        · simp at hv
  rcases hk with rfl | rfl | rfl
  · have hb : (s.toList == []) = true ∧ b = false := by simpa [validB] using hv
    obtain ⟨hs, rfl⟩ := hb
    obtain rfl := str_nil hs
    cases h0 : (n == 0)
    · exact appendValue_int B v l n h1 h2 h0 w hown hl hB
    · obtain rfl : n = 0 := by simpa using h0
      exact appendValue_int0 B v l w hown hl hB
  · have hb : (n = 0 ∧ b = false) ∧ s.size ≤ 256 := by simpa [validB] using hv
    obtain ⟨⟨rfl, rfl⟩, hs⟩ := hb
    cases h0 : (s.toList == [])
    · exact appendValue_str B v l s hs h0 w hown hl hB
    · obtain rfl := str_nil h0
      exact appendValue_str0 B v l w hown hl hB
  · have hb : n = 0 ∧ (s.toList == []) = true := by simpa [validB] using hv
    obtain ⟨rfl, hs⟩ := hb
    obtain rfl := str_nil hs
    cases b
    · exact appendValue_no B v l w hown hl hB
    · exact appendValue_yes B v l w hown hl hB
theorem valTail_le (a : Val) (h : valOk a) : (valE a).length ≤ 270 := by
  unfold valE valTail
  have h1 := putB_le a.int h.2.1 h.2.2
  split
  · simp only [List.length_cons]; omega
  · split
    · rename_i h2
      have hs : a.str.size ≤ 256 := by
        have := h.1
        unfold validB at this
        rw [if_neg (by omega), if_pos h2] at this
        simp only [Bool.and_eq_true, decide_eq_true_eq] at this
        exact this.2
      have h3 := putB_le (a.str.size : Int) (by omega) (by omega)
      have h4 : a.str.data.toList.length = a.str.size := rfl
      simp only [textE, List.length_cons, List.length_append]
      omega
    · split <;> simp
theorem vals_le : ∀ l : List Val, (∀ a ∈ l, valOk a) → (l.flatMap valE).length ≤ 270 * l.length
  | [], _ => by simp
  | a :: l, h => by
    have h1 := valTail_le a (h a (by simp))
    have h2 := vals_le l (fun x hx => h x (by simp [hx]))
    simp only [List.flatMap_cons, List.length_append, List.length_cons]
    omega

/-- The cells of a list of values lie from an address on, below a block. -/
def ValsIn (B : Nat) (w : World) (ao : Option Addr) (l : List Val) : Prop :=
  l = [] ∨ ∃ b o, ao = some ⟨b, o, none⟩ ∧ b < B ∧ ∀ i (h : i < l.length), w.cell? ⟨b, o + i * 4, none⟩ = some (.int .i64 l[i].kind) ∧ w.cell? ⟨b, o + i * 4 + 1, none⟩ = some (.int .i64 l[i].int) ∧ w.cell? ⟨b, o + i * 4 + 2, none⟩ = some (.string l[i].str) ∧ w.cell? ⟨b, o + i * 4 + 3, none⟩ = some (.bool l[i].bool)
theorem ValsIn.keep {B : Nat} {w w' : World} {ao : Option Addr} {l : List Val} (h : ValsIn B w ao l) (hb : ∀ k, k < B → w'.heap[k]? = w.heap[k]?) : ValsIn B w' ao l := by
  rcases h with h | ⟨b, o, rfl, hlt, h⟩
  · exact Or.inl h
  · refine Or.inr ⟨b, o, rfl, hlt, fun i hi => ?_⟩
    have e : ∀ j : Nat, w'.cell? ⟨b, j, none⟩ = w.cell? ⟨b, j, none⟩ := fun j => World.cell?_of_block (w := w) (hb b hlt)
    exact ⟨(e _).trans (h i hi).1, (e _).trans (h i hi).2.1, (e _).trans (h i hi).2.2.1, (e _).trans (h i hi).2.2.2⟩
theorem ValsIn.mono {B B' : Nat} {w : World} {ao : Option Addr} {l : List Val} (h : ValsIn B w ao l) (hB : B ≤ B') : ValsIn B' w ao l := by
  rcases h with h | ⟨b, o, rfl, hlt, h⟩
  · exact Or.inl h
  · exact Or.inr ⟨b, o, rfl, by omega, h⟩
theorem ValsIn.below {B : Nat} {w w' : World} {ao : Option Addr} {l : List Val} (h : ValsIn B w ao l) (hb : Below w.heap.size w w') (hB : B ≤ w.heap.size) : ValsIn B w' ao l := h.keep (fun k hk => hb.block k (by omega))
theorem ValsIn.ext {B : Nat} {w w' : World} {v v' : Value} {m : List UInt8} {ao : Option Addr} {l : List Val} (h : ValsIn B w ao l) (hx : Ext8 B w v w' v' m) (hB : B ≤ w.heap.size) (hv : ∀ k, v.ownBlock = some k → B ≤ k) : ValsIn B w' ao l :=
  h.keep (fun k hk => hx.grown.block k (by omega) (fun e => by have := hv k e.symm; omega))
theorem row_lo {w : World} {B : Nat} {v : Value} {n : Nat} {xs : List Value} (h : w.ownsRow B 5 1 v n xs) : ∀ k, v.ownBlock = some k → B ≤ k := fun k hk => (h.lt k hk).1

/-- An event as it is handed on. -/
def evV (e : Ev) (va : Option Addr) (cap : Nat) : Value := .agg #[.string e.ty, .int .i64 e.time, .slice va e.vals.length cap]
def evPre (e : Ev) : List UInt8 := textE e.ty ++ (putB e.time ++ putB e.vals.length)
theorem evE_pre (e : Ev) : evE e = evPre e ++ e.vals.flatMap valE := by unfold evE evPre; simp only [List.append_assoc]
theorem evPre_le (e : Ev) (h1 : e.ty.size ≤ 32) (h2 : 0 ≤ e.time ∧ e.time ≤ 4611686018427387904) (h3 : e.vals.length ≤ 16) : (evPre e).length ≤ 62 := by
  have a1 := putB_le (e.ty.size : Int) (by omega) (by omega)
  have a2 := putB_le e.time (by omega) (by omega)
  have a3 := putB_le (e.vals.length : Int) (by omega) (by omega)
  have a4 : e.ty.data.toList.length = e.ty.size := rfl
  unfold evPre textE
  simp only [List.length_append]
  omega
theorem evE_le (e : Ev) (h : evOk e) : (evE e).length ≤ 4400 := by
  have h1 := evPre_le e (name_size h.1).2 h.2.1 h.2.2.1
  have h2 := vals_le e.vals h.2.2.2
  have h3 := h.2.2.1
  rw [evE_pre, List.length_append]
  omega
/-- What is wrong with an event. -/
def evFault (e : Ev) : Int := if nameB e.ty = true then (if e.time < 0 ∨ 4611686018427387904 < e.time then 23 else if 16 < e.vals.length then 2 else if e.vals.all validB = true then 0 else 12) else 20
theorem evFault_ok (e : Ev) (hi : ∀ a ∈ e.vals, -9223372036854775808 ≤ a.int ∧ a.int ≤ 9223372036854775807) : evFault e = 0 ↔ evOk e := by
  unfold evFault evOk
  constructor
  · intro h
    split at h
    · split at h
      · cases h
      · split at h
        · cases h
        · split at h
          · rename_i h1 h2 h3 h4
            refine ⟨h1, by omega, by omega, fun v hv => ⟨?_, hi v hv⟩⟩
            rw [List.all_eq_true] at h4
            exact h4 v hv
          · cases h
    · cases h
  · rintro ⟨h1, h2, h3, h4⟩
    rw [if_pos h1, if_neg (by omega), if_neg (by omega), if_pos]
    rw [List.all_eq_true]
    exact fun v hv => (h4 v hv).1
end Go.Proofs.YtekaimfabadclaaDoor
/- Package wire: fault, appendEvent, Encode, for every event. -/
namespace Go.Proofs.YtekaimfabadclaaDoor
open Go Go.RowKit

theorem all_take (l : List Val) (k : Nat) (hk : k < l.length) (h : (l.take k).all validB = true) (h2 : validB l[k] = true) : (l.take (k + 1)).all validB = true := by
  rw [List.take_succ_eq_append_getElem hk, List.all_append, h]
  simp [h2]
theorem ret_errno {a b : Int} (h : a = b) : Ending.returned (.int .i64 a) = .returned (.int .i64 b) := by rw [h]

set_option maxHeartbeats 8000000 in
set_option maxRecDepth 100000 in
theorem wfault_any (e : Ev) (va : Option Addr) (cap : Nat) (w : World) (hres : ResAt w) (hva : ValsIn w.heap.size w va e.vals) (hm : ∀ a ∈ e.vals, a.str.size ≤ maxLen) :
    Calls Tryd.prog 47 #[evV e va cap] w fun en w' => en = .returned (.int .i64 (evFault e)) ∧ Below w.heap.size w w' := by
  obtain ⟨ty, tm, vals⟩ := e
  simp only [evV] at hva hm ⊢
  obtain ⟨W1, hW1⟩ : ∃ W1, W1 = w.alloc (Obj.cells #[.string ty, .int .i64 tm, .slice va vals.length cap] 24) := ⟨_, rfl⟩
  have hb1 : Below w.heap.size w W1 := by rw [hW1]; exact (Below.refl _ _).alloc (Nat.le_refl _) _
  have HB1 := Lib.hid hb1
  have HR1 := Lib.hid (hres.below hb1)
  have HV1 := Lib.hid (hva.below hb1 (Nat.le_refl _))
  have HM := Lib.hid hm
  have hz1 : w.heap.size < W1.heap.size := by rw [hW1]; simp
  have c0 : W1.cell? ⟨w.heap.size, 0, none⟩ = some (.string ty) := by rw [hW1]; simp
  have c1 : W1.cell? ⟨w.heap.size, 1, none⟩ = some (.int .i64 tm) := by rw [hW1]; simp
  have c2 : W1.cell? ⟨w.heap.size, 2, none⟩ = some (.slice va vals.length cap) := by rw [hW1]; simp
  have HW1 := Lib.hid hW1
  clear hres hva hm hb1 hW1
  cases hn : nameB ty
  · have HE := Lib.hid (show evFault ⟨ty, tm, vals⟩ = 20 by unfold evFault; rw [if_neg (by simp [hn])])
    have HN := Lib.hid hn
    clear hn
    go_enter Tryd.func47, Tryd.ntmps47
    go_upto_region 1 with fail
    rw [← HW1.out]
    go_wp2_with fail
    refine (name_any ty _ HR1.out).mono ?_; rintro e w2 ⟨rfl, hb2⟩
    rw [HN.out]
    go_wp2_with fail
    go_ret
    exact ⟨ret_errno HE.out.symm, HB1.out.trans (hb2.mono (by omega))⟩
  have HN := Lib.hid hn
  clear hn
  go_enter Tryd.func47, Tryd.ntmps47
  go_upto_region 1 with fail
  rw [← HW1.out]
  go_wp2_with fail
  refine (name_any ty _ HR1.out).mono ?_; rintro e w2 ⟨rfl, hb2⟩
  rw [HN.out]
  have d1 := (hb2.cell (p := ⟨w.heap.size, 1, none⟩) hz1).trans c1
  have d2 := (hb2.cell (p := ⟨w.heap.size, 2, none⟩) hz1).trans c2
  have HB2 := Lib.hid (HB1.out.trans (hb2.mono (by omega)))
  have HV2 := Lib.hid (HV1.out.below hb2 (by omega))
  have hz2 := hb2.size
  clear hb2 c0 c1 c2
  by_cases h1 : tm < 0
  · have HE := Lib.hid (show evFault ⟨ty, tm, vals⟩ = 23 by unfold evFault; rw [if_pos HN.out, if_pos (Or.inl h1)])
    go_wp2_with fail
    go_ret
    exact ⟨ret_errno HE.out.symm, HB2.out⟩
  by_cases h2 : 4611686018427387904 < tm
  · have HE := Lib.hid (show evFault ⟨ty, tm, vals⟩ = 23 by unfold evFault; rw [if_pos HN.out, if_pos (Or.inr h2)])
    go_wp2_with fail
    go_ret
    exact ⟨ret_errno HE.out.symm, HB2.out⟩
  by_cases h3 : 16 < vals.length
  · have HE := Lib.hid (show evFault ⟨ty, tm, vals⟩ = 2 by unfold evFault; rw [if_pos HN.out, if_neg (by simp only; omega), if_pos h3])
    go_wp2_with fail
    go_ret
    exact ⟨ret_errno HE.out.symm, HB2.out⟩
  have HF := Lib.hid (show evFault ⟨ty, tm, vals⟩ = if vals.all validB = true then 0 else 12 by unfold evFault; rw [if_pos HN.out, if_neg (by simp only; omega), if_neg h3])
  go_wp2_with fail
  go_loopw [27] (fun i wr => ∃ k : Nat, k ≤ vals.length ∧ i = .int .i64 k ∧ Below w2.heap.size w2 wr ∧ (vals.take k).all validB = true) (fun i _ => vals.length - (intOf i).toNat)
  case atStart => exact ⟨0, Nat.zero_le _, rfl, Below.refl _ _, rfl⟩
  case round =>
    obtain ⟨k, hk, rfl, hbel, hall⟩ := hrel
    have HA := Lib.hid hall
    have HB := Lib.hid hbel
    have hzr := hbel.size
    clear hall
    by_cases hlt : k < vals.length
    · obtain ⟨b, o, rfl, hbB, hc4⟩ : ∃ b o, va = some ⟨b, o, none⟩ ∧ b < w.heap.size ∧ ∀ i (h : i < vals.length), w2.cell? ⟨b, o + i * 4, none⟩ = some (.int .i64 vals[i].kind) ∧ w2.cell? ⟨b, o + i * 4 + 1, none⟩ = some (.int .i64 vals[i].int) ∧ w2.cell? ⟨b, o + i * 4 + 2, none⟩ = some (.string vals[i].str) ∧ w2.cell? ⟨b, o + i * 4 + 3, none⟩ = some (.bool vals[i].bool) := by
        rcases HV2.out with h | h
        · rw [h] at hlt; simp at hlt
        · exact h
      obtain ⟨v0, v1, v2, v3⟩ := hc4 k hlt
      have v0 := (hbel.cell (p := ⟨b, o + k * 4, none⟩) (by simp; omega)).trans v0
      have v1 := (hbel.cell (p := ⟨b, o + k * 4 + 1, none⟩) (by simp; omega)).trans v1
      have v2 := (hbel.cell (p := ⟨b, o + k * 4 + 2, none⟩) (by simp; omega)).trans v2
      have v3 := (hbel.cell (p := ⟨b, o + k * 4 + 3, none⟩) (by simp; omega)).trans v3
      have hms := HM.out _ (List.getElem_mem hlt)
      have HT := Lib.hid (fun h => all_take vals k hlt HA.out h)
      have HMEM := Lib.hid (List.getElem_mem hlt)
      obtain ⟨⟨vk, vi, vs, vb⟩, hv⟩ : ∃ a, a = vals[k] := ⟨_, rfl⟩
      rw [← hv] at v0 v1 v2 v3 hms HT HMEM
      simp only at v0 v1 v2 v3 hms
      clear hc4 hv hbel
      cases hvl : validB ⟨vk, vi, vs, vb⟩
      · have HE := Lib.hid (show evFault ⟨ty, tm, vals⟩ = 12 by
          rw [HF.out, if_neg]
          intro h
          rw [List.all_eq_true] at h
          rw [h _ HMEM.out] at hvl
          cases hvl)
        have HVL := Lib.hid hvl
        clear hvl
        go_wp2_with fail
        refine (valid_any ⟨vk, vi, vs, vb⟩ _ hms).mono ?_; rintro e w5 ⟨rfl, hb5⟩
        rw [HVL.out]
        go_wp2_with fail
        go_ret
        exact ⟨ret_errno HE.out.symm, HB2.out.trans ((HB.out.mono (by omega)).trans ((((Below.refl _ wr).alloc (Nat.le_refl _) _).trans (hb5.mono (by simp))).mono (by omega)))⟩
      · have HT2 := Lib.hid (HT.out hvl)
        have HVL := Lib.hid hvl
        clear hvl
        go_wp2_with fail
        refine (valid_any ⟨vk, vi, vs, vb⟩ _ hms).mono ?_; rintro e w5 ⟨rfl, hb5⟩
        rw [HVL.out]
        go_wp2_with fail
        go_roundw
        case rel => exact ⟨k + 1, by omega, by go_num, HB.out.trans ((((Below.refl _ wr).alloc (Nat.le_refl _) _).trans (hb5.mono (by simp))).mono (by omega)), HT2.out⟩
        case measure => simp [intOf]; omega
    · have HE := Lib.hid (show evFault ⟨ty, tm, vals⟩ = 0 by rw [HF.out, if_pos]; have := HA.out; rwa [List.take_of_length_le (by omega)] at this)
      go_wp2_with fail
      go_ret
      exact ⟨ret_errno HE.out.symm, HB2.out.trans (HB.out.mono (by omega))⟩

theorem vals_take (l : List Val) (k : Nat) (hk : k < l.length) : (l.take (k + 1)).flatMap valE = (l.take k).flatMap valE ++ valE l[k] := by
  rw [List.take_succ_eq_append_getElem hk, List.flatMap_append]
  simp

set_option maxHeartbeats 8000000 in
set_option maxRecDepth 100000 in
theorem appendEvent_any (B : Nat) (v : Value) (l : List UInt8) (e : Ev) (va : Option Addr) (cap : Nat) (w : World) (he : evOk e) (hva : ValsIn B w va e.vals) (hown : w.ownsRow B 5 1 v l.length (bytesC l)) (hl : l.length ≤ 700000000) (hB : B ≤ w.heap.size) :
    Calls Tryd.prog 48 #[v, evV e va cap] w fun en w' => ∃ v', en = .returned v' ∧ Ext8 B w v w' v' (l ++ evE e) := by
  have HVO := Lib.hid he.2.2.2
  have hpre := evPre_le e (name_size he.1).2 he.2.1 he.2.2.1
  have hty := (name_size he.1).2
  have htm := he.2.1
  have hn16 := he.2.2.1
  have HEP := Lib.hid (evE_pre e)
  have hvl := fun k => vals_le (e.vals.take k) (fun a ha => he.2.2.2 a (List.mem_of_mem_take ha))
  have HVLE := Lib.hid hvl
  obtain ⟨ty, tm, vals⟩ := e
  simp only [evV] at *
  obtain ⟨W1, hW1⟩ : ∃ W1, W1 = w.alloc (Obj.cells #[.string ty, .int .i64 tm, .slice va vals.length cap] 24) := ⟨_, rfl⟩
  have hb1 : Below w.heap.size w W1 := by rw [hW1]; exact (Below.refl _ _).alloc (Nat.le_refl _) _
  have HB1 := Lib.hid hb1
  have HO1 := Lib.hid (owns_below hown hb1)
  have HV1 := Lib.hid (hva.below hb1 hB)
  have hlo := row_lo hown
  have HLO := Lib.hid hlo
  have hap := row_apart hown
  have hz1 : w.heap.size < W1.heap.size := by rw [hW1]; simp
  have c0 : W1.cell? ⟨w.heap.size, 0, none⟩ = some (.string ty) := by rw [hW1]; simp
  have c1 : W1.cell? ⟨w.heap.size, 1, none⟩ = some (.int .i64 tm) := by rw [hW1]; simp
  have c2 : W1.cell? ⟨w.heap.size, 2, none⟩ = some (.slice va vals.length cap) := by rw [hW1]; simp
  have HW1 := Lib.hid hW1
  clear he hva hown hb1 hW1 hvl hlo
  obtain ⟨pre, hpe⟩ : ∃ pre, pre = evPre ⟨ty, tm, vals⟩ := ⟨_, rfl⟩
  rw [← hpe] at hpre HEP
  have HPE := Lib.hid hpe
  clear hpe
  go_enter Tryd.func48, Tryd.ntmps48
  go_upto_region 1 with fail
  rw [← HW1.out]
  go_wp2_with fail
  refine (appendText_any B v l ty W1 HO1.out (by omega) (by omega) (by omega)).mono ?_; rintro e w2 ⟨v2, rfl, hx2⟩
  have d1 := hx2.grown.cell c1 hap
  have d2 := hx2.grown.cell c2 hap
  have HX2 := Lib.hid hx2
  have z2 := hx2.grown.size
  have hp2 : some w.heap.size ≠ v2.ownBlock := by
    rcases hx2.row with e | ⟨g, hg, e⟩
    · rw [e]; exact hap
    · rw [e]; intro e; injection e; omega
  have ht1 : (l ++ textE ty).length ≤ 700000042 := by
    have a1 := putB_le (ty.size : Int) (by omega) (by omega)
    have a4 : ty.data.toList.length = ty.size := rfl
    unfold textE
    simp only [List.length_append]
    omega
  clear c0 c1 c2 hx2
  go_wp2_with fail
  refine (appendInt_any B v2 (l ++ textE ty) tm w2 HX2.out.own (by omega) (by omega) (by omega) (by omega)).mono ?_; rintro e w3 ⟨v3, rfl, hx3⟩
  have e2 := hx3.grown.cell d2 hp2
  have HX3 := Lib.hid (HX2.out.trans hx3)
  have z3 := hx3.grown.size
  have hp3 : some w.heap.size ≠ v3.ownBlock := by
    rcases hx3.row with e | ⟨g, hg, e⟩
    · rw [e]; exact hp2
    · rw [e]; intro e; injection e; omega
  have ht2 : (l ++ textE ty ++ putB tm).length ≤ 700000052 := by
    have a2 := putB_le tm (by omega) (by omega)
    rw [List.length_append]
    omega
  clear d1 d2 hx3
  go_wp2_with fail
  refine (appendInt_any B v3 (l ++ textE ty ++ putB tm) vals.length w3 HX3.out.own (by omega) (by omega) (by omega) (by omega)).mono ?_; rintro e w4 ⟨v4, rfl, hx4⟩
  have f2 := hx4.grown.cell e2 hp3
  have HX4 := Lib.hid (show Ext8 B W1 v w4 v4 (l ++ pre) by
    have h := HX3.out.trans hx4
    rw [HPE.out]
    unfold evPre
    simp only [List.append_assoc] at h ⊢
    exact h)
  have z4 := hx4.grown.size
  clear e2 hx4 hp2 hp3
  go_wp2_with fail
  go_loopw [0, 23] (fun u i wr => ∃ (u' : Value) (k : Nat), u' = u ∧ k ≤ vals.length ∧ i = .int .i64 k ∧ Ext8 B W1 v wr u' (l ++ (pre ++ (vals.take k).flatMap valE))) (fun _ i _ => vals.length - (intOf i).toNat)
  case atStart => exact ⟨_, 0, rfl, Nat.zero_le _, rfl, by simpa using HX4.out⟩
  case round =>
    obtain ⟨u', k, rfl, hk, rfl, hx⟩ := hrel
    have HX := Lib.hid hx
    have hzr := hx.grown.size
    by_cases hlt : k < vals.length
    · have HVr := HV1.out.ext hx (by omega) HLO.out
      obtain ⟨b, o, rfl, hbB, hc4⟩ : ∃ b o, va = some ⟨b, o, none⟩ ∧ b < B ∧ ∀ i (h : i < vals.length), wr.cell? ⟨b, o + i * 4, none⟩ = some (.int .i64 vals[i].kind) ∧ wr.cell? ⟨b, o + i * 4 + 1, none⟩ = some (.int .i64 vals[i].int) ∧ wr.cell? ⟨b, o + i * 4 + 2, none⟩ = some (.string vals[i].str) ∧ wr.cell? ⟨b, o + i * 4 + 3, none⟩ = some (.bool vals[i].bool) := by
        rcases HVr with h | h
        · rw [h] at hlt; simp at hlt
        · exact h
      obtain ⟨x0, x1, x2, x3⟩ := hc4 k hlt
      have hle := HVLE.out k
      rw [List.length_take] at hle
      have hcl : (l ++ (pre ++ (vals.take k).flatMap valE)).length ≤ 700010000 := by
        simp only [List.length_append]
        omega
      have HT := Lib.hid (vals_take vals k hlt)
      have HOK := Lib.hid (HVO.out _ (List.getElem_mem hlt))
      obtain ⟨⟨vk, vi, vs, vb⟩, hv⟩ : ∃ a, a = vals[k] := ⟨_, rfl⟩
      rw [← hv] at x0 x1 x2 x3 HT HOK
      simp only at x0 x1 x2 x3
      clear hc4 hv hx HVr hle
      go_wp2_with fail
      refine (appendValue_any B u' (l ++ (pre ++ (vals.take k).flatMap valE)) ⟨vk, vi, vs, vb⟩ _ HOK.out (owns_below HX.out.own ((Below.refl _ wr).alloc (Nat.le_refl _) _)) (by omega) (by simp; omega)).mono ?_; rintro e w5 ⟨v5, rfl, hx5⟩
      have HX5 := Lib.hid (HX.out.trans (Ext8.pre ((Below.refl _ wr).alloc (Nat.le_refl _) _) hx5))
      clear hx5
      go_wp2_with fail
      go_roundw
      case rel => exact ⟨_, k + 1, rfl, by omega, by go_num, by have h := HX5.out; rw [HT.out]; simp only [List.append_assoc] at h ⊢; exact h⟩
      case measure => simp [intOf]; omega
    · have HE := Lib.hid (show l ++ (pre ++ (vals.take k).flatMap valE) = l ++ evE ⟨ty, tm, vals⟩ by rw [HEP.out, List.take_of_length_le (by omega)])
      clear hx
      go_wp2_with fail
      go_ret
      have h := Ext8.pre HB1.out HX.out
      rw [HE.out] at h
      exact ⟨_, rfl, h⟩

set_option maxHeartbeats 8000000 in
set_option maxRecDepth 100000 in
/-- Encode of what has a fault. -/
theorem encode_no (e : Ev) (va : Option Addr) (cap : Nat) (w : World) (hres : ResAt w) (hva : ValsIn w.heap.size w va e.vals) (hm : ∀ a ∈ e.vals, a.str.size ≤ maxLen) (hf : (evFault e == 0) = false) :
    Calls Tryd.prog 16 #[evV e va cap] w fun en w' => en = .returned (.tuple #[.slice none 0 0, .int .i64 (evFault e)]) ∧ Below w.heap.size w w' := by
  obtain ⟨W1, hW1⟩ : ∃ W1, W1 = w.alloc (Obj.cells #[.string e.ty, .int .i64 e.time, .slice va e.vals.length cap] 24) := ⟨_, rfl⟩
  have hb1 : Below w.heap.size w W1 := by rw [hW1]; exact (Below.refl _ _).alloc (Nat.le_refl _) _
  have HB1 := Lib.hid hb1
  have hz1 : w.heap.size < W1.heap.size := by rw [hW1]; simp
  have HF := Lib.hid (wfault_any e va cap W1 (hres.below hb1) ((hva.below hb1 (Nat.le_refl _)).mono (by omega)) hm)
  obtain ⟨f, hfe⟩ : ∃ f, f = evFault e := ⟨_, rfl⟩
  rw [← hfe] at hf HF ⊢
  have hf2 : (f != 0) = true := by simpa [bne] using hf
  have c0 : W1.cell? ⟨w.heap.size, 0, none⟩ = some (.string e.ty) := by rw [hW1]; simp
  have c1 : W1.cell? ⟨w.heap.size, 1, none⟩ = some (.int .i64 e.time) := by rw [hW1]; simp
  have c2 : W1.cell? ⟨w.heap.size, 2, none⟩ = some (.slice va e.vals.length cap) := by rw [hW1]; simp
  have HW1 := Lib.hid hW1
  simp only [evV] at HF ⊢
  clear hres hva hm hb1 hW1 hfe
  go_enter Tryd.func16, Tryd.ntmps16
  go_upto_region 1 with fail
  rw [← HW1.out]
  go_wp2_with fail
  refine HF.out.mono ?_; rintro e w2 ⟨rfl, hb2⟩
  go_wp2_with fail
  go_ret2
  exact ⟨rfl, HB1.out.trans (hb2.mono (by omega))⟩

set_option maxHeartbeats 8000000 in
set_option maxRecDepth 100000 in
/-- Encode of an event that may be. -/
theorem encode_ok (e : Ev) (va : Option Addr) (cap : Nat) (w : World) (hres : ResAt w) (hva : ValsIn w.heap.size w va e.vals) (hm : ∀ a ∈ e.vals, a.str.size ≤ maxLen) (he : evOk e) (hf : evFault e = 0) :
    Calls Tryd.prog 16 #[evV e va cap] w fun en w' => ∃ v', en = .returned (.tuple #[v', .int .i64 0]) ∧ w'.ownsRow w.heap.size 5 1 v' (evE e).length (bytesC (evE e)) ∧ Below w.heap.size w w' := by
  obtain ⟨W1, hW1⟩ : ∃ W1, W1 = w.alloc (Obj.cells #[.string e.ty, .int .i64 e.time, .slice va e.vals.length cap] 24) := ⟨_, rfl⟩
  have hb1 : Below w.heap.size w W1 := by rw [hW1]; exact (Below.refl _ _).alloc (Nat.le_refl _) _
  have HB1 := Lib.hid hb1
  have hz1 : w.heap.size < W1.heap.size := by rw [hW1]; simp
  have HF := Lib.hid (wfault_any e va cap W1 (hres.below hb1) ((hva.below hb1 (Nat.le_refl _)).mono (by omega)) hm)
  rw [hf] at HF
  have HV1 := Lib.hid (hva.below hb1 (Nat.le_refl _))
  have HOK := Lib.hid he
  have c0 : W1.cell? ⟨w.heap.size, 0, none⟩ = some (.string e.ty) := by rw [hW1]; simp
  have c1 : W1.cell? ⟨w.heap.size, 1, none⟩ = some (.int .i64 e.time) := by rw [hW1]; simp
  have c2 : W1.cell? ⟨w.heap.size, 2, none⟩ = some (.slice va e.vals.length cap) := by rw [hW1]; simp
  have HW1 := Lib.hid hW1
  clear hres hva hm hb1 hW1 he hf
  have HAP := Lib.hid (fun (W : World) (h1 : ValsIn w.heap.size W va e.vals) (h2 : w.heap.size ≤ W.heap.size) => appendEvent_any w.heap.size (.slice none 0 0) [] e va cap W HOK.out h1 (owns_nil _ _) (by simp) h2)
  simp only [evV] at HF HAP ⊢
  go_enter Tryd.func16, Tryd.ntmps16
  go_upto_region 1 with fail
  rw [← HW1.out]
  go_wp2_with fail
  refine HF.out.mono ?_; rintro en w2 ⟨rfl, hb2⟩
  have d0 := (hb2.cell (p := ⟨w.heap.size, 0, none⟩) hz1).trans c0
  have d1 := (hb2.cell (p := ⟨w.heap.size, 1, none⟩) hz1).trans c1
  have d2 := (hb2.cell (p := ⟨w.heap.size, 2, none⟩) hz1).trans c2
  have HB2 := Lib.hid (HB1.out.trans (hb2.mono (by omega)))
  have HV2 := Lib.hid (HV1.out.below hb2 (by omega))
  have z2 := hb2.size
  clear c0 c1 c2 hb2
  go_wp2_with fail
  refine (HAP.out w2 HV2.out (by omega)).mono ?_; rintro en w3 ⟨v3, rfl, hx3⟩
  go_wp2_with fail
  go_ret2
  exact ⟨_, rfl, hx3.own, HB2.out.trans (hx3.fresh.mono (by omega))⟩
end Go.Proofs.YtekaimfabadclaaDoor
