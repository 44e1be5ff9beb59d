/- The two texts of the law on declarations: both spell the type. -/
import Derived.Test.YtpcmhbafcgineaaDoorToks
import Derived.Test.YtpcmhbafcgineaaDoorGap
import Derived.Test.YtpcmhbafcgineaaDoorPrint
namespace Go.Proofs.YtpcmhbafcgineaaDoor
open Go

/-- Attributes as they are spelt with gaps from a place on. -/
def spsL (F : Nat → Bool → List UInt8) : Nat → List Attr → List SpA
  | _, [] => []
  | i, a :: l => ⟨a.1, a.2.toNat, F (3 * i + 6) true, F (3 * i + 7) false, F (3 * i + 8) false⟩ :: spsL F (i + 1) l
/-- One attribute's text. -/
def itemT (F : Nat → Bool → List UInt8) (i : Nat) (a : Attr) : List UInt8 := (if 0 < i then F (3 * i + 4) false ++ ([44] ++ F (3 * i + 5) false) else []) ++ (a.1.data.toList ++ (F (3 * i + 6) true ++ (kindWordB a.2).data.toList))
def itemsL (F : Nat → Bool → List UInt8) : Nat → List Attr → List UInt8
  | _, [] => []
  | i, a :: l => itemT F i a ++ itemsL F (i + 1) l
theorem items_snoc (F : Nat → Bool → List UInt8) : ∀ (l : List Attr) (i : Nat) (a : Attr), itemsL F i (l ++ [a]) = itemsL F i l ++ itemT F (i + l.length) a
  | [], i, a => by simp [itemsL]
  | b :: l, i, a => by
    simp only [List.cons_append, itemsL]
    rw [items_snoc F l (i + 1) a, List.append_assoc]
    congr 3
    simp
    omega
theorem items_take (F : Nat → Bool → List UInt8) (l : List Attr) (k : Nat) (hk : k < l.length) : itemsL F 0 (l.take (k + 1)) = itemsL F 0 (l.take k) ++ itemT F k l[k] := by
  rw [List.take_succ_eq_append_getElem hk, items_snoc, List.length_take]
  congr 2
  omega
theorem spell_cons (p : List UInt8 × List UInt8) (L : List (List UInt8 × List UInt8)) : spell (p :: L) = p.1 ++ (p.2 ++ spell L) := by simp [spell]
theorem kwL_eq {k : Int} (h : 0 ≤ k) : kwL k.toNat = (kindWordB k).data.toList := by unfold kwL; rw [Int.toNat_of_nonneg h]
/-- Behind the bracket that opens. -/
theorem spell_items (F : Nat → Bool → List UInt8) (e : List (List UInt8 × List UInt8)) : ∀ (l : List Attr) (i : Nat), (∀ a ∈ l, 0 ≤ a.2) → l ≠ [] → (if 0 < i then F (3 * i + 4) false ++ ([44] ++ F (3 * i + 5) false) else []) ++ spell (toksA e (spsL F i l)) = itemsL F i l ++ (F (3 * (i + l.length) + 4) false ++ spell e)
  | [], _, _, h => absurd rfl h
  | [a], i, h, _ => by
    have e1 : 3 * (i + [a].length) + 4 = 3 * i + 7 := by simp; omega
    simp only [spsL, toksA, spell_cons, itemsL, itemT, List.append_nil, e1, kwL_eq (h a (by simp)), List.append_assoc]
  | a :: b :: l, i, h, _ => by
    have ih := spell_items F e (b :: l) (i + 1) (fun x hx => h x (by simp only [List.mem_cons] at hx ⊢; exact Or.inr hx)) (by simp)
    have e1 : 3 * (i + 1 + (b :: l).length) + 4 = 3 * (i + (a :: b :: l).length) + 4 := by simp; omega
    have e2 : 3 * (i + 1) + 4 = 3 * i + 7 := by omega
    have e3 : 3 * (i + 1) + 5 = 3 * i + 8 := by omega
    rw [if_pos (by omega), e1, e2, e3] at ih
    rw [itemsL, List.append_assoc, ← ih]
    simp only [spsL, toksA, spell_cons, itemT, kwL_eq (h a (by simp)), List.append_assoc]
theorem sps_length (F : Nat → Bool → List UInt8) : ∀ (l : List Attr) (i : Nat), (spsL F i l).length = l.length
  | [], _ => rfl
  | a :: l, i => by simp [spsL, sps_length F l]
theorem sps_attr (F : Nat → Bool → List UInt8) : ∀ (l : List Attr) (i : Nat), (∀ a ∈ l, 0 ≤ a.2) → (spsL F i l).map SpA.attr = l
  | [], _, _ => rfl
  | a :: l, i, h => by
    simp only [spsL, List.map_cons, SpA.attr]
    rw [sps_attr F l (i + 1) (fun x hx => h x (by simp [hx])), Int.toNat_of_nonneg (h a (by simp))]
/-- Gaps that may be. -/
structure GapsOk (F : Nat → Bool → List UInt8) : Prop where
  blank : ∀ k b, (F k b).all blankB = true
  some : ∀ k, F k true ≠ []
  short : ∀ k b, (F k b).length ≤ 3
theorem sps_good (F : Nat → Bool → List UInt8) (hF : GapsOk F) : ∀ (l : List Attr) (i : Nat), (∀ a ∈ l, attrNameB a.1 = true ∧ 1 ≤ a.2 ∧ a.2 ≤ 3) → ∀ x ∈ spsL F i l, x.Good
  | [], _, _, x, hx => by cases hx
  | a :: l, i, h, x, hx => by
    simp only [spsL, List.mem_cons] at hx
    have ha := h a (by simp)
    rcases hx with rfl | hx
    · exact ⟨ha.1, by simp only; omega, by simp only; omega, hF.blank _ _, hF.some _, hF.blank _ _, hF.blank _ _⟩
    · exact sps_good F hF l (i + 1) (fun y hy => h y (by simp [hy])) x hx
/-- The whole text. -/
def preL (F : Nat → Bool → List UInt8) (n : ByteArray) : List UInt8 := F 0 false ++ ([84, 89, 80, 69] ++ (F 1 true ++ (n.data.toList ++ (F 2 false ++ ([40] ++ F 3 false)))))
def wholeL (F : Nat → Bool → List UInt8) (n : ByteArray) (l : List Attr) : List UInt8 := preL F n ++ (itemsL F 0 l ++ (F (3 * l.length + 4) false ++ ([41] ++ F (3 * l.length + 5) false)))
def toksW (F : Nat → Bool → List UInt8) (n : ByteArray) (l : List Attr) : List (List UInt8 × List UInt8) := declToks (F 1 true) (F 2 false) (if l = [] then F 3 false ++ F 4 false else F 3 false) (F (3 * l.length + 5) false) n (spsL F 0 l)
theorem whole_spells (F : Nat → Bool → List UInt8) (n : ByteArray) (l : List Attr) (h : ∀ a ∈ l, 0 ≤ a.2) : wholeL F n l = F 0 false ++ spell (toksW F n l) := by
  unfold wholeL preL toksW declToks
  simp only [spell_cons, List.append_assoc]
  congr 6
  by_cases hl : l = []
  · subst hl
    simp [itemsL, spsL, toksA, spell]
  · have hs := spell_items F [([41], F (3 * l.length + 5) false)] l 0 h hl
    simp only [Nat.lt_irrefl, if_false, List.nil_append, Nat.zero_add] at hs
    rw [hs, if_neg hl]
    simp [spell]
theorem toks_ok (F : Nat → Bool → List UInt8) (hF : GapsOk F) (n : ByteArray) (l : List Attr) (hn : nameB n = true) (h : ∀ a ∈ l, attrNameB a.1 = true ∧ 1 ≤ a.2 ∧ a.2 ≤ 3) : GoodL (toksW F n l) := by
  refine decl_good _ _ _ _ n _ hn (sps_good F hF l 0 h) (hF.blank _ _) (hF.some _) (hF.blank _ _) ?_ (hF.blank _ _)
  split
  · rw [List.all_append, hF.blank, hF.blank]; rfl
  · exact hF.blank _ _
theorem item_len (F : Nat → Bool → List UInt8) (hF : GapsOk F) (i : Nat) (a : Attr) (ha : a.1.size ≤ 32) : (itemT F i a).length ≤ 46 := by
  have h1 := hF.short (3 * i + 4) false
  have h2 := hF.short (3 * i + 5) false
  have h3 := hF.short (3 * i + 6) true
  have h4 : (kindWordB a.2).data.toList.length ≤ 4 := kw_size a.2
  have h5 : a.1.data.toList.length ≤ 32 := ha
  unfold itemT
  split
  · simp only [List.length_append, List.length_cons, List.length_nil]; omega
  · simp only [List.length_append, List.length_nil]; omega
theorem items_len (F : Nat → Bool → List UInt8) (hF : GapsOk F) : ∀ (l : List Attr) (i : Nat), (∀ a ∈ l, a.1.size ≤ 32) → (itemsL F i l).length ≤ 46 * l.length
  | [], _, _ => by simp [itemsL]
  | a :: l, i, h => by
    have h1 := item_len F hF i a (h a (by simp))
    have h2 := items_len F hF l (i + 1) (fun x hx => h x (by simp [hx]))
    simp only [itemsL, List.length_append, List.length_cons]
    omega
theorem pre_len (F : Nat → Bool → List UInt8) (hF : GapsOk F) (n : ByteArray) (hn : n.size ≤ 32) : (preL F n).length ≤ 49 := by
  have h1 := hF.short 0 false
  have h2 := hF.short 1 true
  have h3 := hF.short 2 false
  have h4 := hF.short 3 false
  have h5 : n.data.toList.length ≤ 32 := hn
  unfold preL
  simp only [List.length_append, List.length_cons, List.length_nil]
  omega
theorem whole_len (F : Nat → Bool → List UInt8) (hF : GapsOk F) (n : ByteArray) (l : List Attr) (hn : n.size ≤ 32) (hl : l.length ≤ 16) (hls : ∀ a ∈ l, a.1.size ≤ 32) : (wholeL F n l).length ≤ 800 := by
  have h1 := pre_len F hF n hn
  have h2 := items_len F hF l 0 hls
  have h3 := hF.short (3 * l.length + 4) false
  have h4 := hF.short (3 * l.length + 5) false
  unfold wholeL
  simp only [List.length_append, List.length_cons, List.length_nil]
  omega

/-- The law's own gaps. -/
def lawF (sp : List UInt8) (k : Nat) (b : Bool) : List UInt8 := (gapB sp k b).data.toList
theorem gapW_ok : ∀ r : Fin 6, (gapW r).data.toList.all blankB = true ∧ (gapW r).data.toList.length ≤ 3 ∧ (r.val ≠ 0 → (gapW r).data.toList ≠ []) := by decide +kernel
theorem gapR_ok (sp : List UInt8) (k : Nat) : (gapR sp k).data.toList.all blankB = true ∧ (gapR sp k).data.toList.length ≤ 3 := by
  unfold gapR
  split
  · have := gapW_ok ⟨(sp.getD k 0).toNat % 6, Nat.mod_lt _ (by decide)⟩
    exact ⟨this.1, this.2.1⟩
  · decide
theorem lawF_ok (sp : List UInt8) : GapsOk (lawF sp) where
  blank := by
    intro k b
    unfold lawF gapB
    split
    · decide +kernel
    · exact (gapR_ok sp k).1
  some := by
    intro k
    unfold lawF gapB
    split
    · decide
    · rename_i h
      intro e
      apply h
      rw [ByteArray.toList_eq, e]
      rfl
  short := by
    intro k b
    unfold lawF gapB
    split
    · decide
    · exact (gapR_ok sp k).2
/-- The gaps of a printed text. -/
def printF (m : Nat) (k : Nat) (b : Bool) : List UInt8 := if b = true ∨ (k % 3 = 2 ∧ k < 3 * m + 5) then [32] else []
theorem printF_ok (m : Nat) : GapsOk (printF m) where
  blank := by intro k b; unfold printF; split <;> decide +kernel
  some := by intro k; unfold printF; rw [if_pos (Or.inl rfl)]; decide
  short := by intro k b; unfold printF; split <;> decide
theorem printF_no (m k : Nat) (h : ¬ (k % 3 = 2 ∧ k < 3 * m + 5)) : printF m k false = [] := by unfold printF; rw [if_neg (by simp only [Bool.false_eq_true, false_or]; exact h)]
theorem printF_yes (m k : Nat) (h : k % 3 = 2 ∧ k < 3 * m + 5) : printF m k false = [32] := by unfold printF; rw [if_pos (Or.inr h)]
theorem printF_true (m k : Nat) : printF m k true = [32] := by unfold printF; rw [if_pos (Or.inl rfl)]
theorem attrS_list (a : Attr) : (attrS a).data.toList = a.1.data.toList ++ ([32] ++ (kindWordB a.2).data.toList) := by
  unfold attrS
  simp [ByteArray.data_append]
theorem print_items (m : Nat) : ∀ (l : List Attr) (i : Nat), i + l.length ≤ m → l ≠ [] → itemsL (printF m) i l = (if 0 < i then [44, 32] else []) ++ Lib.join ((l.map attrS).map (·.data.toList)) [44, 32]
  | [], _, _, h => absurd rfl h
  | [a], i, hi, _ => by
    have hi : i + 1 ≤ m := hi
    simp only [itemsL, itemT, List.map_cons, List.map_nil, Lib.join_one, attrS_list, printF_true, printF_no m (3 * i + 4) (by omega), printF_yes m (3 * i + 5) (by omega), List.append_nil, List.nil_append]
    rfl
  | a :: b :: l, i, hi, _ => by
    have hi' : i + (l.length + 1 + 1) ≤ m := hi
    have ih := print_items m (b :: l) (i + 1) (by simp only [List.length_cons]; omega) (by simp)
    rw [itemsL, ih, if_pos (by omega)]
    simp only [itemT, List.map_cons, join_cc, attrS_list, printF_true, printF_no m (3 * i + 4) (by omega), printF_yes m (3 * i + 5) (by omega), List.nil_append, List.append_assoc]
    rfl
theorem print_whole (n : ByteArray) (l : List Attr) : (printB n l).data.toList = wholeL (printF l.length) n l := by
  have hj : (joinS l).data.toList = itemsL (printF l.length) 0 l := by
    by_cases hl : l = []
    · subst hl; rfl
    · rw [print_items l.length l 0 (by omega) hl]
      rfl
  unfold printB wholeL preL
  simp only [ByteArray.data_append, Array.toList_append, hj, printF_true, printF_no l.length 0 (by omega), printF_yes l.length 2 (by omega), printF_no l.length 3 (by omega), printF_no l.length (3 * l.length + 4) (by omega), printF_no l.length (3 * l.length + 5) (by omega), List.append_assoc, List.nil_append, List.append_nil]
  rfl
/-- The types that the law makes. -/
theorem typed_take (ss : List ByteArray) (zs : List Int) : ∀ (m k : Nat), k ≤ m → (typedL ss zs m).take k = typedL ss zs k
  | 0, k, h => by obtain rfl : k = 0 := by omega
                  rfl
  | m + 1, k, h => by
    rcases Nat.lt_or_ge k (m + 1) with h1 | h1
    · rw [typedL, List.take_append_of_le_length (by rw [typedL_length]; omega)]
      exact typed_take ss zs m k (by omega)
    · obtain rfl : k = m + 1 := by omega
      rw [List.take_of_length_le (by rw [typedL_length]; omega)]
theorem typed_attrs (ss : List ByteArray) (zs : List Int) (m : Nat) (hm : m ≤ 16) : ∀ a ∈ typedL ss zs m, attrNameB a.1 = true ∧ 1 ≤ a.2 ∧ a.2 ≤ 3 := by
  induction m with
  | zero => intro a ha; simp [typedL] at ha
  | succ k ih =>
    intro a ha
    rw [typedL, List.mem_append] at ha
    rcases ha with ha | ha
    · exact ih (by omega) a ha
    · simp only [List.mem_singleton] at ha
      subst ha
      exact ⟨nm_attr ss _ k (by omega), by simp only; omega, by simp only; omega⟩
theorem typed_new (ss : List ByteArray) (zs : List Int) (m : Nat) (hm : m ≤ 16) (k : Nat) (h : k < (typedL ss zs m).length) : hasB ((typedL ss zs m).take k) ((typedL ss zs m)[k]).1 = false := by
  rw [typedL_length] at h
  have e1 := typed_take ss zs m (k + 1) (by omega)
  have e2 : (typedL ss zs m)[k]'(by rw [typedL_length]; omega) = (nmB ss (typedL ss zs k) k, 1 + zs.getD k 0 % 3) := by
    have h1 : ((typedL ss zs m).take (k + 1))[k]? = (typedL ss zs (k + 1))[k]? := by rw [e1]
    rw [List.getElem?_take, if_pos (by omega), typedL, List.getElem?_append_right (by rw [typedL_length]; omega), typedL_length] at h1
    simp only [Nat.sub_self, List.getElem?_cons_zero] at h1
    exact (List.getElem?_eq_some_iff.1 h1).2
  rw [typed_take ss zs m k (by omega), e2]
  exact nm_new ss zs k (by omega)
end Go.Proofs.YtpcmhbafcgineaaDoor
