/- Package schema, the reader's attributes at a text that spells them. -/
import Derived.Test.YtpcmhbafcgineaaDoorAttrib
import Derived.Test.YtpcmhbafcgineaaDoorToks
import Derived.Test.YtpcmhbafcgineaaDoorTyped
namespace Go.Proofs.YtpcmhbafcgineaaDoor
open Go Go.RowKit

def lenOf : Value → Nat | .slice _ n _ => n | _ => 0
theorem own_to {rb : Nat} {w w' : World} {q base : Nat} {e : TypeId} {size : Nat} {v : Value} {n : Nat} {xs : List Value} (h : ReadTo rb w w' q) (ho : w.ownsRow base e size v n xs) (hb : rb < base) : w'.ownsRow base e size v n xs := by
  have h1 := ownsRow_setCell_below ho (a := ⟨rb, 1, none⟩) (by simpa using hb) (.int .i64 q)
  refine ownsRow_below h1 ?_
  rw [size_set]
  exact h
theorem ReadTo.grown {rb : Nat} {w w' w'' : World} {q : Nat} {row : Option Nat} (h : ReadTo rb w w' q) (hg : w'.grownBy w'' row) (hr : ∀ k, row = some k → w.heap.size ≤ k) : ReadTo rb w w'' q := Below.grown h hg h.size hr
theorem res_to {rb : Nat} {w w' : World} {q : Nat} (h : ReadTo rb w w' q) (hk : ResAt w) (hne : 0 ≠ rb) : ResAt w' := by
  have hl := hk.lt
  obtain ⟨ty, fr, hg⟩ := hk
  refine ⟨ty, fr, (h.block _ hl).trans ?_⟩
  rw [Below.heap_setCell _ _ _ _ hne]
  exact hg
theorem not_sign {s : ByteArray} (h : WordT s.data.toList) (c : UInt8) (hc : wordByte c = false) : (s.toList == (⟨#[c]⟩ : ByteArray).toList) = false := by
  rw [ByteArray.toList_eq, ByteArray.toList_eq]
  rw [← Bool.not_eq_true]
  intro e
  have e : s.data.toList = [c] := beq_iff_eq.1 e
  have := h.2
  rw [e] at this
  simp [hc] at this
theorem sign_apart (a b : UInt8) (h : a ≠ b) : ((⟨#[a]⟩ : ByteArray).toList == (⟨#[b]⟩ : ByteArray).toList) = false := by
  rw [ByteArray.toList_eq, ByteArray.toList_eq, ← Bool.not_eq_true]
  intro e
  have e := beq_iff_eq.1 e
  simp at e
  exact h e
theorem bytes_eta (s : ByteArray) : (⟨s.data.toList.toArray⟩ : ByteArray) = s := rfl
theorem kw_eta (k : Nat) : (⟨(kwL k).toArray⟩ : ByteArray) = kindWordB k := rfl

set_option maxHeartbeats 8000000 in
set_option maxRecDepth 100000 in
theorem attributes_ok (t : ByteArray) (p rb : Nat) (l : List SpA) (g ge : List UInt8) (w : World) (hres : ResAt w) (hkd : KindAt w) (hrk : 1 ≠ rb) (hrr : 0 ≠ rb) (hr : ReadAt w rb t p) (ht : t.size ≤ maxLen)
    (hl : l.length ≤ 16) (hgood : ∀ x ∈ l, x.Good) (hnew : ∀ k (h : k < l.length), hasB ((l.map SpA.attr).take k) l[k].n = false)
    (hL : GoodL (([40], g) :: toksA [([41], ge)] l)) (hat : AtL t p (([40], g) :: toksA [([41], ge)] l)) :
    Calls Tryd.prog 40 #[.pointer (some ⟨rb, 0, none⟩)] w fun e w' => (∃ va cap, e = .returned (.tuple #[.slice va l.length cap, .int .i64 0]) ∧ w'.ownsRow w.heap.size 38 2 (.slice va l.length cap) l.length (attrCells (l.map SpA.attr))) ∧ ∃ q, ReadTo rb w w' q ∧ AtL t q [] := by
  obtain ⟨i0, hi0, hz0, hz1, hz2⟩ := info_parts Tryd.infoAttr
  have hrl := hr.lt
  obtain ⟨a1, a2, a3⟩ := hat.step hL
  have HL1 := hL.2.2.2
  have hp := hat.1
  have HR := Lib.hid hr
  have HRes := Lib.hid hres
  have HKD := Lib.hid hkd
  have HGOOD := Lib.hid hgood
  have HNEW := Lib.hid hnew
  have HA1 := Lib.hid a1
  have HAT := Lib.hid a3
  have HG := Lib.hid HL1
  clear hr hres hkd hgood hnew a1 a3 HL1 hL hat
  obtain ⟨p1, hp1⟩ : ∃ p1, p1 = skipB t (p + 1) := ⟨_, rfl⟩
  have e1 : skipB t (p + [(40 : UInt8)].length) = p1 := hp1.symm
  rw [e1] at HAT
  have HP1 := Lib.hid hp1
  clear hp1 e1
  have hp1l := HAT.out.1
  cases l with
  | nil =>
    have s2 := HAT.out.step HG.out
    have HA2 := Lib.hid s2.1
    have HAT2 := Lib.hid s2.2.2
    clear s2
    go_enter Tryd.func40, Tryd.ntmps40
    go_wp2_with fail
    refine (pass_yes t ⟨#[40]⟩ p rb _ HR.out hp ht HA1.out).mono ?_; rintro e w2 ⟨rfl, w1, hb1, rfl⟩
    have HT := Lib.hid (ReadTo.of (rb := rb) (q := p1) hb1)
    obtain ⟨w2, hw2⟩ : ∃ w2, w2 = w1.setCell ⟨rb, 1, none⟩ (.int .i64 (p1 : Nat)) := ⟨_, rfl⟩
    have e1 : skipB t (p + (⟨#[40]⟩ : ByteArray).size) = p1 := HP1.out.symm
    rw [e1, ← hw2]
    rw [← hw2] at HT
    clear hw2 hb1 e1
    go_wp2_with fail
    refine (pass_yes t ⟨#[41]⟩ p1 rb _ (HT.out.place HR.out) hp1l ht HA2.out).mono ?_; rintro e w3 ⟨rfl, w4, hb4, rfl⟩
    have HT4 := Lib.hid (HT.out.trans (ReadTo.of (rb := rb) (q := skipB t (p1 + (⟨#[41]⟩ : ByteArray).size)) hb4))
    clear hb4
    go_wp2_with fail
    go_ret2
    exact ⟨⟨none, 0, rfl, World.ownsRow_nil _ _ _ _⟩, _, HT4.out, HAT2.out⟩
  | cons x0 r0 =>
    obtain ⟨l, hl0⟩ : ∃ l, l = x0 :: r0 := ⟨_, rfl⟩
    have hm : 0 < l.length := by rw [hl0]; simp
    rw [← hl0] at HGOOD HNEW HAT HG hl ⊢
    have HX := Lib.hid (show ((aheadB t p1).toList == (⟨#[41]⟩ : ByteArray).toList) = false by
      obtain ⟨L, e, _⟩ := toks_cons [([41], ge)] x0 r0
      have h1 := HAT.out
      have h2 := HG.out
      rw [hl0, e] at h1 h2
      rw [(h1.step h2).1, bytes_eta]
      exact not_sign (word_tok (name_isWord (attr_name (HGOOD.out x0 (by rw [hl0]; simp)).name))) 41 (by decide +kernel))
    clear hl0
    go_enter Tryd.func40, Tryd.ntmps40
    go_wp2_with fail
    refine (pass_yes t ⟨#[40]⟩ p rb _ HR.out hp ht HA1.out).mono ?_; rintro e w2 ⟨rfl, w1, hb1, rfl⟩
    have HT := Lib.hid (ReadTo.of (rb := rb) (q := p1) hb1)
    obtain ⟨w2, hw2⟩ : ∃ w2, w2 = w1.setCell ⟨rb, 1, none⟩ (.int .i64 (p1 : Nat)) := ⟨_, rfl⟩
    have e1 : skipB t (p + (⟨#[40]⟩ : ByteArray).size) = p1 := HP1.out.symm
    rw [e1, ← hw2]
    rw [← hw2] at HT
    clear hw2 hb1 e1
    go_wp2_with fail
    refine (pass_no t ⟨#[41]⟩ p1 rb _ (HT.out.place HR.out) hp1l ht HX.out).mono ?_; rintro e w3 ⟨rfl, hb3⟩
    have HT3 := Lib.hid (HT.out.below hb3)
    clear hb3
    go_wp2_with fail
    go_loopw [4] (fun v wr => ∃ (k : Nat) (va : Option Addr) (cp pk : Nat), k < l.length ∧ v = .slice va k cp ∧ wr.ownsRow w.heap.size 38 2 (.slice va k cp) k (attrCells ((l.map SpA.attr).take k)) ∧ ReadTo rb w wr pk ∧ GoodL (toksA [([41], ge)] (l.drop k)) ∧ AtL t pk (toksA [([41], ge)] (l.drop k))) (fun v _ => l.length - lenOf v)
    case atStart => exact ⟨0, none, 0, p1, hm, rfl, World.ownsRow_nil _ _ _ _, HT3.out, HG.out, HAT.out⟩
    case round =>
      obtain ⟨k, va, cp, pk, hk, rfl, hown, hto, hgl, hatk⟩ := hrel
      obtain ⟨x, hx⟩ : ∃ x, x = l[k] := ⟨_, rfl⟩
      have hxg : x.Good := by rw [hx]; exact HGOOD.out _ (List.getElem_mem hk)
      have hxn := HNEW.out k hk
      rw [← hx] at hxn
      have hdr : l.drop k = x :: l.drop (k + 1) := by rw [hx]; exact List.drop_eq_getElem_cons hk
      obtain ⟨L, eL, eL1, eL2⟩ := toks_cons [([41], ge)] x (l.drop (k + 1))
      rw [hdr, eL] at hgl hatk
      obtain ⟨s1, s2, s3⟩ := hatk.step hgl
      obtain ⟨q1, hq1⟩ : ∃ q1, q1 = skipB t (pk + x.n.size) := ⟨_, rfl⟩
      have s3' : AtL t q1 ((kwL x.k, x.g2) :: L) := by rw [hq1]; exact s3
      obtain ⟨u1, u2, u3⟩ := s3'.step hgl.2.2.2
      obtain ⟨q2, hq2⟩ : ∃ q2, q2 = skipB t (q1 + (kindWordB (x.k : Int)).size) := ⟨_, rfl⟩
      have u3' : AtL t q2 L := by rw [hq2]; exact u3
      have hGL := hgl.2.2.2.2.2.2
      obtain ⟨hca, hcc⟩ := owned_attrs (k := k) (by rw [List.length_take, List.length_map]; omega) hown
      have hkl : k = ((l.map SpA.attr).take k).length := by rw [List.length_take, List.length_map]; omega
      have hwk := wk_word x.k hxg.k1 hxg.k3
      have hwn : (wordKindB (kindWordB (x.k : Int)) == 0) = false := by rw [hwk]; exact beq_eq_false_iff_ne.2 (by have := hxg.k1; omega)
      have hpk := hatk.1
      have HAtt := attribute_ok t pk rb ((l.map SpA.attr).take k) va cp wr (res_to hto HRes.out hrr) (kind_to hto HKD.out hrk) hrk (hto.place HR.out) hpk ht hca (by omega) x.n (kindWordB (x.k : Int)) s1 hxg.name hxn q1 hq1.symm u1 hwn
      rw [← hkl, hwk, ← hq2] at HAtt
      have HATT := Lib.hid HAtt
      have HOWN := Lib.hid hown
      have HTO := Lib.hid hto
      have HU := Lib.hid u3'
      have HGL := Lib.hid hGL
      have HE1 := Lib.hid eL1
      have HE2 := Lib.hid eL2
      have hxs : x.n.size ≤ 32 := name_size (attr_name hxg.name)
      have HTK := Lib.hid (show attrCells ((l.map SpA.attr).take k) ++ [.string x.n, .int .i64 (x.k : Int)] = attrCells ((l.map SpA.attr).take (k + 1)) by
        have h := attrCells_take (l.map SpA.attr) k (by simpa using hk)
        have e : (l.map SpA.attr)[k]'(by simpa using hk) = x.attr := by simp [hx]
        rw [e] at h
        exact h)
      clear HAtt hown hto u3' u3 u2 u1 hGL eL1 eL2 eL hdr hgl hatk s1 s2 s3 s3' hq1 hq2 hca hcc hkl hwk hwn hxn hxg hx
      go_wp2_with fail
      refine HATT.out.mono ?_; rintro e w6 ⟨rfl, hto6⟩
      have HTO6 := Lib.hid (HTO.out.trans hto6)
      have HOWN6 := Lib.hid (own_to hto6 HOWN.out hrl)
      have hz6 : w.heap.size ≤ w6.heap.size := HTO6.out.size
      clear hto6
      have hy : ((w6.alloc (Obj.cells #[Value.string x.n, Value.int IntKind.i64 (x.k : Int)] 38)).alloc (Obj.cells #[Value.string x.n, Value.int IntKind.i64 (x.k : Int)] 38)).heap[w6.heap.size + 1]? = some (Obj.cells #[Value.string x.n, Value.int IntKind.i64 (x.k : Int)] 38 (0, 0)) := by
        have := heap_alloc_new (w6.alloc (Obj.cells #[Value.string x.n, Value.int IntKind.i64 (x.k : Int)] 38)) (Obj.cells #[Value.string x.n, Value.int IntKind.i64 (x.k : Int)] 38)
        rwa [World.size_alloc] at this
      have HY := Lib.hid hy
      clear hy
      go_wp2_with (at_builtin; go_must (refine wpList_append_lies _ (by rfl) _ _ _ (by rfl) w.heap.size 38 i0 _ 2 24 Tryd.underlying25 hi0 hz0 hz1 hz2 rfl (by omega) (.slice va k cp) k (attrCells ((l.map SpA.attr).take k)) (by rfl) ((HOWN6.out.alloc _).alloc _) ⟨_, 0, none⟩ 1 1 [.string x.n, .int .i64 (x.k : Int)] (by rfl) (by rfl) (World.news_of_block HY.out) (by simp [Value.oneCell']) (by omega) (by unfold maxLen; omega) (by omega) (by simp; omega) _ rfl ?_; intro g2 cap2 w7 hown7 hgrow7 hat7 hlt7))
      have HTO7 := Lib.hid (((HTO6.out.below (((Below.refl _ w6).alloc (Nat.le_refl _) (Obj.cells #[Value.string x.n, Value.int IntKind.i64 (x.k : Int)] 38)).alloc (by simp) (Obj.cells #[Value.string x.n, Value.int IntKind.i64 (x.k : Int)] 38))).grown hgrow7 (ownBlock_lo HOWN6.out)))
      rw [HTK.out] at hown7
      have HOWN7 := Lib.hid hown7
      clear hown7 hgrow7 hat7 hlt7
      have hq2l := HU.out.1
      cases hd : l.drop (k + 1) with
      | nil =>
        have eL := HE1.out hd
        have hlen : k + 1 = l.length := by
          have := congrArg List.length hd
          rw [List.length_drop] at this
          simp at this
          omega
        have st := HU.out
        have sg := HGL.out
        rw [eL] at st sg
        have s2 := st.step sg
        have HS1 := Lib.hid s2.1
        have HS2 := Lib.hid s2.2.2
        have HLEN := Lib.hid hlen
        clear hd eL hlen st sg s2
        refine (pass_yes t ⟨#[41]⟩ q2 rb _ (HTO7.out.place HR.out) hq2l ht HS1.out).mono ?_; rintro e w8 ⟨rfl, w9, hb9, rfl⟩
        have HT9 := Lib.hid (HTO7.out.trans (ReadTo.of (rb := rb) (q := skipB t (q2 + (⟨#[41]⟩ : ByteArray).size)) hb9))
        have HOWN9 := Lib.hid (own_to (ReadTo.of (rb := rb) (q := skipB t (q2 + (⟨#[41]⟩ : ByteArray).size)) hb9) HOWN7.out hrl)
        obtain ⟨w10, hw10⟩ : ∃ w10, w10 = w9.setCell ⟨rb, 1, none⟩ (.int .i64 (skipB t (q2 + (⟨#[41]⟩ : ByteArray).size) : Nat)) := ⟨_, rfl⟩
        rw [← hw10] at HT9 HOWN9 ⊢
        clear hb9 hw10
        go_wp2_with fail
        go_ret2
        have ho := HOWN9.out
        rw [List.take_of_length_le (by rw [List.length_map]; exact Nat.le_of_eq HLEN.out.symm), HLEN.out] at ho
        exact ⟨⟨some ⟨g2, 0, none⟩, cap2, by rw [HLEN.out]; rfl, ho⟩, _, HT9.out, HS2.out⟩
      | cons y r =>
        have eL := HE2.out y r hd
        have hlen : k + 1 < l.length := by
          have := congrArg List.length hd
          rw [List.length_drop] at this
          simp at this
          omega
        have st := HU.out
        have sg := HGL.out
        rw [eL] at st sg
        have s2 := st.step sg
        obtain ⟨q3, hq3⟩ : ∃ q3, q3 = skipB t (q2 + (⟨#[44]⟩ : ByteArray).size) := ⟨_, rfl⟩
        have HS1 := Lib.hid s2.1
        have HS2 := Lib.hid (show AtL t q3 (toksA [([41], ge)] (l.drop (k + 1))) by rw [hq3]; exact s2.2.2)
        have HSG := Lib.hid sg.2.2.2
        have HN := Lib.hid (show ((aheadB t q2).toList == (⟨#[41]⟩ : ByteArray).toList) = false by rw [s2.1]; exact sign_apart 44 41 (by decide))
        have HQ3 := Lib.hid hq3
        clear hd eL st sg s2 hq3
        refine (pass_no t ⟨#[41]⟩ q2 rb _ (HTO7.out.place HR.out) hq2l ht HN.out).mono ?_; rintro e w8 ⟨rfl, hb8⟩
        have HT8 := Lib.hid (HTO7.out.below hb8)
        have HOWN8 := Lib.hid (ownsRow_below HOWN7.out hb8)
        clear hb8
        go_wp2_with fail
        refine (pass_yes t ⟨#[44]⟩ q2 rb _ (HT8.out.place HR.out) hq2l ht HS1.out).mono ?_; rintro e w9 ⟨rfl, w10, hb10, rfl⟩
        rw [← HQ3.out]
        have HT11 := Lib.hid (HT8.out.trans (ReadTo.of (rb := rb) (q := q3) hb10))
        have HOWN11 := Lib.hid (own_to (ReadTo.of (rb := rb) (q := q3) hb10) HOWN8.out hrl)
        obtain ⟨w11, hw11⟩ : ∃ w11, w11 = w10.setCell ⟨rb, 1, none⟩ (.int .i64 (q3 : Nat)) := ⟨_, rfl⟩
        rw [← hw11] at HT11 HOWN11 ⊢
        clear hb10 hw11
        go_wp2_with fail
        go_roundw
        case rel => exact ⟨k + 1, some ⟨g2, 0, none⟩, cap2, q3, hlen, rfl, HOWN11.out, HT11.out, HSG.out, HS2.out⟩
        case measure => simp [lenOf]; omega
end Go.Proofs.YtpcmhbafcgineaaDoor
