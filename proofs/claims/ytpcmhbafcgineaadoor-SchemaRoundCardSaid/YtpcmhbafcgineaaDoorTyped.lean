/- The types that the laws make: for every name, list of names and list of kinds. -/
import Derived.Test.YtpcmhbafcgineaaDoorOwn
import Derived.Test.YtpcmhbafcgineaaDoorVals
import Derived.Deep.Cut
import Derived.Deep.DeepCutAuto
import Derived.Deep.RegionLaw
import Derived.Deep.AppendLies
namespace Go.Proofs.YtpcmhbafcgineaaDoor
open Go Go.RowKit

/-- The cells of a list of strings lie from an address on. -/
def StrsAt (w : World) (ao : Option Addr) (l : List ByteArray) : Prop :=
  l = [] ∨ ∃ b o, ao = some ⟨b, o, none⟩ ∧ ∀ i (h : i < l.length), w.cell? ⟨b, o + i, none⟩ = some (.string l[i])
/-- The cells of a list of numbers lie from an address on. -/
def IntsAt (w : World) (ao : Option Addr) (l : List Int) : Prop :=
  l = [] ∨ ∃ b o, ao = some ⟨b, o, none⟩ ∧ ∀ i (h : i < l.length), w.cell? ⟨b, o + i, none⟩ = some (.int .i64 l[i])

theorem owned_attrs {w : World} {base : Nat} {va : Option Addr} {k cap : Nat} {l : List Attr} (hk : l.length = k) (h : w.ownsRow base 38 2 (.slice va k cap) k (attrCells l)) : AttrsAt w va l ∧ k ≤ cap := by
  rcases h.2 with ⟨e, h0⟩ | ⟨g, cap', cur, e, _⟩
  · subst h0
    exact ⟨Or.inl (List.eq_nil_of_length_eq_zero hk), Nat.zero_le _⟩
  · subst hk
    cases e
    exact ⟨(AttrsAt.owned h).1, (AttrsAt.owned h).2.1⟩
/-- Whether the name given for round k is taken. -/
def condB (ss : List ByteArray) (k : Nat) : Bool := match ss[k]? with
  | some s => takesB s
  | none => false

theorem pick_cond_true {ss : List ByteArray} {k : Nat} (h : condB ss k = true) (hk : k < ss.length) : pickB ss k = ss[k] := by
  unfold condB at h
  unfold pickB
  rw [List.getElem?_eq_getElem hk] at h ⊢
  simp only at h ⊢
  rw [if_pos h]
theorem pick_cond_false {ss : List ByteArray} {k : Nat} (h : condB ss k = false) : pickB ss k = altB k := by
  unfold condB at h
  unfold pickB
  cases hk : ss[k]? with
  | none => rfl
  | some s =>
    rw [hk] at h
    simp only at h ⊢
    rw [if_neg (by rw [h]; simp)]
theorem cond_lt {ss : List ByteArray} {k : Nat} (h : condB ss k = true) : k < ss.length := by
  rcases Nat.lt_or_ge k ss.length with h' | h'
  · exact h'
  · unfold condB at h
    rw [List.getElem?_eq_none h'] at h
    cases h
/-- The name behind j looks at those that are there. -/
def curB (ss : List ByteArray) (l : List Attr) (k j : Nat) : ByteArray := if hasB (l.take j) (pickB ss k) then altB k else pickB ss k
theorem curB_zero (ss : List ByteArray) (l : List Attr) (k : Nat) : curB ss l k 0 = pickB ss k := rfl
theorem curB_all (ss : List ByteArray) (l : List Attr) (k : Nat) (h : l.length ≤ k) : curB ss l k k = nmB ss l k := by
  unfold curB nmB
  rw [List.take_of_length_le h]
theorem curB_hit (ss : List ByteArray) (l : List Attr) (k j : Nat) (hj : j < l.length) (h : (l[j].1.toList == (curB ss l k j).toList) = true) : curB ss l k (j + 1) = altB k := by
  unfold curB at h ⊢
  rw [hasB_take l _ j hj]
  cases hh : hasB (l.take j) (pickB ss k)
  · rw [hh] at h
    simp only [Bool.false_eq_true, if_false] at h
    rw [h]
    rfl
  · rfl
theorem curB_miss (ss : List ByteArray) (l : List Attr) (k j : Nat) (hj : j < l.length) (h : (l[j].1.toList == (curB ss l k j).toList) = false) : curB ss l k (j + 1) = curB ss l k j := by
  unfold curB at h ⊢
  rw [hasB_take l _ j hj]
  cases hh : hasB (l.take j) (pickB ss k)
  · rw [hh] at h
    simp only [Bool.false_eq_true, if_false] at h
    rw [h]
    rfl
  · rfl

/-- The type in the making: its block, its name, its attributes so far. -/
structure TAt (w1 wr : World) (B : Nat) (n : ByteArray) (va : Option Addr) (k cp : Nat) (l : List Attr) : Prop where
  below : Below B w1 wr
  lt : B < wr.heap.size
  c0 : wr.cell? ⟨B, 0, none⟩ = some (.string n)
  c1 : wr.cell? ⟨B, 1, none⟩ = some (.slice va k cp)
  f0 : wr.frozen? ⟨B, 0, none⟩ = false
  f1 : wr.frozen? ⟨B, 1, none⟩ = false
  own : wr.ownsRow (B + 1) 38 2 (.slice va k cp) k (attrCells l)
theorem TAt.step {w1 wr w2 : World} {B k cp : Nat} {n : ByteArray} {va : Option Addr} {l : List Attr} (h : TAt w1 wr B n va k cp l) (hb : Below wr.heap.size wr w2) : TAt w1 w2 B n va k cp l :=
  ⟨h.below.trans (hb.mono (Nat.le_of_lt h.lt)), Nat.lt_of_lt_of_le h.lt hb.size, (hb.cell (p := ⟨B, 0, none⟩) h.lt).trans h.c0, (hb.cell (p := ⟨B, 1, none⟩) h.lt).trans h.c1, (hb.frozen (p := ⟨B, 0, none⟩) h.lt).trans h.f0, (hb.frozen (p := ⟨B, 1, none⟩) h.lt).trans h.f1, ownsRow_below h.own hb⟩

theorem ownBlock_ne {w : World} {base : Nat} {e : TypeId} {size n B : Nat} {v : Value} {xs : List Value} (h : w.ownsRow base e size v n xs) (hB : B < base) : some B ≠ v.ownBlock := by
  rcases h.2 with ⟨e, _⟩ | ⟨g, cap', cur, e, hg, _⟩
  · rw [e]; simp [Value.ownBlock]
  · rw [e]
    simp only [Value.ownBlock]
    intro e
    cases e
    omega
theorem ownBlock_lo {w : World} {base : Nat} {e : TypeId} {size n : Nat} {v : Value} {xs : List Value} (h : w.ownsRow base e size v n xs) : ∀ k, v.ownBlock = some k → base ≤ k := by
  intro k hk
  rcases h.2 with ⟨e, _⟩ | ⟨g, cap', cur, e, hg, _⟩
  · rw [e] at hk; simp [Value.ownBlock] at hk
  · rw [e] at hk
    simp only [Value.ownBlock] at hk
    cases hk
    exact hg
theorem undrew2 {w w' : World} {row : Option Nat} (h : w.drew.grownBy w' row) : w.grownBy w' row := ⟨h.os, h.tape, h.output, h.size, h.block⟩

/-- Behind the growth of the attributes' row. -/
theorem TAt.far {w1 wr w7 : World} {B k cp : Nat} {n : ByteArray} {va : Option Addr} {l : List Attr} {o : Obj} (h : TAt w1 wr B n va k cp l) (hg : (wr.alloc o).grownBy w7 (Value.slice va k cp).ownBlock) :
    w7.cell? ⟨B, 0, none⟩ = some (.string n) ∧ w7.cell? ⟨B, 1, none⟩ = some (.slice va k cp) ∧ w7.frozen? ⟨B, 0, none⟩ = false ∧ w7.frozen? ⟨B, 1, none⟩ = false ∧ Below B w1 w7 ∧ B < w7.heap.size := by
  have hne := ownBlock_ne h.own (Nat.lt_succ_self B)
  have hb : Below wr.heap.size wr (wr.alloc o) := (Below.refl _ _).alloc (Nat.le_refl _) _
  have hlt : B < (wr.alloc o).heap.size := by have := h.lt; simp; omega
  have ha := h.step hb
  have blk := hg.block B hlt hne
  exact ⟨(World.cell?_of_block (a := ⟨B, 0, none⟩) blk).trans ha.c0, (World.cell?_of_block (a := ⟨B, 1, none⟩) blk).trans ha.c1, (World.frozen?_of_block (a := ⟨B, 0, none⟩) blk).trans ha.f0, (World.frozen?_of_block (a := ⟨B, 1, none⟩) blk).trans ha.f1,
    ha.below.grown hg (Nat.le_of_lt hlt) (fun k hk => Nat.le_of_lt (ownBlock_lo h.own k hk)), Nat.lt_of_lt_of_le hlt hg.size⟩
/-- .. and of the store of what it is then. -/
theorem TAt.next {w1 w7 : World} {B g k cp : Nat} {n : ByteArray} {v : Value} {l : List Attr} (c0 : w7.cell? ⟨B, 0, none⟩ = some (.string n)) (c1 : w7.cell? ⟨B, 1, none⟩ = some v) (f0 : w7.frozen? ⟨B, 0, none⟩ = false) (f1 : w7.frozen? ⟨B, 1, none⟩ = false) (hb : Below B w1 w7) (hlt : B < w7.heap.size)
    (ho : w7.ownsRow (B + 1) 38 2 (.slice (some ⟨g, 0, none⟩) k cp) k (attrCells l)) : TAt w1 (w7.setCell ⟨B, 1, none⟩ (.slice (some ⟨g, 0, none⟩) k cp)) B n (some ⟨g, 0, none⟩) k cp l :=
  ⟨hb.setCell (Nat.le_refl _) _, by simpa [World.setCell] using hlt, (World.cell?_setCell_other _ _ _ _ (by intro e; cases e)).trans c0, World.cell?_setCell_same _ _ _ c1, (World.frozen?_setCell _ _ _ _).trans f0, (World.frozen?_setCell _ _ _ _).trans f1, ownsRow_setCell_below ho (Nat.lt_succ_self B) _⟩

set_option maxRecDepth 100000 in
set_option maxHeartbeats 8000000 in
theorem typed_any (n : ByteArray) (ss : List ByteArray) (zs : List Int) (na ka : Option Addr) (nc kc : Nat) (w : World) (hr : ResAt w) (hs : StrsAt w na ss) (hz : IntsAt w ka zs) (hzl : zs.length ≤ 9223372036854775807) :
    Calls Tryd.prog 7 #[.string n, .slice na ss.length nc, .slice ka zs.length kc] w fun e w' => (∃ va m cp, m ≤ 16 ∧ (m = zs.length ∨ m = 16 ∧ 16 ≤ zs.length) ∧ e = .returned (.agg #[.string (if nameB n = true then n else ⟨#[84]⟩), .slice va m cp]) ∧ w'.ownsRow w.heap.size 38 2 (.slice va m cp) m (attrCells (typedL ss zs m))) ∧ Below w.heap.size w w' := by
  obtain ⟨i0, hi0, hz0, hz1, hz2⟩ := info_parts Tryd.infoAttr
  have HR := Lib.hid (hr.alloc (Obj.cells #[Value.string { data := #[] }, Value.slice none 0 0] 27))
  have HRw := Lib.hid hr
  clear hr
  have HSS := Lib.hid hs
  have HZS := Lib.hid hz
  clear hs hz
  obtain ⟨n', hn'⟩ : ∃ n', n' = if nameB n = true then n else ⟨#[84]⟩ := ⟨_, rfl⟩
  rw [← hn']
  have HN' := Lib.hid hn'
  clear hn'
  go_enter Tryd.func7, Tryd.ntmps7
  go_upto_region 1 with fail
  go_cut [13] (fun s13 wx => s13 = .bool (!nameB n) ∧ Below (w.alloc (Obj.cells #[Value.string { data := #[] }, Value.slice none 0 0] 27)).heap.size (w.alloc (Obj.cells #[Value.string { data := #[] }, Value.slice none 0 0] 27)) wx)
  case first =>
    go_wp2_with (go_at_call 16; refine (name_any n _ HR.out).mono ?_; rintro e w1 ⟨rfl, hb1⟩)
    go_meet
    exact ⟨rfl, hb1⟩
  case rest =>
    obtain ⟨rfl, hb1⟩ := hcut
    obtain ⟨w1, hw1⟩ : ∃ w1, w1 = wc := ⟨_, rfl⟩
    rw [← hw1] at hb1 ⊢
    clear hw1
    go_upto_if 13 with fail
    go_cut [0] (fun s0 wx => s0 = .string n' ∧ w1 = wx)
    case first =>
      cases hn : nameB n
      · have HE := Lib.hid (show n' = ⟨#[84]⟩ by rw [HN'.out, hn]; rfl)
        go_wp2
        go_meet
        exact ⟨by rw [HE.out], rfl⟩
      · have HE := Lib.hid (show n' = n by rw [HN'.out, if_pos hn])
        go_wp2
        go_meet
        exact ⟨by rw [HE.out], rfl⟩
    case rest =>
      obtain ⟨rfl, rfl⟩ := hcut
      obtain ⟨B, hB⟩ : ∃ B, B = w1.heap.size := ⟨_, rfl⟩
      have hwB : w.heap.size + 1 ≤ B := by have := hb1.size; simp at this; omega
      have HB1 := Lib.hid hb1
      clear hb1
      have h0 := heap_alloc_new w1 (Obj.cells #[Value.string n', Value.slice none 0 0] 27)
      rw [← hB] at h0
      have HT0 := Lib.hid (show TAt w1 (w1.alloc (Obj.cells #[Value.string n', Value.slice none 0 0] 27)) B n' none 0 0 [] from
        ⟨by rw [hB]; exact (Below.refl _ _).alloc (Nat.le_refl _) _, by rw [hB]; simp, by simp [World.cell?, h0], by simp [World.cell?, h0], by simp [World.frozen?, h0], by simp [World.frozen?, h0], ⟨rfl, Or.inl ⟨rfl, rfl⟩⟩⟩)
      clear h0
      go_wp2_with fail
      rw [← hB]
      have HBB := Lib.hid hB
      clear hB
      go_loopw [8] (fun i wr => ∃ (k cp : Nat) (va : Option Addr), k ≤ zs.length ∧ k ≤ 16 ∧ i = .int .i64 k ∧ TAt w1 wr B n' va k cp (typedL ss zs k)) (fun i _ => 16 - (intOf i).toNat)
      case atStart => exact ⟨0, 0, none, Nat.zero_le _, Nat.zero_le _, rfl, HT0.out⟩
      case round =>
        obtain ⟨k, cp, va, hk1, hk2, rfl, hta⟩ := hrel
        obtain ⟨wo, rfl⟩ : ∃ wo : World, wo = wr := ⟨_, rfl⟩
        have HT := Lib.hid hta
        clear hta
        by_cases hl : k < zs.length ∧ k < 16
        · obtain ⟨hl1, hl2⟩ := hl
          have hds := decS_size k
          have HBw := Lib.hid (show Below w.heap.size w wo from (below_new HB1.out).trans (HT.out.below.mono (by omega)))
          have hzB := HT.out.lt
          go_upto_region 8 with (go_at_call 18; refine (decimal_any k _ (by omega)).mono ?_; rintro e w3 ⟨rfl, hb3⟩)
          have HB3 := Lib.hid hb3
          have HBw3 := Lib.hid (HBw.out.trans (hb3.mono HBw.out.size))
          have HR3 := Lib.hid (HRw.out.below HBw3.out)
          have hz3 := hb3.size
          have hzw := HBw.out.size
          clear hb3
          go_cut [62] (fun s62 wx => s62 = .bool (condB ss k) ∧ Below w3.heap.size w3 wx)
          case first =>
            by_cases hks : k < ss.length
            · obtain ⟨b, o, rfl, hstr⟩ : ∃ b o, na = some ⟨b, o, none⟩ ∧ ∀ i (h : i < ss.length), w.cell? ⟨b, o + i, none⟩ = some (.string ss[i]) := by
                rcases HSS.out with h | h
                · exact absurd hks (by simp [h])
                · exact h
              have c0 := hstr k hks
              have hbl := World.block_lt_of_cell? w _ c0
              simp only at hbl
              have c3 := (HBw3.out.cell (p := ⟨b, o + k, none⟩) hbl).trans c0
              obtain ⟨s, hse⟩ : ∃ s, s = ss[k] := ⟨_, rfl⟩
              rw [← hse] at c3
              have HCB := Lib.hid (show condB ss k = takesB s by simp only [condB, List.getElem?_eq_getElem hks, hse])
              clear hstr c0 hse
              cases hnm : nameB s
              · have HE := Lib.hid (show condB ss k = false by rw [HCB.out]; simp [takesB, hnm])
                go_wp2_with (go_at_call 16; refine (name_any s _ HR3.out).mono ?_; rintro e w4 ⟨rfl, hb4⟩)
                go_meet
                exact ⟨by rw [HE.out], hb4⟩
              · have h0 : 0 < s.size := by
                  simp only [nameB, Bool.and_eq_true, decide_eq_true_eq] at hnm
                  exact isWordB_pos hnm.1.1.2
                have e0 : s.get! 0 = s[0]'h0 := get_at s 0 h0
                have hb0 : (s[0]'h0).toNat < 256 := (s[0]'h0).toNat_lt
                by_cases h98 : 98 ≤ (s[0]'h0).toNat
                · cases htm : (s.toList == [116, 105, 109, 101])
                  all_goals
                    have HE := Lib.hid (show condB ss k = !(s.toList == [116, 105, 109, 101]) by rw [HCB.out, takesB, hnm, e0, decide_eq_true h98]; rfl)
                    rw [htm] at HE
                    clear e0
                    go_wp2_with (go_at_call 16; refine (name_any s _ HR3.out).mono ?_; rintro e w4 ⟨rfl, hb4⟩; have c4 := (hb4.cell (p := ⟨b, o + k, none⟩) (by simp; omega)).trans c3)
                    go_meet
                    exact ⟨by rw [HE.out]; rfl, hb4⟩
                · have HE := Lib.hid (show condB ss k = false by rw [HCB.out, takesB, hnm, e0, decide_eq_false h98]; rfl)
                  clear e0
                  go_wp2_with (go_at_call 16; refine (name_any s _ HR3.out).mono ?_; rintro e w4 ⟨rfl, hb4⟩; have c4 := (hb4.cell (p := ⟨b, o + k, none⟩) (by simp; omega)).trans c3)
                  go_meet
                  exact ⟨by rw [HE.out], hb4⟩
            · have HE := Lib.hid (show condB ss k = false by simp only [condB, List.getElem?_eq_none (Nat.le_of_not_lt hks)])
              go_wp2_with fail
              go_meet
              exact ⟨by rw [HE.out], Below.refl _ _⟩
          case rest =>
            obtain ⟨rfl, hb4⟩ := hcut
            obtain ⟨w4, hw4⟩ : ∃ w4, w4 = wc := ⟨_, rfl⟩
            rw [← hw4] at hb4 ⊢
            clear hw4
            have HB4 := Lib.hid hb4
            have hz4 := hb4.size
            clear hb4
            go_upto_if 62 with fail
            go_cut [9] (fun s9 wx => s9 = .string (pickB ss k) ∧ w4 = wx)
            case first =>
              cases hcb : condB ss k
              · have HE := Lib.hid (pick_cond_false hcb)
                go_wp2_with fail
                go_meet
                exact ⟨by rw [HE.out]; rfl, rfl⟩
              · have hks := cond_lt hcb
                have HE := Lib.hid (pick_cond_true hcb hks)
                obtain ⟨b, o, rfl, hstr⟩ : ∃ b o, na = some ⟨b, o, none⟩ ∧ ∀ i (h : i < ss.length), w.cell? ⟨b, o + i, none⟩ = some (.string ss[i]) := by
                  rcases HSS.out with h | h
                  · exact absurd hks (by simp [h])
                  · exact h
                have c0 := hstr k hks
                have hbl := World.block_lt_of_cell? w _ c0
                simp only at hbl
                have c4 := (HB4.out.cell (p := ⟨b, o + k, none⟩) (by simp; omega)).trans ((HBw3.out.cell (p := ⟨b, o + k, none⟩) hbl).trans c0)
                obtain ⟨s, hse⟩ : ∃ s, s = ss[k] := ⟨_, rfl⟩
                rw [← hse] at c4 HE
                clear hstr c0 hse
                go_wp2_with fail
                go_meet
                exact ⟨by rw [HE.out], rfl⟩
            case rest =>
              obtain ⟨rfl, rfl⟩ := hcut
              have HBw4 := Lib.hid (HBw3.out.trans (HB4.out.mono (by omega)))
              have HT4 := Lib.hid ((HT.out.step HB3.out).step HB4.out)
              go_wp2_with fail
              go_loopw [9, 10] (fun a i wx => ∃ j : Nat, j ≤ k ∧ i = .int .i64 j ∧ a = .string (curB ss (typedL ss zs k) k j) ∧ Below w4.heap.size w4 wx) (fun _ i _ => k - (intOf i).toNat)
              case atStart => exact ⟨0, Nat.zero_le _, rfl, rfl, Below.refl _ _⟩
              case round =>
                obtain ⟨j, hj, rfl, rfl, hb5⟩ := hrel
                have HB5 := Lib.hid hb5
                have HT5 := Lib.hid (HT4.out.step hb5)
                have hz5 := hb5.size
                clear hb5
                by_cases hjk : j < k
                · have hll : j < (typedL ss zs k).length := by rw [typedL_length]; exact hjk
                  have hat := owned_attrs (typedL_length ss zs k) HT5.out.own
                  obtain ⟨g, o, hva, hcs⟩ : ∃ g o, va = some ⟨g, o, none⟩ ∧ ∀ i (h : i < (typedL ss zs k).length), wr.cell? ⟨g, o + i * 2, none⟩ = some (.string (typedL ss zs k)[i].1) ∧ wr.cell? ⟨g, o + i * 2 + 1, none⟩ = some (.int .i64 (typedL ss zs k)[i].2) := by
                    rcases hat.1 with h | h
                    · rw [h] at hll; simp at hll
                    · exact h
                  have hcp := hat.2
                  have a1 := (hcs j hll).1
                  have b1 := HT5.out.c1
                  rw [hva] at b1
                  clear hcs hat hva
                  obtain ⟨m, hm⟩ : ∃ m, m = (typedL ss zs k)[j].1 := ⟨_, rfl⟩
                  rw [← hm] at a1
                  obtain ⟨cur, hcur⟩ : ∃ cur, cur = curB ss (typedL ss zs k) k j := ⟨_, rfl⟩
                  rw [← hcur]
                  cases heq : (m.toList == cur.toList)
                  · have HE := Lib.hid (curB_miss ss (typedL ss zs k) k j hll (by rw [← hm, ← hcur]; exact heq))
                    have HM := Lib.hid hm
                    have HC := Lib.hid hcur
                    clear hm hcur
                    go_wp2_with fail
                    go_roundw
                    case rel => exact ⟨j + 1, by omega, by go_num, by rw [HE.out, ← HC.out], HB5.out⟩
                    case measure => simp [intOf]; omega
                  · have HE := Lib.hid (curB_hit ss (typedL ss zs k) k j hll (by rw [← hm, ← hcur]; exact heq))
                    have HM := Lib.hid hm
                    have HC := Lib.hid hcur
                    clear hm hcur
                    go_wp2_with (go_at_call 18; refine (decimal_any k _ (by omega)).mono ?_; rintro e w6 ⟨rfl, hb6⟩)
                    go_roundw
                    case rel => exact ⟨j + 1, by omega, by go_num, by rw [HE.out]; rfl, HB5.out.trans (hb6.mono hz5)⟩
                    case measure => simp [intOf]; omega
                · obtain rfl : j = k := by omega
                  obtain ⟨nm, hnm⟩ : ∃ nm, nm = nmB ss (typedL ss zs j) j := ⟨_, rfl⟩
                  rw [curB_all ss _ j (by rw [typedL_length]; omega), ← hnm]
                  have HL := Lib.hid (show typedL ss zs (j + 1) = typedL ss zs j ++ [(nm, 1 + zs.getD j 0 % 3)] by rw [typedL, ← hnm])
                  clear hnm
                  obtain ⟨b, o, rfl, hint⟩ : ∃ b o, ka = some ⟨b, o, none⟩ ∧ ∀ i (h : i < zs.length), w.cell? ⟨b, o + i, none⟩ = some (.int .i64 zs[i]) := by
                    rcases HZS.out with h | h
                    · exact absurd hl1 (by simp [h])
                    · exact h
                  have c0 := hint j hl1
                  have hbl := World.block_lt_of_cell? w _ c0
                  simp only at hbl
                  have HBw5 := Lib.hid (HBw4.out.trans (HB5.out.mono (by omega)))
                  have c1 := (HBw5.out.cell (p := ⟨b, o + j, none⟩) hbl).trans c0
                  obtain ⟨z, hze⟩ : ∃ z, z = zs[j] := ⟨_, rfl⟩
                  rw [← hze] at c1
                  have HG := Lib.hid (show zs.getD j 0 = z by rw [hze]; simp [List.getD, List.getElem?_eq_getElem hl1])
                  clear hint c0 hze
                  have t1 := HT5.out.c1
                  have hzB5 := HT5.out.lt
                  have hp1 := Int.emod_nonneg z (show (3 : Int) ≠ 0 by omega)
                  have hp2 := Int.emod_lt_of_pos z (show (0 : Int) < 3 by omega)
                  have hwz : IntKind.i64.wrap (1 + z % 3) = 1 + z % 3 := IntWalk.i64_in _ (by omega)
                  go_wp2_with fail
                  go_region_law (first
                    | (refine step_append_lies _ (by rfl) _ _ _ (by rfl) (B + 1) 38 i0 _ 2 24 Tryd.underlying25 hi0 hz0 hz1 hz2 rfl (by omega) (.slice va j cp) j (attrCells (typedL ss zs j)) (by rfl) (by first | exact HT5.out.own.alloc _ | exact (HT5.out.own.alloc _).drew) ⟨_, 0, none⟩ 1 1 [.string nm, .int .i64 (1 + z % 3)] (by rfl) (by rfl) (World.news_of_block (cs := #[.string nm, .int .i64 (1 + z % 3)]) (t := 38) (fr := (0, 0)) (heap_alloc_new _ _)) (by simp [Value.oneCell']) (by omega) (by unfold maxLen; omega) (by omega) (by simp; omega) _ rfl ?_; intro g2 cap2 w7 hown7 hgrow7 hat7 hlt7; obtain ⟨x0, x1, y0, y1, hbw7, hlw7⟩ := HT5.out.far (undrew2 hgrow7); have HBW7 := Lib.hid hbw7; clear hbw7)
                    | (go_simp; go_at_call 11; refine (part_any z 3 _ (by omega) (by omega)).mono ?_; rintro e w6 ⟨rfl, rfl⟩))
                  all_goals
                    clear hwz
                    go_wp2_with fail
                    go_roundw
                    case rel =>
                      refine ⟨j + 1, cap2, some ⟨g2, 0, none⟩, by omega, by omega, by go_num, ?_⟩
                      refine TAt.next x0 x1 y0 y1 HBW7.out hlw7 ?_
                      rw [HL.out, HG.out]
                      simpa [attrCells] using hown7
                    case measure => simp [intOf]; omega
        · have hm : k = zs.length ∨ k = 16 ∧ 16 ≤ zs.length := by omega
          have HBw := Lib.hid (show Below w.heap.size w wo from (below_new HB1.out).trans (HT.out.below.mono (by omega)))
          have hta := HT.out
          have c0 := hta.c0
          have c1 := hta.c1
          have r0 := (hta.below.cell (p := ⟨w.heap.size, 0, none⟩) (by simp; omega)).trans (cell_new HB1.out 0 _ rfl)
          have r1 := (hta.below.cell (p := ⟨w.heap.size, 1, none⟩) (by simp; omega)).trans (cell_new HB1.out 1 _ rfl)
          have f0 : wo.frozen? ⟨w.heap.size, 0, none⟩ = false := (hta.below.frozen (p := ⟨w.heap.size, 0, none⟩) (by simp; omega)).trans ((HB1.out.frozen (p := ⟨w.heap.size, 0, none⟩) (by simp)).trans (by simp))
          have f1 : wo.frozen? ⟨w.heap.size, 1, none⟩ = false := (hta.below.frozen (p := ⟨w.heap.size, 1, none⟩) (by simp; omega)).trans ((HB1.out.frozen (p := ⟨w.heap.size, 1, none⟩) (by simp)).trans (by simp))
          have HO := Lib.hid (ownsRow_base (ownsRow_setCell_below (ownsRow_setCell_below (a := ⟨w.heap.size, 0, none⟩) hta.own (by simp; omega) (.string n')) (a := ⟨w.heap.size, 1, none⟩) (by simp; omega) (.slice va k cp)) (base' := w.heap.size) (by omega))
          clear hta
          have hkk : (¬ k < zs.length) ∨ (k < zs.length ∧ ¬ k < 16) := by omega
          rcases hkk with hkk | ⟨hkk, hkk2⟩
          all_goals
            go_wp2_with fail
            exact bodyPost_ret (v := .agg #[.string n', .slice va k cp]) (by simp [results, Tryd.results7, go_sem, r0, r1]) rfl
              ⟨⟨va, k, cp, hk2, hm, rfl, HO.out⟩, (HBw.out.setCell (Nat.le_refl _) _).setCell (Nat.le_refl _) _⟩
end Go.Proofs.YtpcmhbafcgineaaDoor
