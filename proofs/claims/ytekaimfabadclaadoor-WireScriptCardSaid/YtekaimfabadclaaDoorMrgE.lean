/- Texts put together: Both, PackF, RefSum, RefPack, UnpackSpec, RefUnpack, Given, GivenWalk, Stands, BatchesWalk. -/
import Derived.Test.YtekaimfabadclaaDoorMrgA
import Derived.Test.YtekaimfabadclaaDoorMrgB
import Derived.Test.YtekaimfabadclaaDoorMrgC
import Derived.Test.YtekaimfabadclaaDoorMrgD
/- Encode and Decode, the program's and the document's own, said in one way. -/
namespace Go.Proofs.YtekaimfabadclaaDoor
open Go Go.RowKit

theorem evOk_of {e : Ev} (h : evFault e = 0) (hm : ∀ a ∈ e.vals, valIn a) : evOk e := by
  unfold evFault at h
  split at h
  · rename_i hn
    split at h
    · cases h
    · rename_i ht
      split at h
      · cases h
      · rename_i hl
        split at h
        · rename_i ha
          exact ⟨hn, by omega, by omega, fun v hv => ⟨List.all_eq_true.1 ha v hv, (hm v hv).2.1, (hm v hv).2.2⟩⟩
        · cases h
  · cases h
theorem enc_any (e : Ev) (va : Option Addr) (cap : Nat) (w : World) (hres : ResAt w) (hva : ValsIn w.heap.size w va e.vals) (hm : ∀ a ∈ e.vals, valIn a) :
    Calls Tryd.prog 16 #[evV e va cap] w fun en w' => EncTo e w en w' ∧ Below w.heap.size w w' := by
  by_cases h : evFault e = 0
  · exact (encode_ok e va cap w hres hva (fun a ha => (hm a ha).1) (evOk_of h hm) h).mono fun en w' ⟨v, h1, h2, h3⟩ => ⟨Or.inl ⟨h, v, h1, h2⟩, h3⟩
  · exact (encode_no e va cap w hres hva (fun a ha => (hm a ha).1) (by simpa using h)).mono fun en w' ⟨h1, h2⟩ => ⟨Or.inr ⟨h, h1⟩, h2⟩
theorem dec_any (l : List UInt8) (ao : Option Addr) (cap : Nat) (w : World) (hres : ResAt w) (hb : BytesAt w ao l) (hlc : l.length ≤ cap) (hcm : cap ≤ maxLen) :
    Calls Tryd.prog 17 #[.slice ao l.length cap] w fun en w' => DecTo l w en w' ∧ Below w.heap.size w w' :=
  (decode_core l ao cap w hres hb hlc hcm).mono fun en w' ⟨h1, h2⟩ => ⟨by
    rcases h1 with ⟨h0, g, c, he, ho⟩ | h
    · exact Or.inl ⟨h0, some ⟨g, 0, none⟩, c, he, ho⟩
    · exact Or.inr h, h2⟩
theorem owned_vals2 {w : World} {B cap : Nat} {va : Option Addr} {l : List Val} (h : w.ownsRow B 95 4 (.slice va l.length cap) l.length (valCells l)) : ValsIn w.heap.size w va l := by
  rcases h.2 with ⟨e, h0⟩ | ⟨g, cap', cur, e, _⟩
  · exact Or.inl (List.eq_nil_of_length_eq_zero h0)
  · injection e with e1 e2 e3
    subst e1
    exact owned_vals h
theorem owned_len {w : World} {B cap e size n : Nat} {va : Option Addr} {xs : List Value} (h : w.ownsRow B e size (.slice va n cap) n xs) : n ≤ maxLen := by
  rcases h.2 with ⟨e, h0⟩ | ⟨g, cap', cur, e, _, _, hn, hc, _⟩
  · rw [h0]; exact Nat.zero_le _
  · exact Nat.le_trans hn hc
/-- What Encode answers, as the comparisons want it. -/
theorem enc_form {e : Ev} {w w' : World} {en : Ending} (h : EncTo e w en w') : ∃ ao cap l, en = .returned (.tuple #[.slice ao l.length cap, .int .i64 (evFault e)]) ∧ BytesAt w' ao l ∧ l = (if evFault e = 0 then evE e else []) ∧ l.length ≤ maxLen := by
  rcases h with ⟨h0, v, rfl, ho⟩ | ⟨h0, rfl⟩
  · obtain ⟨ao, cap, rfl, hb, h1, h2⟩ := owned_bytes ho
    exact ⟨ao, cap, evE e, by rw [h0], hb, by rw [if_pos h0], Nat.le_trans h1 h2⟩
  · exact ⟨none, 0, [], rfl, Or.inl rfl, by rw [if_neg h0], by simp⟩
/-- What Decode answers. -/
def decE (l : List UInt8) : Ev := if (eventR ⟨l, 0⟩).2.fault = 0 then (eventR ⟨l, 0⟩).1 else zeroEv
def decN (l : List UInt8) : Int := if (eventR ⟨l, 0⟩).2.fault = 0 then (l.length : Int) - ((eventR ⟨l, 0⟩).2.rest.length : Int) else 0
theorem dec_form {l : List UInt8} {w w' : World} {en : Ending} (h : DecTo l w en w') : ∃ va c, en = .returned (.tuple #[evV (decE l) va c, .int .i64 (decN l), .int .i64 (eventR ⟨l, 0⟩).2.fault]) ∧ ValsIn w'.heap.size w' va (decE l).vals ∧ (decE l).vals.length ≤ maxLen := by
  rcases h with ⟨h0, va, c, rfl, ho⟩ | ⟨h0, rfl⟩
  · refine ⟨va, c, ?_, ?_, ?_⟩
    · unfold decE decN evV
      rw [if_pos h0, if_pos h0, h0]
    · unfold decE
      rw [if_pos h0]
      exact owned_vals2 ho
    · unfold decE
      rw [if_pos h0]
      exact owned_len ho
  · refine ⟨none, 0, ?_, ?_, ?_⟩
    · unfold decE decN evV
      rw [if_neg h0, if_neg h0]
      rfl
    · unfold decE
      rw [if_neg h0]
      exact Or.inl rfl
    · unfold decE
      rw [if_neg h0]
      exact Nat.zero_le _
end Go.Proofs.YtekaimfabadclaaDoor
/- Pack: with its exact fault, the program's. -/
namespace Go.Proofs.YtekaimfabadclaaDoor
open Go Go.RowKit

/-- The fault of a batch. -/
def packF (l : List Ev) : Int := if 1024 < l.length then 2 else match l.find? (fun e => evFault e != 0) with | some e => evFault e | none => if 1048576 < (batchE l).length + 4 then 2 else 0
theorem packF_long {l : List Ev} (h : 1024 < l.length) : packF l = 2 := by unfold packF; rw [if_pos h]
theorem find_none {l : List Ev} (h : ∀ e ∈ l, evFault e = 0) : l.find? (fun e => evFault e != 0) = none := by
  rw [List.find?_eq_none]
  intro e he
  simp [h e he]
theorem packF_big {l : List Ev} (h1 : ¬ 1024 < l.length) (h : ∀ e ∈ l, evFault e = 0) (h2 : 1048576 < (batchE l).length + 4) : packF l = 2 := by
  unfold packF
  rw [if_neg h1, find_none h]
  simp only
  rw [if_pos h2]
theorem packF_fine {l : List Ev} (h1 : ¬ 1024 < l.length) (h : ∀ e ∈ l, evFault e = 0) (h2 : ¬ 1048576 < (batchE l).length + 4) : packF l = 0 := by
  unfold packF
  rw [if_neg h1, find_none h]
  simp only
  rw [if_neg h2]
theorem packF_at {l : List Ev} (k : Nat) (h1 : ¬ 1024 < l.length) (_hk : k < l.length) (hok : ∀ e ∈ l.take k, evOk e) (hgo : ∀ e ∈ l, ∀ a ∈ e.vals, -9223372036854775808 ≤ a.int ∧ a.int ≤ 9223372036854775807) {e : Ev} (hx : l[k]? = some e) (hf : evFault e ≠ 0) : packF l = evFault e := by
  have h3 : l.find? (fun e => evFault e != 0) = some e := by
    have e1 : l = l.take k ++ e :: l.drop (k + 1) := by
      obtain ⟨h, rfl⟩ := List.getElem?_eq_some_iff.1 hx
      rw [← List.drop_eq_getElem_cons h, List.take_append_drop]
    rw [e1, List.find?_append, find_none (fun x hx => (evFault_ok x (hgo x (List.mem_of_mem_take hx))).2 (hok x hx))]
    simp [List.find?_cons, hf]
  unfold packF
  rw [if_neg h1, h3]
/-- What Pack answers. -/
def PackTo (l : List Ev) (w : World) (en : Ending) (w' : World) : Prop :=
  (packF l = 0 ∧ ∃ v, en = .returned (.tuple #[v, .int .i64 0]) ∧ w'.ownsRow w.heap.size 5 1 v (packB l).length (bytesC (packB l))) ∨ (packF l ≠ 0 ∧ en = .returned (.tuple #[.slice none 0 0, .int .i64 (packF l)]))

set_option maxHeartbeats 8000000 in
set_option maxRecDepth 100000 in
theorem packF_any (l : List EvX) (ao : Option Addr) (cap : Nat) (w : World) (hres : ResAt w) (hl : EvsIn w.heap.size w ao l) (_hlc : l.length ≤ cap) (_hcm : cap ≤ maxLen) (hin : ∀ x ∈ l, ∀ a ∈ x.ev.vals, valGo a) :
    Calls Tryd.prog 19 #[.slice ao l.length cap] w fun en w' => PackTo (xs l) w en w' ∧ Below w.heap.size w w' := by
  have HRES := Lib.hid hres
  have HL := Lib.hid hl
  have HIN := Lib.hid hin
  have HGOO := Lib.hid (show ∀ e ∈ xs l, ∀ a ∈ e.vals, -9223372036854775808 ≤ a.int ∧ a.int ≤ 9223372036854775807 from fun e he a ha => by
    obtain ⟨x, hx, rfl⟩ := List.mem_map.1 he
    exact (hin x hx a ha).2)
  unfold maxLen at _hcm
  have hxl : (xs l).length = l.length := by simp [xs]
  clear hres hl hin
  by_cases hlong : 1024 < l.length
  · have HNO := Lib.hid (packF_long (l := xs l) (by omega))
    clear hxl
    go_enter Tryd.func19, Tryd.ntmps19
    go_wp2_with fail
    go_ret2
    exact ⟨Or.inr ⟨by rw [HNO.out]; decide, by rw [HNO.out]; rfl⟩, Below.refl _ _⟩
  · go_enter Tryd.func19, Tryd.ntmps19
    go_wp2_with fail
    refine (putInt_any (l.length : Int) w (by omega) (by omega)).mono ?_; rintro en w1 ⟨v1, rfl, hx1⟩
    have HO1 := Lib.hid (show w1.ownsRow w.heap.size 5 1 v1 (putB (l.length : Int) ++ ((xs l).take 0).flatMap evE).length (bytesC (putB (l.length : Int) ++ ((xs l).take 0).flatMap evE)) by simpa using hx1.own)
    have HB1 := Lib.hid hx1.fresh
    have HPL := Lib.hid (putB_le (l.length : Int) (by omega) (by omega))
    clear hx1
    go_wp2_with fail
    go_loopw [4, 17] (fun v i wr => ∃ k : Nat, k ≤ l.length ∧ i = .int .i64 k ∧ (∀ e ∈ (xs l).take k, evOk e) ∧ wr.ownsRow w.heap.size 5 1 v (putB (l.length : Int) ++ ((xs l).take k).flatMap evE).length (bytesC (putB (l.length : Int) ++ ((xs l).take k).flatMap evE)) ∧ Below w.heap.size w wr) (fun _ i _ => l.length - (intOf i).toNat)
    case atStart => exact ⟨0, Nat.zero_le _, rfl, by simp, HO1.out, HB1.out⟩
    case round =>
      obtain ⟨k, hk, rfl, hok, hown, hbel⟩ := hrel
      have HOK := Lib.hid hok
      have HOWN := Lib.hid hown
      have HBE := Lib.hid hbel
      clear hok hown hbel
      by_cases hlt : k < l.length
      · obtain ⟨b, o, rfl, hlb, hc⟩ : ∃ b o, ao = some ⟨b, o, none⟩ ∧ b < w.heap.size ∧ ∀ i (h : i < l.length), (wr.cell? ⟨b, o + i * 3, none⟩ = some (.string l[i].ev.ty) ∧ wr.cell? ⟨b, o + i * 3 + 1, none⟩ = some (.int .i64 l[i].ev.time) ∧ wr.cell? ⟨b, o + i * 3 + 2, none⟩ = some (.slice l[i].va l[i].ev.vals.length l[i].cap)) ∧ ValsIn w.heap.size wr l[i].va l[i].ev.vals := by
          rcases HL.out.below HBE.out (Nat.le_refl _) with h | h
          · rw [h] at hlt; simp at hlt
          · exact h
        obtain ⟨⟨d0, d1, d2⟩, hvk⟩ := hc k hlt
        have hgo := HIN.out l[k] (List.getElem_mem hlt)
        have hxk : (xs l)[k]'(by simpa [xs] using hlt) = l[k].ev := by simp [xs]
        have hxk2 : (xs l)[k]? = some l[k].ev := by rw [List.getElem?_eq_getElem (by simpa [xs] using hlt), hxk]
        have hft := flat_take (xs l) k (by simpa [xs] using hlt)
        have htk : (xs l).take (k + 1) = (xs l).take k ++ [l[k].ev] := by rw [List.take_succ_eq_append_getElem (by simpa [xs] using hlt), hxk]
        have hmem : l[k].ev ∈ xs l := List.mem_map_of_mem (List.getElem_mem hlt)
        rw [hxk] at hft
        obtain ⟨x, hx⟩ : ∃ x, x = l[k] := ⟨_, rfl⟩
        rw [← hx] at d0 d1 d2 hvk hgo hft htk hmem hxk2
        clear hx hxk hc
        obtain ⟨⟨ty, tm, vals⟩, va, vc⟩ := x
        simp only at d0 d1 d2 hvk hgo hft htk hmem hxk2
        have HXK := Lib.hid hxk2
        clear hxk2
        have HV := Lib.hid hvk
        have HGO := Lib.hid hgo
        have HFT := Lib.hid hft
        have HTK := Lib.hid htk
        have HMEM := Lib.hid hmem
        have HLEN := Lib.hid (show (putB (l.length : Int) ++ ((xs l).take k).flatMap evE).length ≤ 700000000 by
          have h1 := HPL.out
          have h2 := flat_le ((xs l).take k) HOK.out
          have h3 : ((xs l).take k).length ≤ k := by rw [List.length_take]; omega
          have h4 : ((xs l).take k).length * 4400 ≤ k * 4400 := Nat.mul_le_mul_right _ h3
          rw [List.length_append]
          omega)
        obtain ⟨C, hC⟩ : ∃ C, C = putB (l.length : Int) ++ ((xs l).take k).flatMap evE := ⟨_, rfl⟩
        rw [← hC] at HOWN HLEN
        have HC := Lib.hid hC
        obtain ⟨W2, hW2⟩ : ∃ W2, W2 = wr.alloc (Obj.cells #[.string ty, .int .i64 tm, .slice va vals.length vc] 24) := ⟨_, rfl⟩
        obtain ⟨T, hT⟩ : ∃ T, T = wr.heap.size := ⟨_, rfl⟩
        have hb2 : Below wr.heap.size wr W2 := by rw [hW2]; exact (Below.refl _ _).alloc (Nat.le_refl _) _
        have HT2 := Lib.hid (show Cells3 W2 T (.string ty) (.int .i64 tm) (.slice va vals.length vc) by rw [hW2, hT]; exact Cells3.made _ _ _ _ _)
        have HB2 := Lib.hid (HBE.out.trans (hb2.mono HBE.out.size))
        have HV2 := Lib.hid (HV.out.below hb2 HBE.out.size)
        have HO2 := Lib.hid (owns_below HOWN.out hb2)
        have HW2 := Lib.hid hW2
        have HTE := Lib.hid hT
        clear hvk hgo hft htk hmem hC hW2 hT hb2
        have k0 : (0 : Int) ≤ (k : Int) := by omega
        go_upto_region 7 with fail
        rw [← HW2.out, ← HTE.out]
        have t0 := HT2.out.c0
        have t1 := HT2.out.c1
        have t2 := HT2.out.c2
        have HF := wfault_any ⟨ty, tm, vals⟩ va vc W2 (HRES.out.below HB2.out) (HV2.out.mono HB2.out.size) (fun a ha => (HGO.out a ha).1)
        simp only [evV] at HF
        have HFE := Lib.hid (evFault_ok ⟨ty, tm, vals⟩ (fun a ha => (HGO.out a ha).2))
        have HPA := Lib.hid (fun h => packF_at (l := xs l) k (by omega) (by omega) HOK.out HGOO.out (e := ⟨ty, tm, vals⟩) HXK.out h)
        obtain ⟨f, hf⟩ : ∃ f, f = evFault ⟨ty, tm, vals⟩ := ⟨_, rfl⟩
        rw [← hf] at HF HFE HPA
        have HFF := Lib.hid HF
        clear HF hf
        go_wp2_with fail
        refine HFF.out.mono ?_; rintro en w3 ⟨rfl, hb3⟩
        have HB3 := Lib.hid (HB2.out.trans (hb3.mono HB2.out.size))
        have HT3 := Lib.hid (HT2.out.below hb3)
        have HV3 := Lib.hid (HV2.out.below hb3 HB2.out.size)
        have HO3 := Lib.hid (owns_below HO2.out hb3)
        clear hb3 t0 t1 t2 d0 d1 d2
        cases hf0 : (f == 0)
        · have hfn : (f != 0) = true := by simp [bne, hf0]
          have HFN := Lib.hid (show f ≠ 0 by simpa using hf0)
          clear hf0
          go_wp2_with fail
          go_ret2
          exact ⟨Or.inr ⟨by rw [HPA.out HFN.out]; exact HFN.out, by rw [HPA.out HFN.out]; rfl⟩, HB3.out⟩
        · have hfn : (f != 0) = false := by simp [bne, hf0]
          have HEO := Lib.hid (HFE.out.1 (by simpa using hf0))
          clear hf0
          have t0 := HT3.out.c0
          have t1 := HT3.out.c1
          have t2 := HT3.out.c2
          have HAP := Lib.hid (appendEvent_any w.heap.size _ C ⟨ty, tm, vals⟩ va vc w3 HEO.out HV3.out HO3.out HLEN.out HB3.out.size)
          simp only [evV] at HAP
          go_wp2_with fail
          refine HAP.out.mono ?_; rintro en w4 ⟨v4, rfl, hx4⟩
          have HX4 := Lib.hid hx4
          have HB4 := Lib.hid (HB3.out.grown hx4.grown HB3.out.size (fun j hj => (HO3.out.lt j hj).1))
          clear hx4 t0 t1 t2
          go_wp2_with fail
          go_roundw
          case rel =>
            refine ⟨k + 1, by omega, by go_num, ?_, ?_, HB4.out⟩
            · rw [HTK.out]
              intro e he
              rcases List.mem_append.1 he with he | he
              · exact HOK.out e he
              · rw [List.mem_singleton.1 he]; exact HEO.out
            · have h := HX4.out.own
              rw [HC.out, List.append_assoc, ← HFT.out] at h
              exact h
          case measure => simp [intOf]; omega
      · have hke : k = l.length := by omega
        subst hke
        have htk : (xs l).take l.length = xs l := by rw [← hxl, List.take_length]
        rw [htk] at HOK HOWN
        have HBT := Lib.hid (show putB (l.length : Int) ++ (xs l).flatMap evE = batchE (xs l) by unfold batchE; rw [hxl])
        rw [HBT.out] at HOWN
        obtain ⟨a9, c9, rfl, _, hy9, hc9, hm9⟩ := owned_arg HOWN.out
        have HY9 := Lib.hid hy9
        have HPO := Lib.hid (show packOk (xs l) ↔ (batchE (xs l)).length + 4 ≤ 1048576 from ⟨fun h => h.2.2, fun h => ⟨by omega, HOK.out, h⟩⟩)
        have hCl : (batchE (xs l)).length ≤ 700000000 := by
          have h1 := flat_le (xs l) HOK.out
          have h2 := HPL.out
          rw [← HBT.out, List.length_append]
          omega
        have HOKA := Lib.hid (show ∀ e ∈ xs l, evFault e = 0 from fun e he => (evFault_ok e (HGOO.out e he)).2 (HOK.out e he))
        have HPB := Lib.hid (show packB (xs l) = batchE (xs l) ++ sumB (batchE (xs l)) from rfl)
        obtain ⟨C, hC⟩ : ∃ C, C = batchE (xs l) := ⟨_, rfl⟩
        have HCE := Lib.hid hC
        rw [← hC] at HOWN HY9 HPO HPB hc9 hCl ⊢
        clear hy9 htk hC
        by_cases hbig : 1048576 < C.length + 4
        · have hq : (1048576 : Int) < (C.length : Int) + 4 := by omega
          have HNP := Lib.hid (packF_big (l := xs l) (by omega) HOKA.out (by rw [← HCE.out]; omega))
          clear hbig
          go_wp2_with fail
          go_ret2
          exact ⟨Or.inr ⟨by rw [HNP.out]; decide, by rw [HNP.out]; rfl⟩, HBE.out⟩
        · have hq : ¬ (1048576 : Int) < (C.length : Int) + 4 := by omega
          have HYP := Lib.hid (packF_fine (l := xs l) (by omega) HOKA.out (by rw [← HCE.out]; omega))
          clear hbig
          have HSM := Lib.hid (sum_any C a9 c9 wr HY9.out hc9 hm9)
          obtain ⟨s0, s1, s2, s3, hs⟩ : ∃ s0 s1 s2 s3, sumB C = [s0, s1, s2, s3] := ⟨_, _, _, _, rfl⟩
          rw [hs] at HSM HPB
          have e4 : (bytesC [s0, s1, s2, s3]).toArray = #[.int .u8 (s0.toNat : Int), .int .u8 (s1.toNat : Int), .int .u8 (s2.toNat : Int), .int .u8 (s3.toNat : Int)] := rfl
          rw [e4] at HSM
          clear hs e4
          go_wp2_with fail
          refine HSM.out.mono ?_; rintro en w4 ⟨rfl, hb4⟩
          obtain ⟨W5, hW5⟩ : ∃ W5, W5 = w4.alloc (Obj.cells #[.int .u8 (s0.toNat : Int), .int .u8 (s1.toNat : Int), .int .u8 (s2.toNat : Int), .int .u8 (s3.toNat : Int)] 91) := ⟨_, rfl⟩
          obtain ⟨S, hS⟩ : ∃ S, S = w4.heap.size := ⟨_, rfl⟩
          have hb5 : Below w4.heap.size w4 W5 := by rw [hW5]; exact (Below.refl _ _).alloc (Nat.le_refl _) _
          have HB5 := Lib.hid ((HBE.out.trans (hb4.mono HBE.out.size)).trans (hb5.mono (Nat.le_trans HBE.out.size hb4.size)))
          have HO5 := Lib.hid (owns_below (owns_below HOWN.out hb4) hb5)
          have HG5 := Lib.hid (show BytesArg W5 (some ⟨S, 0, none⟩) 4 [s0, s1, s2, s3] from sum_block (by rw [hW5, hS]; exact heap_alloc_new _ _) 4)
          have hz5 : S < W5.heap.size := by rw [hW5, hS]; simp
          have HW5 := Lib.hid hW5
          have HSE := Lib.hid hS
          clear hb4 hb5 hW5 hS
          go_upto_region 15 with fail
          rw [← HW5.out, ← HSE.out]
          go_wp2_with (at_builtin; go_must (refine wpList_append_arg8 (by rfl) _ _ (by rfl) w.heap.size (.slice a9 C.length c9) C (by rfl) HO5.out (some ⟨S, 0, none⟩) 4 [s0, s1, s2, s3] (by rfl) HG5.out (by simp; omega) HB5.out.size ?_; intro v7 w7 ho7 hg7; have HO7 := Lib.hid ho7; have HB7 := Lib.hid (HB5.out.grown hg7 HB5.out.size (fun j hj => (HO5.out.lt j hj).1)); clear ho7 hg7))
          go_ret2
          exact ⟨Or.inl ⟨HYP.out, _, rfl, by rw [HPB.out]; exact HO7.out⟩, HB7.out⟩
end Go.Proofs.YtekaimfabadclaaDoor
/- The document's own answer: Sum. -/
namespace Go.Proofs.YtekaimfabadclaaDoor
open Go Go.RowKit

set_option maxHeartbeats 8000000 in
set_option maxRecDepth 100000 in
theorem refSum_any (l : List UInt8) (ao : Option Addr) (cap : Nat) (w : World) (hb : BytesAt w ao l) (hlc : l.length ≤ cap) (hcm : cap ≤ maxLen) :
    Calls Tryd.prog 69 #[.slice ao l.length cap] w fun en w' => en = .returned (.slice (some ⟨w.heap.size, 0, none⟩) 4 4) ∧ w'.heap[w.heap.size]? = some (Obj.cells (bytesC (sumB l)).toArray 5 (0, 0)) ∧ Below w.heap.size w w' := by
  have HBN := Lib.hid hb
  unfold maxLen at hcm
  clear hb
  go_enter Tryd.func69, Tryd.ntmps69
  go_wp2_with fail
  go_loop [3, 4, 5] (fun a c i => ∃ k : Nat, k ≤ l.length ∧ i = .int .i64 k ∧ a = .int .i64 ((sumPQ (l.take k)).1 : Nat) ∧ c = .int .i64 ((sumPQ (l.take k)).2 : Nat)) (fun _ _ i => l.length - (intOf i).toNat)
  case atStart => exact ⟨0, Nat.zero_le _, rfl, rfl, rfl⟩
  case round =>
    obtain ⟨k, hk, rfl, rfl, rfl⟩ := hrel
    obtain ⟨P, hP⟩ : ∃ P, P = (sumPQ (l.take k)).1 := ⟨_, rfl⟩
    obtain ⟨Q, hQ⟩ : ∃ Q, Q = (sumPQ (l.take k)).2 := ⟨_, rfl⟩
    have hlt := sumPQ_lt (l.take k)
    rw [← hP, ← hQ] at hlt ⊢
    obtain ⟨hp, hq⟩ := hlt
    have HP := Lib.hid hP
    have HQ := Lib.hid hQ
    clear hP hQ
    by_cases hlt : k < l.length
    · obtain ⟨b, o, rfl, hc⟩ : ∃ b o, ao = some ⟨b, o, none⟩ ∧ ∀ i (h : i < l.length), w.cell? ⟨b, o + i, none⟩ = some (.int .u8 (l[i].toNat : Int)) := by
        rcases HBN.out with h | h
        · rw [h] at hlt; simp at hlt
        · exact h
      have hck := hc k hlt
      have hst := sum_take l k hlt
      obtain ⟨x, hx⟩ : ∃ x, x = l[k] := ⟨_, rfl⟩
      rw [← hx] at hck hst
      have hx8 := x.toNat_lt
      have hr : sumPQ (l.take k) = (P, Q) := by rw [HP.out, HQ.out]
      rw [hr] at hst
      have HST := Lib.hid hst
      clear hc hx hst hr
      have k0 : (0 : Int) ≤ (k : Int) := by omega
      have k1 : (k : Int) < (l.length : Int) := by omega
      go_wp2_with fail
      go_round
      case rel =>
        refine ⟨k + 1, by omega, by go_num, ?_, ?_⟩
        · rw [HST.out]
          simp only [sumR]
          go_num
        · rw [HST.out]
          simp only [sumR]
          go_num
      case measure => simp [intOf]; omega
    · have hke : k = l.length := by omega
      subst hke
      rw [List.take_length] at HP HQ
      go_wp2_with fail
      go_ret
      refine ⟨rfl, ?_, (Below.refl _ _).alloc (Nat.le_refl _) _⟩
      have e : ∀ n : Nat, n < 256 → (((UInt8.ofNat n).toNat : Nat) : Int) = (n : Int) := fun n h => by simp; omega
      have h : (bytesC (sumB l)).toArray = #[.int .u8 ((Q : Int) / 256), .int .u8 ((Q : Int) % 256), .int .u8 ((P : Int) / 256), .int .u8 ((P : Int) % 256)] := by
        unfold sumB
        rw [← HP.out, ← HQ.out]
        simp only [bytesC, List.map_cons, List.map_nil]
        rw [e (Q / 256) (by omega), e (Q % 256) (by omega), e (P / 256) (by omega), e (P % 256) (by omega)]
        norm_cast
      rw [h]
      exact heap_alloc_new _ _
end Go.Proofs.YtekaimfabadclaaDoor
/- The document's own answer: Pack. -/
namespace Go.Proofs.YtekaimfabadclaaDoor
open Go Go.RowKit

set_option maxHeartbeats 8000000 in
set_option maxRecDepth 100000 in
theorem refPack_any (l : List EvX) (ao : Option Addr) (cap : Nat) (w : World) (hl : EvsIn w.heap.size w ao l) (_hlc : l.length ≤ maxLen) (hin : ∀ x ∈ l, (∀ a ∈ x.ev.vals, valIn a) ∧ x.ev.vals.length ≤ maxLen) :
    Calls Tryd.prog 36 #[.slice ao l.length cap] w fun en w' => PackTo (xs l) w en w' ∧ Below w.heap.size w w' := by
  have HL := Lib.hid hl
  have HIN := Lib.hid hin
  have HGOO := Lib.hid (show ∀ e ∈ xs l, ∀ a ∈ e.vals, -9223372036854775808 ≤ a.int ∧ a.int ≤ 9223372036854775807 from fun e he a ha => by
    obtain ⟨x, hx, rfl⟩ := List.mem_map.1 he
    exact ((hin x hx).1 a ha).2)
  unfold maxLen at _hlc
  have hxl : (xs l).length = l.length := by simp [xs]
  clear hl hin
  by_cases hlong : 1024 < l.length
  · have HNO := Lib.hid (packF_long (l := xs l) (by omega))
    clear hxl
    go_enter Tryd.func36, Tryd.ntmps36
    go_wp2_with fail
    go_ret2
    exact ⟨Or.inr ⟨by rw [HNO.out]; decide, by rw [HNO.out]; rfl⟩, Below.refl _ _⟩
  · have HXL := Lib.hid hxl
    clear hxl
    go_enter Tryd.func36, Tryd.ntmps36
    go_wp2_with fail
    (with_reducible refine (refPut_any (l.length : Int) w (by omega) (by omega)).mono ?_); rintro en w1 ⟨v1, rfl, hx1⟩
    have HO1 := Lib.hid (show w1.ownsRow w.heap.size 5 1 v1 (putB (l.length : Int) ++ ((xs l).take 0).flatMap evE).length (bytesC (putB (l.length : Int) ++ ((xs l).take 0).flatMap evE)) by simpa using hx1.own)
    have HB1 := Lib.hid hx1.fresh
    have HPL := Lib.hid (putB_le (l.length : Int) (by omega) (by omega))
    clear hx1
    go_wp2_with fail
    go_loopw [4, 5] (fun v i wr => ∃ k : Nat, k ≤ l.length ∧ i = .int .i64 k ∧ (∀ e ∈ (xs l).take k, evOk e) ∧ wr.ownsRow w.heap.size 5 1 v (putB (l.length : Int) ++ ((xs l).take k).flatMap evE).length (bytesC (putB (l.length : Int) ++ ((xs l).take k).flatMap evE)) ∧ Below w.heap.size w wr) (fun _ i _ => l.length - (intOf i).toNat)
    case atStart => exact ⟨0, Nat.zero_le _, rfl, by simp, HO1.out, HB1.out⟩
    case round =>
      obtain ⟨k, hk, rfl, hok, hown, hbel⟩ := hrel
      have HOK := Lib.hid hok
      have HOWN := Lib.hid hown
      have HBE := Lib.hid hbel
      have zr := hbel.size
      clear hok hown hbel
      by_cases hlt : k < l.length
      · obtain ⟨b, o, rfl, hlb, hc⟩ : ∃ b o, ao = some ⟨b, o, none⟩ ∧ b < w.heap.size ∧ ∀ i (h : i < l.length), (wr.cell? ⟨b, o + i * 3, none⟩ = some (.string l[i].ev.ty) ∧ wr.cell? ⟨b, o + i * 3 + 1, none⟩ = some (.int .i64 l[i].ev.time) ∧ wr.cell? ⟨b, o + i * 3 + 2, none⟩ = some (.slice l[i].va l[i].ev.vals.length l[i].cap)) ∧ ValsIn w.heap.size wr l[i].va l[i].ev.vals := by
          rcases HL.out.below HBE.out (Nat.le_refl _) with h | h
          · rw [h] at hlt; simp at hlt
          · exact h
        obtain ⟨⟨d0, d1, d2⟩, hvk⟩ := hc k hlt
        have hgo := HIN.out l[k] (List.getElem_mem hlt)
        have hxk : (xs l)[k]'(by simpa [xs] using hlt) = l[k].ev := by simp [xs]
        have hxk2 : (xs l)[k]? = some l[k].ev := by rw [List.getElem?_eq_getElem (by simpa [xs] using hlt), hxk]
        have hft := flat_take (xs l) k (by simpa [xs] using hlt)
        have htk : (xs l).take (k + 1) = (xs l).take k ++ [l[k].ev] := by rw [List.take_succ_eq_append_getElem (by simpa [xs] using hlt), hxk]
        rw [hxk] at hft
        obtain ⟨x, hx⟩ : ∃ x, x = l[k] := ⟨_, rfl⟩
        rw [← hx] at d0 d1 d2 hvk hgo hft htk hxk2
        clear hx hxk hc
        obtain ⟨⟨ty, tm, vals⟩, va, vc⟩ := x
        simp only at d0 d1 d2 hvk hgo hft htk hxk2
        have HXK := Lib.hid hxk2
        have HV := Lib.hid hvk
        have HFT := Lib.hid hft
        have HTK := Lib.hid htk
        have HGO := Lib.hid hgo
        have HLEN := Lib.hid (show (putB (l.length : Int) ++ ((xs l).take k).flatMap evE).length ≤ 700000000 by
          have h1 := HPL.out
          have h2 := flat_le ((xs l).take k) HOK.out
          have h3 : ((xs l).take k).length ≤ k := by rw [List.length_take]; omega
          have h4 : ((xs l).take k).length * 4400 ≤ k * 4400 := Nat.mul_le_mul_right _ h3
          rw [List.length_append]
          omega)
        obtain ⟨C, hC⟩ : ∃ C, C = putB (l.length : Int) ++ ((xs l).take k).flatMap evE := ⟨_, rfl⟩
        rw [← hC] at HOWN HLEN
        have HC := Lib.hid hC
        have HENC := Lib.hid (refEncode_any ⟨ty, tm, vals⟩ va vc wr (hvk.mono zr) hgo.1 hgo.2)
        simp only [evV] at HENC
        have HPA := Lib.hid (fun h => packF_at (l := xs l) k (by have := HXL.out; omega) (by have := HXL.out; omega) HOK.out HGOO.out (e := ⟨ty, tm, vals⟩) HXK.out h)
        have HFE := Lib.hid (evFault_ok ⟨ty, tm, vals⟩ (fun a ha => (hgo.1 a ha).2))
        have k0 : (0 : Int) ≤ (k : Int) := by omega
        have k1 : (k : Int) < (l.length : Int) := by omega
        clear hvk hgo hft htk hC hxk2
        go_wp2_with fail
        (with_reducible refine HENC.out.mono ?_); rintro en w3 ⟨hen, hb3⟩
        have HB3 := Lib.hid (HBE.out.trans (hb3.mono zr))
        have HO3 := Lib.hid (owns_below HOWN.out hb3)
        have z3 := hb3.size
        clear hb3 d0 d1 d2
        rcases hen with ⟨h0, v3, rfl, ho3⟩ | ⟨h0, rfl⟩
        · have HEO := Lib.hid (HFE.out.1 h0)
          obtain ⟨a3, c3, rfl, harg, _, hc3, hm3⟩ := owned_arg ho3
          have HARG := Lib.hid harg
          have HEL := Lib.hid (show (evE ⟨ty, tm, vals⟩).length ≤ 4400 by
            have := flat_le [⟨ty, tm, vals⟩] (fun e he => by rw [List.mem_singleton.1 he]; exact HEO.out)
            simpa using this)
          have hlen := HLEN.out
          have hel := HEL.out
          clear ho3 harg h0
          go_wp2_with (at_builtin; go_must (refine wpList_append_arg8 (by rfl) _ _ (by rfl) w.heap.size u4 C (by rfl) HO3.out a3 c3 (evE ⟨ty, tm, vals⟩) (by rfl) HARG.out (by omega) (by omega) ?_; intro v7 w7 ho7 hg7; have HO7 := Lib.hid ho7; have HB7 := Lib.hid (HB3.out.grown hg7 HB3.out.size (fun j hj => (HO3.out.lt j hj).1)); clear ho7 hg7))
          go_roundw
          case rel =>
            refine ⟨k + 1, by omega, by go_num, ?_, ?_, HB7.out⟩
            · rw [HTK.out]
              intro e he
              rcases List.mem_append.1 he with he | he
              · exact HOK.out e he
              · rw [List.mem_singleton.1 he]; exact HEO.out
            · have h := HO7.out
              rw [HC.out, List.append_assoc, ← HFT.out] at h
              exact h
          case measure => simp [intOf]; omega
        · have hfn : (evFault ⟨ty, tm, vals⟩ != 0) = true := by simp [bne, h0]
          have H0 := Lib.hid h0
          clear h0
          go_wp2_with fail
          go_ret2
          exact ⟨Or.inr ⟨by rw [HPA.out H0.out]; exact H0.out, by rw [HPA.out H0.out]; rfl⟩, HB3.out⟩
      · have hke : k = l.length := by omega
        subst hke
        have htk : (xs l).take l.length = xs l := by rw [← HXL.out, List.take_length]
        rw [htk] at HOK HOWN
        have HBT := Lib.hid (show putB (l.length : Int) ++ (xs l).flatMap evE = batchE (xs l) by unfold batchE; rw [HXL.out])
        rw [HBT.out] at HOWN
        obtain ⟨a9, c9, rfl, _, hy9, hc9, hm9⟩ := owned_arg HOWN.out
        have HY9 := Lib.hid hy9
        have hCl : (batchE (xs l)).length ≤ 700000000 := by
          have h1 := flat_le (xs l) HOK.out
          have h2 := HPL.out
          have h3 := HXL.out
          rw [← HBT.out, List.length_append]
          omega
        have HOKA := Lib.hid (show ∀ e ∈ xs l, evFault e = 0 from fun e he => (evFault_ok e (HGOO.out e he)).2 (HOK.out e he))
        have HPB := Lib.hid (show packB (xs l) = batchE (xs l) ++ sumB (batchE (xs l)) from rfl)
        obtain ⟨C, hC⟩ : ∃ C, C = batchE (xs l) := ⟨_, rfl⟩
        have HCE := Lib.hid hC
        rw [← hC] at HOWN HY9 HPB hc9 hCl ⊢
        have HSM := Lib.hid (refSum_any C a9 c9 wr HY9.out hc9 hm9)
        clear hy9 htk hC
        go_wp2_with fail
        (with_reducible refine HSM.out.mono ?_); rintro en w4 ⟨rfl, hs4, hb4⟩
        have HB4 := Lib.hid (HBE.out.trans (hb4.mono zr))
        have HO4 := Lib.hid (owns_below HOWN.out hb4)
        have HG4 := Lib.hid (show BytesArg w4 (some ⟨wr.heap.size, 0, none⟩) 4 (sumB C) from sum_block hs4 4)
        have hs4l : (sumB C).length = 4 := rfl
        have z4 := hb4.size
        clear hs4 hb4
        go_upto_region 12 with (at_builtin; go_must (refine wpList_append_arg8 (by rfl) _ _ (by rfl) w.heap.size (.slice a9 C.length c9) C (by rfl) HO4.out (some ⟨wr.heap.size, 0, none⟩) 4 (sumB C) (by rfl) HG4.out (by omega) (by omega) ?_; intro v7 w7 ho7 hg7; have HO7 := Lib.hid ho7; have HB7 := Lib.hid (HB4.out.grown hg7 HB4.out.size (fun j hj => (HO4.out.lt j hj).1)); clear ho7 hg7))
        obtain ⟨D, hD⟩ : ∃ D, D = C ++ sumB C := ⟨_, rfl⟩
        have hlen8 : D.length = C.length + 4 := by rw [hD, List.length_append, hs4l]
        rw [← hD] at HO7 HPB
        obtain ⟨a8, c8, rfl⟩ := owned_form3 HO7.out
        have HO8 := Lib.hid HO7.out
        clear hD hs4l
        by_cases hbig : 1048576 < C.length + 4
        · have hq : (1048576 : Int) < (D.length : Int) := by omega
          have HNP := Lib.hid (packF_big (l := xs l) (by have := HXL.out; omega) HOKA.out (by rw [← HCE.out]; omega))
          clear hbig hlen8
          go_wp2_with fail
          go_ret2
          exact ⟨Or.inr ⟨by rw [HNP.out]; decide, by rw [HNP.out]; rfl⟩, HB7.out⟩
        · have hq : ¬ (1048576 : Int) < (D.length : Int) := by omega
          have HYP := Lib.hid (packF_fine (l := xs l) (by have := HXL.out; omega) HOKA.out (by rw [← HCE.out]; omega))
          clear hbig hlen8
          go_wp2_with fail
          go_ret2
          exact ⟨Or.inl ⟨HYP.out, _, rfl, by rw [HPB.out]; exact HO8.out⟩, HB7.out⟩
end Go.Proofs.YtekaimfabadclaaDoor
/- Unpack, said in one way: what is read, event by event. -/
namespace Go.Proofs.YtekaimfabadclaaDoor
open Go Go.RowKit

theorem batch_fault {M : List UInt8} (h : (intB M).2.2 ≠ 0) : (leftR (batchR ⟨M, 0⟩).2).fault = (intB M).2.2 := by
  have hn : numberR 0 1024 ⟨M, 0⟩ = (((0 : Nat) : Int), ⟨[], (intB M).2.2⟩) := by
    rw [numberR_int, if_neg h, refuse_zero]
    rfl
  rw [batchR_eq _ _ _ hn]
  rfl
theorem batch_range {M : List UInt8} (h : (intB M).2.2 = 0) (h2 : (intB M).1 < 0 ∨ 1024 < (intB M).1) : (leftR (batchR ⟨M, 0⟩).2).fault = 31 := by
  have hn : numberR 0 1024 ⟨M, 0⟩ = (((0 : Nat) : Int), ⟨[], 31⟩) := by
    rw [numberR_int, if_pos h, if_pos h2, refuse_zero]
    rfl
  rw [batchR_eq _ _ _ hn]
  rfl
theorem batch_go {M : List UInt8} {n : Nat} (h : (intB M).2.2 = 0) (h2 : (intB M).1 = (n : Int)) (h3 : n ≤ 1024) : batchR ⟨M, 0⟩ = timesR eventR n ⟨M.drop (intB M).2.1, 0⟩ := by
  refine batchR_eq _ _ n ?_
  rw [numberR_int]
  simp only
  rw [if_pos h, if_neg (by omega), h2]
/-- What stands when k events are read, p bytes behind the front. -/
def HalfB (M : List UInt8) (n k p : Nat) (l : List Ev) : Prop :=
  l.length = k ∧ p ≤ M.length ∧ batchR ⟨M, 0⟩ = (l ++ (timesR eventR (n - k) ⟨M.drop p, 0⟩).1, (timesR eventR (n - k) ⟨M.drop p, 0⟩).2)
theorem halfB_step {M : List UInt8} {n k p : Nat} {l : List Ev} (h : HalfB M n k p l) (hk : k < n) (h0 : (eventR ⟨M.drop p, 0⟩).2.fault = 0) : HalfB M n (k + 1) (p + ((M.drop p).length - (eventR ⟨M.drop p, 0⟩).2.rest.length)) (l ++ [(eventR ⟨M.drop p, 0⟩).1]) := by
  obtain ⟨h1, h2, h3⟩ := h
  have hb := (event_codec.back (M.drop p) h0).2
  have hlen := congrArg List.length hb
  rw [List.length_append] at hlen
  have hd : (M.drop p).length = M.length - p := List.length_drop
  refine ⟨by rw [List.length_append, h1]; rfl, by omega, ?_⟩
  have e2 := congrArg (List.drop (evE (eventR ⟨M.drop p, 0⟩).1).length) hb
  rw [List.drop_left, List.drop_drop] at e2
  have hr : (eventR ⟨M.drop p, 0⟩).2 = ⟨M.drop (p + ((M.drop p).length - (eventR ⟨M.drop p, 0⟩).2.rest.length)), 0⟩ := by
    have e1 : (M.drop p).length - (eventR ⟨M.drop p, 0⟩).2.rest.length = (evE (eventR ⟨M.drop p, 0⟩).1).length := by omega
    rw [e1, e2]
    have e3 : (eventR ⟨M.drop p, 0⟩).2 = ⟨(eventR ⟨M.drop p, 0⟩).2.rest, (eventR ⟨M.drop p, 0⟩).2.fault⟩ := rfl
    rw [h0] at e3
    exact e3
  rw [show n - k = (n - (k + 1)) + 1 by omega, times_step] at h3
  rw [h3, ← hr]
theorem halfB_bad {M : List UInt8} {n k p : Nat} {l : List Ev} (h : HalfB M n k p l) (hk : k < n) (h0 : (eventR ⟨M.drop p, 0⟩).2.fault ≠ 0) : (leftR (batchR ⟨M, 0⟩).2).fault = (eventR ⟨M.drop p, 0⟩).2.fault := by
  obtain ⟨h1, h2, h3⟩ := h
  rw [show n - k = (n - (k + 1)) + 1 by omega] at h3
  have e : (timesR eventR ((n - (k + 1)) + 1) ⟨M.drop p, 0⟩).2 = (eventR ⟨M.drop p, 0⟩).2 := by
    show (timesR eventR (n - (k + 1)) (eventR ⟨M.drop p, 0⟩).2).2 = _
    have hs := event_codec.shape (M.drop p) h0
    have hi := times_ill event_codec (n - (k + 1)) (eventR ⟨M.drop p, 0⟩).2.fault h0
    have hf : (eventR ⟨M.drop p, 0⟩).2 = ⟨[], (eventR ⟨M.drop p, 0⟩).2.fault⟩ := by
      conv => rhs; rw [← hs]
    rw [← hf] at hi
    exact hi
  rw [h3, e]
  have hs := event_codec.shape (M.drop p) h0
  unfold leftR
  rw [hs, if_neg (by simp)]
theorem halfB_end {M : List UInt8} {n p : Nat} {l : List Ev} (h : HalfB M n n p l) : batchR ⟨M, 0⟩ = (l, ⟨M.drop p, 0⟩) := by
  obtain ⟨h1, h2, h3⟩ := h
  rw [h3, Nat.sub_self]
  simp [timesR]
theorem left_more {M : List UInt8} {p : Nat} (h : p < M.length) : (leftR ⟨M.drop p, 0⟩).fault = 31 := by
  unfold leftR
  rw [if_pos (by simp only [List.length_drop]; omega), refuse_zero]
theorem left_none {M : List UInt8} {p : Nat} (h : ¬ p < M.length) : (leftR ⟨M.drop p, 0⟩).fault = 0 := by
  unfold leftR
  rw [if_neg (by simp only [List.length_drop]; omega)]

/-- Bytes, values, events whose blocks are of a kind. -/
def BytesOn (P : Nat → Prop) (w : World) (ao : Option Addr) (l : List UInt8) : Prop :=
  l = [] ∨ ∃ b o, ao = some ⟨b, o, none⟩ ∧ P b ∧ ∀ i (h : i < l.length), w.cell? ⟨b, o + i, none⟩ = some (.int .u8 (l[i].toNat : Int))
def ValsOn (P : Nat → Prop) (w : World) (ao : Option Addr) (l : List Val) : Prop :=
  l = [] ∨ ∃ b o, ao = some ⟨b, o, none⟩ ∧ P b ∧ ∀ i (h : i < l.length), w.cell? ⟨b, o + i * 4, none⟩ = some (.int .i64 l[i].kind) ∧ w.cell? ⟨b, o + i * 4 + 1, none⟩ = some (.int .i64 l[i].int) ∧ w.cell? ⟨b, o + i * 4 + 2, none⟩ = some (.string l[i].str) ∧ w.cell? ⟨b, o + i * 4 + 3, none⟩ = some (.bool l[i].bool)
def EvsOn (P : Nat → Prop) (w : World) (ao : Option Addr) (l : List EvX) : Prop :=
  l = [] ∨ ∃ b o, ao = some ⟨b, o, none⟩ ∧ P b ∧ ∀ i (h : i < l.length), (w.cell? ⟨b, o + i * 3, none⟩ = some (.string l[i].ev.ty) ∧ w.cell? ⟨b, o + i * 3 + 1, none⟩ = some (.int .i64 l[i].ev.time) ∧ w.cell? ⟨b, o + i * 3 + 2, none⟩ = some (.slice l[i].va l[i].ev.vals.length l[i].cap)) ∧ ValsOn P w l[i].va l[i].ev.vals
theorem BytesOn.at' {P : Nat → Prop} {w : World} {ao : Option Addr} {l : List UInt8} (h : BytesOn P w ao l) : BytesAt w ao l := by
  rcases h with h | ⟨b, o, e, _, h⟩
  · exact Or.inl h
  · exact Or.inr ⟨b, o, e, h⟩
theorem BytesOn.keep {P : Nat → Prop} {w w' : World} {ao : Option Addr} {l : List UInt8} (h : BytesOn P w ao l) (hk : ∀ b, P b → w'.heap[b]? = w.heap[b]?) : BytesOn P w' ao l := by
  rcases h with h | ⟨b, o, e, hp, h⟩
  · exact Or.inl h
  · exact Or.inr ⟨b, o, e, hp, fun i hi => (World.cell?_of_block (w := w) (a := ⟨b, o + i, none⟩) (hk b hp)).trans (h i hi)⟩
theorem ValsOn.to {P : Nat → Prop} {C : Nat} {w : World} {ao : Option Addr} {l : List Val} (h : ValsOn P w ao l) (hC : ∀ b, P b → b < C) : ValsIn C w ao l := by
  rcases h with h | ⟨b, o, e, hp, h⟩
  · exact Or.inl h
  · exact Or.inr ⟨b, o, e, hC b hp, h⟩
theorem ValsOn.keep {P : Nat → Prop} {w w' : World} {ao : Option Addr} {l : List Val} (h : ValsOn P w ao l) (hk : ∀ b, P b → w'.heap[b]? = w.heap[b]?) : ValsOn P w' ao l := by
  rcases h with h | ⟨b, o, e, hp, h⟩
  · exact Or.inl h
  · have c : ∀ j : Nat, w'.cell? ⟨b, j, none⟩ = w.cell? ⟨b, j, none⟩ := fun j => World.cell?_of_block (w := w) (hk b hp)
    exact Or.inr ⟨b, o, e, hp, fun i hi => ⟨(c _).trans (h i hi).1, (c _).trans (h i hi).2.1, (c _).trans (h i hi).2.2.1, (c _).trans (h i hi).2.2.2⟩⟩
theorem ValsOn.mono {P Q : Nat → Prop} {w : World} {ao : Option Addr} {l : List Val} (h : ValsOn P w ao l) (hq : ∀ b, P b → Q b) : ValsOn Q w ao l := by
  rcases h with h | ⟨b, o, e, hp, h⟩
  · exact Or.inl h
  · exact Or.inr ⟨b, o, e, hq b hp, h⟩
theorem EvsOn.to {P : Nat → Prop} {C : Nat} {w : World} {ao : Option Addr} {l : List EvX} (h : EvsOn P w ao l) (hC : ∀ b, P b → b < C) : EvsIn C w ao l := by
  rcases h with h | ⟨b, o, e, hp, h⟩
  · exact Or.inl h
  · exact Or.inr ⟨b, o, e, hC b hp, fun i hi => ⟨(h i hi).1, (h i hi).2.to hC⟩⟩
theorem EvsOn.keep {P : Nat → Prop} {w w' : World} {ao : Option Addr} {l : List EvX} (h : EvsOn P w ao l) (hk : ∀ b, P b → w'.heap[b]? = w.heap[b]?) : EvsOn P w' ao l := by
  rcases h with h | ⟨b, o, e, hp, h⟩
  · exact Or.inl h
  · have c : ∀ j : Nat, w'.cell? ⟨b, j, none⟩ = w.cell? ⟨b, j, none⟩ := fun j => World.cell?_of_block (w := w) (hk b hp)
    exact Or.inr ⟨b, o, e, hp, fun i hi => ⟨⟨(c _).trans (h i hi).1.1, (c _).trans (h i hi).1.2.1, (c _).trans (h i hi).1.2.2⟩, (h i hi).2.keep hk⟩⟩
/-- The blocks from one to another. -/
def Span (lo hi : Nat) : Nat → Prop := fun b => lo ≤ b ∧ b < hi
theorem vals_own {w : World} {B cap : Nat} {va : Option Addr} {l : List Val} (h : w.ownsRow B 95 4 (.slice va l.length cap) l.length (valCells l)) : ValsOn (Span B w.heap.size) w va l := by
  have hv := owned_vals2 h
  rcases h.2 with ⟨e, h0⟩ | ⟨g, cap', cur, e, hg, hh, _⟩
  · exact Or.inl (List.eq_nil_of_length_eq_zero h0)
  · rcases hv with hv | ⟨b, o, e2, h1, h2⟩
    · exact Or.inl hv
    · refine Or.inr ⟨b, o, e2, ⟨?_, h1⟩, h2⟩
      injection e with e3 _ _
      rw [e2] at e3
      injection e3 with e3
      injection e3 with e3
      omega
theorem bytes_own {w : World} {B : Nat} {v : Value} {l : List UInt8} (h : w.ownsRow B 5 1 v l.length (bytesC l)) : ∃ ao cap, v = .slice ao l.length cap ∧ BytesOn (Span B w.heap.size) w ao l ∧ l.length ≤ maxLen := by
  obtain ⟨ao, cap, hv, hb, h1, h2⟩ := owned_bytes h
  refine ⟨ao, cap, hv, ?_, Nat.le_trans h1 h2⟩
  rcases h.2 with ⟨e, h0⟩ | ⟨g, cap', cur, e, hg, hh, _⟩
  · exact Or.inl (List.eq_nil_of_length_eq_zero h0)
  · rcases hb with hb | ⟨b, o, e2, h3⟩
    · exact Or.inl hb
    · refine Or.inr ⟨b, o, e2, ?_, h3⟩
      rw [hv] at e
      injection e with e3 _ _
      rw [e2] at e3
      injection e3 with e3
      injection e3 with e3
      subst e3
      exact ⟨hg, (Array.getElem?_eq_some_iff.1 hh).1⟩

/-- What Unpack answers. -/
def UnToM (lo : Nat) (M : List UInt8) (uf : Int) (en : Ending) (w' : World) : Prop :=
  (uf = 0 ∧ ∃ (acc : List EvX) (ao : Option Addr) (cp : Nat), en = .returned (.tuple #[.slice ao acc.length cp, .int .i64 0]) ∧ xs acc = (batchR ⟨M, 0⟩).1 ∧ EvsOn (Span lo w'.heap.size) w' ao acc ∧ acc.length ≤ maxLen ∧ ∀ x ∈ acc, x.ev.vals.length ≤ maxLen) ∨
  (uf ≠ 0 ∧ en = .returned (.tuple #[.slice none 0 0, .int .i64 uf]))
def UnTo (lo : Nat) (l : List UInt8) (en : Ending) (w' : World) : Prop := UnToM lo (l.take (l.length - 4)) (unF l) en w'
theorem evs_of_vown {w : World} {B g cap : Nat} {l : List EvX} (h : w.ownsRow B 24 3 (.slice (some ⟨g, 0, none⟩) l.length cap) l.length (evCells l)) (hv : ∀ x ∈ l, VOwn B g w x) : EvsOn (Span B w.heap.size) w (some ⟨g, 0, none⟩) l := by
  rcases evs_of_row h hv with e | ⟨b, o, e, h1, h2⟩
  · exact Or.inl e
  · refine Or.inr ⟨b, o, e, ⟨?_, h1⟩, fun i hi => ⟨(h2 i hi).1, vals_own (hv l[i] (List.getElem_mem hi)).own⟩⟩
    cases e
    exact (h.lt g rfl).1
theorem row_cap {w : World} {B g cap n e s : Nat} {xs : List Value} (h : w.ownsRow B e s (.slice (some ⟨g, 0, none⟩) n cap) n xs) : n ≤ maxLen := owned_len h
theorem un_any (l : List UInt8) (ao : Option Addr) (cap : Nat) (w : World) (hres : ResAt w) (hb : BytesAt w ao l) (hlc : l.length ≤ cap) (hcm : cap ≤ maxLen) :
    Calls Tryd.prog 20 #[.slice ao l.length cap] w fun en w' => UnTo w.heap.size l en w' ∧ Below w.heap.size w w' :=
  (unpack_any l ao cap w hres hb hlc hcm).mono fun en w' ⟨v, he, hbl, h0, h1⟩ => ⟨by
    by_cases hf : unF l = 0
    · obtain ⟨acc, gg, cp, hv, hx, ho, hvo⟩ := h0 hf
      refine Or.inl ⟨hf, acc, some ⟨gg, 0, none⟩, cp, by rw [he, hv, hf], hx, evs_of_vown ho hvo, owned_len ho, fun x hx => owned_len (hvo x hx).own⟩
    · exact Or.inr ⟨hf, by rw [he, h1 hf]⟩, hbl⟩

/-- An event whose values lie beside a row. -/
def VFar (B : Nat) (v : Value) (w : World) (x : EvX) : Prop := ValsIn w.heap.size w x.va x.ev.vals ∧ (x.ev.vals = [] ∨ ∃ b o, x.va = some ⟨b, o, none⟩ ∧ some b ≠ v.ownBlock ∧ b < w.heap.size ∧ B ≤ b)
theorem VFar.below {B : Nat} {v : Value} {w w' : World} {x : EvX} (h : VFar B v w x) (hb : Below w.heap.size w w') : VFar B v w' x := by
  obtain ⟨h1, h2⟩ := h
  refine ⟨(h1.below hb (Nat.le_refl _)).mono hb.size, ?_⟩
  rcases h2 with h2 | ⟨b, o, e, h3, h4, h5⟩
  · exact Or.inl h2
  · exact Or.inr ⟨b, o, e, h3, Nat.lt_of_lt_of_le h4 hb.size, h5⟩
theorem VFar.grown {B : Nat} {v v' : Value} {w w' : World} {x : EvX} (h : VFar B v w x) (hg : w.grownBy w' v.ownBlock) (hr : v'.ownBlock = v.ownBlock ∨ ∃ g, w.heap.size ≤ g ∧ v'.ownBlock = some g) : VFar B v' w' x := by
  obtain ⟨h1, h2⟩ := h
  rcases h2 with h2 | ⟨b, o, e, h3, h4, h7⟩
  · exact ⟨Or.inl h2, Or.inl h2⟩
  · refine ⟨?_, Or.inr ⟨b, o, e, row_still hr h3 h4, Nat.lt_of_lt_of_le h4 hg.size, h7⟩⟩
    rcases h1 with h1 | ⟨b', o', e', h5, h6⟩
    · exact Or.inl h1
    · rw [e] at e'
      injection e' with e'
      injection e' with e1 e2
      subst e1 e2
      refine Or.inr ⟨b, o, e, Nat.lt_of_lt_of_le h5 hg.size, fun i hi => ?_⟩
      obtain ⟨c0, c1, c2, c3⟩ := h6 i hi
      exact ⟨hg.cell c0 h3, hg.cell c1 h3, hg.cell c2 h3, hg.cell c3 h3⟩
theorem VFar.on {B : Nat} {v : Value} {w : World} {x : EvX} (h : VFar B v w x) : ValsOn (Span B w.heap.size) w x.va x.ev.vals := by
  obtain ⟨h1, h2⟩ := h
  rcases h2 with h2 | ⟨b, o, e, _, h3, h4⟩
  · exact Or.inl h2
  · rcases h1 with h1 | ⟨b', o', e', h5, h6⟩
    · exact Or.inl h1
    · rw [e] at e'
      injection e' with e'
      injection e' with e1 e2
      subst e1 e2
      exact Or.inr ⟨b, o, e, ⟨h4, h5⟩, h6⟩
theorem evs_of_far {w : World} {B : Nat} {ao : Option Addr} {cap : Nat} {l : List EvX} (h : w.ownsRow B 24 3 (.slice ao l.length cap) l.length (evCells l)) (hv : ∀ x ∈ l, VFar B (.slice ao l.length cap) w x) : EvsOn (Span B w.heap.size) w ao l := by
  rcases h.2 with ⟨e, h0⟩ | ⟨g, cap', cur, e, hb, hh, hn, hc, hs, ht⟩
  · exact Or.inl (List.eq_nil_of_length_eq_zero h0)
  · injection e with e1 e2 e3
    subst e1
    refine Or.inr ⟨g, 0, rfl, ⟨hb, (Array.getElem?_eq_some_iff.1 hh).1⟩, fun i hi => ⟨?_, (hv l[i] (List.getElem_mem hi)).on⟩⟩
    have hg := evCells_get l i hi
    rw [← ht, List.getElem?_take, if_pos (by omega), List.getElem?_take, if_pos (by omega), List.getElem?_take, if_pos (by omega)] at hg
    rw [Nat.zero_add, cell_of_row w g _ _ _ (0, 0) hh, cell_of_row w g _ _ _ (0, 0) hh, cell_of_row w g _ _ _ (0, 0) hh]
    simpa using hg

set_option maxHeartbeats 8000000 in
set_option maxRecDepth 100000 in
/-- The document's own 'same' of as many bytes. -/
theorem refSame_q (l m : List UInt8) (ao bo : Option Addr) (n ca cb : Nat) (w : World) (hl : l.length = n) (hm : m.length = n) (hn : n ≤ maxLen) (ha : BytesAt w ao l) (hb : BytesAt w bo m) (q : Bool) (hq : q = decide (l = m)) :
    Calls Tryd.prog 53 #[.slice ao n ca, .slice bo n cb] w fun e w' => e = .returned (.bool q) ∧ Below w.heap.size w w' := by
  have HA := Lib.hid ha
  have HB := Lib.hid hb
  have HQ := Lib.hid hq
  have HL := Lib.hid hl
  have HM := Lib.hid hm
  unfold maxLen at hn
  have q2 : ((n : Int) != (n : Int)) = false := by simp
  clear ha hb hq hl hm
  go_enter Tryd.func53, Tryd.ntmps53
  go_wp2_with fail
  go_loopw [5] (fun i wr => ∃ k d : Nat, k ≤ n ∧ i = .int .i64 k ∧ wr = w.drewN d ∧ l.take k = m.take k) (fun i _ => n - (intOf i).toNat)
  case atStart => exact ⟨0, 0, Nat.zero_le _, rfl, rfl, rfl⟩
  case round =>
    obtain ⟨k, d, hk, rfl, rfl, hall⟩ := hrel
    have HALL := Lib.hid hall
    clear hall
    by_cases hlt : k < n
    · have hkl : k < l.length := by rw [HL.out]; exact hlt
      have hkm : k < m.length := by rw [HM.out]; exact hlt
      obtain ⟨b, o, rfl, hca⟩ : ∃ b o, ao = some ⟨b, o, none⟩ ∧ ∀ i (h : i < l.length), w.cell? ⟨b, o + i, none⟩ = some (.int .u8 (l[i].toNat : Int)) := by
        rcases HA.out with h | h
        · rw [h] at hkl; simp at hkl
        · exact h
      obtain ⟨b2, o2, rfl, hcb⟩ : ∃ b o, bo = some ⟨b, o, none⟩ ∧ ∀ i (h : i < m.length), w.cell? ⟨b, o + i, none⟩ = some (.int .u8 (m[i].toNat : Int)) := by
        rcases HB.out with h | h
        · rw [h] at hkm; simp at hkm
        · exact h
      have g1 := hca k hkl
      have g3 := hcb k hkm
      have HT1 := Lib.hid (List.take_succ_eq_append_getElem hkl)
      have HT2 := Lib.hid (List.take_succ_eq_append_getElem hkm)
      obtain ⟨x, hx⟩ : ∃ x, x = l[k] := ⟨_, rfl⟩
      obtain ⟨y, hy⟩ : ∃ y, y = m[k] := ⟨_, rfl⟩
      rw [← hx] at g1 HT1
      rw [← hy] at g3 HT2
      have b1 : (0 : Int) ≤ (k : Int) := by omega
      have b2 : (k : Int) < (n : Int) := by omega
      have HX := Lib.hid hx
      have HY := Lib.hid hy
      clear hx hy hca hcb
      by_cases hxy : x = y
      · subst hxy
        have q3 : ((x.toNat : Int) != (x.toNat : Int)) = false := by simp
        go_wp2_with fail
        go_quiet (fail)
        go_wp2_with fail
        go_roundw
        case rel => exact ⟨k + 1, d + nq, by omega, by go_num, by simp [World.drewN], by rw [HT1.out, HT2.out, HALL.out]⟩
        case measure => simp [intOf]; omega
      · have q3 : ((x.toNat : Int) != (y.toNat : Int)) = true := by
          simp only [bne_iff_ne, ne_eq]
          intro e
          exact hxy (UInt8.toNat_inj.1 (by omega))
        have HNE := Lib.hid (show q = false by
          rw [HQ.out, decide_eq_false_iff_not]
          intro e
          apply hxy
          rw [HX.out, HY.out]
          simp only [e])
        clear hxy
        go_wp2_with fail
        go_quiet (fail)
        go_wp2_with fail
        go_ret
        exact ⟨by rw [HNE.out]; rfl, below_drewN (below_drewN (Below.refl _ _) _) _⟩
    · have HEQ := Lib.hid (show q = true by
        rw [HQ.out, decide_eq_true_eq]
        have h := HALL.out
        rwa [List.take_of_length_le (by have := HL.out; omega), List.take_of_length_le (by have := HM.out; omega)] at h)
      go_wp2_with fail
      go_ret
      exact ⟨by rw [HEQ.out]; rfl, below_drewN (Below.refl _ _) _⟩
end Go.Proofs.YtekaimfabadclaaDoor
/- The document's own answer: Unpack. -/
namespace Go.Proofs.YtekaimfabadclaaDoor
open Go Go.RowKit

set_option maxHeartbeats 8000000 in
set_option maxRecDepth 100000 in
theorem refUnpack_any (l : List UInt8) (ao : Option Addr) (cap : Nat) (w : World) (hb : BytesAt w ao l) (hlc : l.length ≤ cap) (hcm : cap ≤ maxLen) :
    Calls Tryd.prog 37 #[.slice ao l.length cap] w fun en w' => UnTo w.heap.size l en w' ∧ Below w.heap.size w w' := by
  obtain ⟨i0, hi0, hz0, hz1, hz2⟩ := info_parts Tryd.infoEv
  have HBY := Lib.hid hb
  unfold maxLen at hcm
  clear hb
  by_cases hbig : 1048576 < l.length
  · have HE := Lib.hid (show unF l = 2 from if_pos hbig)
    have hq : (1048576 : Int) < (l.length : Int) := by omega
    clear hbig
    go_enter Tryd.func37, Tryd.ntmps37
    go_wp2_with fail
    go_ret2
    exact ⟨Or.inr ⟨by rw [HE.out]; decide, by rw [HE.out]; rfl⟩, Below.refl _ _⟩
  have hq : ¬ (1048576 : Int) < (l.length : Int) := by omega
  by_cases hsm : l.length ≤ 4
  · have HE := Lib.hid (show unF l = 30 by unfold unF; rw [if_neg hbig, if_pos hsm])
    clear hbig
    go_enter Tryd.func37, Tryd.ntmps37
    go_wp2_with fail
    go_ret2
    exact ⟨Or.inr ⟨by rw [HE.out]; decide, by rw [HE.out]; rfl⟩, Below.refl _ _⟩
  obtain ⟨N, hN⟩ : ∃ N, l.length = N + 4 := ⟨l.length - 4, by omega⟩
  have hN1 : 1 ≤ N := by omega
  have HFE := Lib.hid (show unF l = if sumB (l.take N) ≠ l.drop N then 32 else (leftR (batchR ⟨l.take N, 0⟩).2).fault by
    unfold unF
    rw [if_neg hbig, if_neg hsm, show l.length - 4 = N by omega])
  obtain ⟨b, o, rfl, hc⟩ : ∃ b o, ao = some ⟨b, o, none⟩ ∧ ∀ i (h : i < l.length), w.cell? ⟨b, o + i, none⟩ = some (.int .u8 (l[i].toNat : Int)) := by
    rcases HBY.out with h | h
    · rw [h] at hN; simp at hN
    · exact h
  have hbl : b < w.heap.size := World.block_lt_of_cell? w _ (hc 0 (by omega))
  obtain ⟨M, hM⟩ : ∃ M, M = l.take N := ⟨_, rfl⟩
  obtain ⟨T, hT⟩ : ∃ T, T = l.drop N := ⟨_, rfl⟩
  have hml : M.length = N := by rw [hM, List.length_take]; omega
  have htl : T.length = 4 := by rw [hT, List.length_drop]; omega
  have HM := Lib.hid (show BytesAt w (some ⟨b, o, none⟩) M by rw [hM]; exact HBY.out.take N)
  have HT := Lib.hid (show BytesAt w (some ⟨b, o + N, none⟩) T by
    refine Or.inr ⟨b, o + N, rfl, fun i hi => ?_⟩
    have h := hc (N + i) (by omega)
    rw [← Nat.add_assoc] at h
    rw [h]
    simp only [hT, List.getElem_drop])
  have HUN := Lib.hid (show UnTo w.heap.size l = UnToM w.heap.size M (unF l) by
    rw [hM, show N = l.length - 4 by omega]
    rfl)
  rw [HUN.out]
  rw [← hM, ← hT] at HFE
  obtain ⟨uf, huf⟩ : ∃ uf, uf = unF l := ⟨_, rfl⟩
  rw [← huf] at HFE ⊢
  clear HUN huf HBY hc hbig hsm hM hT
  have HSM := Lib.hid (fun (W : World) (h : Below w.heap.size w W) => (refSum_any M (some ⟨b, o, none⟩) cap W (HM.out.below h) (by omega) (by unfold maxLen; omega)).mono (R' := fun en w' => (∃ g, en = .returned (.slice (some ⟨g, 0, none⟩) 4 4) ∧ BytesAt w' (some ⟨g, 0, none⟩) (sumB M)) ∧ Below W.heap.size W w') (fun en w' h => ⟨⟨_, h.1, bytes_of_block h.2.1⟩, h.2.2⟩))
  obtain ⟨q, hqq⟩ : ∃ q, q = decide (sumB M = T) := ⟨_, rfl⟩
  have HSA := Lib.hid (fun (W : World) (g : Nat) (h : Below w.heap.size w W) (hg : BytesAt W (some ⟨g, 0, none⟩) (sumB M)) => refSame_q (sumB M) T (some ⟨g, 0, none⟩) (some ⟨b, o + N, none⟩) 4 4 (cap - N) W rfl htl (by unfold maxLen; omega) hg (HT.out.below h) q hqq)
  have HQ := Lib.hid hqq
  have HINT := Lib.hid (fun (W : World) (h : Below w.heap.size w W) => refInt_any M (some ⟨b, o, none⟩) cap W (HM.out.below h) (by omega) (by unfold maxLen; omega))
  have HML := Lib.hid hml
  rw [hml] at HSM HINT
  obtain ⟨L, hL⟩ : ∃ L, L = l.length := ⟨_, rfl⟩
  rw [← hL] at hN hlc hq ⊢
  have hq2 : ¬ ((L : Int) < 5) := by omega
  have z0 : (0 : Int) ≤ (N : Int) := by omega
  have z1 : (N : Int) ≤ (cap : Int) := by omega
  have z2 : (N : Int) ≤ (L : Int) := by omega
  have z3 : (L : Int) ≤ (cap : Int) := by omega
  have z4 : (L : Int) - 4 = (N : Int) := by omega
  have z5 : L - N = 4 := by omega
  have z6 : ¬ cap = N := by omega
  have z7 : IntKind.i64.wrap (N : Int) = (N : Int) := IntWalk.i64_in _ (by omega)
  have hNc : N < cap := by omega
  have HL := Lib.hid hN
  clear hN hlc hL hqq hml htl
  go_enter Tryd.func37, Tryd.ntmps37
  go_upto_region 6 with fail
  go_region_held3 (fun _ => True) (first | trivial | exact trivial)
    ((first
      | (go_at_call 69; (with_reducible refine (HSM.out _ (Below.refl w.heap.size w).drew).mono ?_); rintro e w4 ⟨⟨g4, rfl, hg4⟩, hb4⟩; have hbD := (Below.refl w.heap.size w).drew.trans hb4)
      | (go_at_call 53; (with_reducible refine (HSA.out _ g4 hbD hg4).mono ?_); rintro e w5 ⟨rfl, hb5⟩)))
  have HB5 := Lib.hid (hbD.trans (hb5.mono hbD.size))
  have zz5 : w.heap.size ≤ w5.heap.size := HB5.out.size
  clear hbD hb4 hb5 hg4 HSM HSA
  cases q
  case false =>
    have HE := Lib.hid (show uf = 32 by
      have h := HQ.out
      rw [HFE.out, if_pos (by intro e; rw [decide_eq_true e] at h; cases h)])
    go_wp2_with fail
    go_ret2
    exact ⟨Or.inr ⟨by rw [HE.out]; decide, by rw [HE.out]; rfl⟩, HB5.out⟩
  have HF := Lib.hid (show uf = (leftR (batchR ⟨M, 0⟩).2).fault by
    have h := HQ.out
    rw [HFE.out, if_neg (by intro e; rw [decide_eq_false e] at h; cases h)])
  have HI := Lib.hid (intB_ok M)
  have HBF := Lib.hid (batch_fault (M := M))
  have HBR := Lib.hid (batch_range (M := M))
  have HBG := Lib.hid (fun n => batch_go (M := M) (n := n))
  rw [HML.out] at HI
  obtain ⟨⟨v, c, f⟩, hv⟩ : ∃ x, x = intB M := ⟨_, rfl⟩
  rw [← hv] at HINT HI HBF HBR HBG
  simp only at HINT HI HBF HBR HBG
  clear hv HQ HFE z7
  go_wp2_with fail
  (with_reducible refine (HINT.out w5 HB5.out).mono ?_); rintro e w6 ⟨rfl, hb6⟩
  have HB6 := Lib.hid (HB5.out.trans (hb6.mono zz5))
  have zz6 := HB6.out.size
  clear hb6 HINT
  cases hf : (f == 0)
  case false =>
    have hf0 : f ≠ 0 := by simpa using hf
    have hf2 : (f != 0) = true := by simp [bne, hf]
    have HE := Lib.hid (show uf = f by rw [HF.out]; exact HBF.out hf0)
    have H0 := Lib.hid hf0
    clear hf0
    go_wp2_with fail
    go_ret2
    exact ⟨Or.inr ⟨by rw [HE.out]; exact H0.out, by rw [HE.out]; rfl⟩, HB6.out⟩
  have hf0 : f = 0 := by simpa using hf
  have hf2 : (f != 0) = false := by simp [bne, hf]
  obtain ⟨g1, g2, g3, g4⟩ := HI.out hf0
  by_cases hr : v < 0 ∨ 1024 < v
  · have HE := Lib.hid (show uf = 31 by rw [HF.out]; exact HBR.out hf0 hr)
    have hr2 : v < 0 ∨ (0 ≤ v ∧ 1024 < v) := by omega
    clear hr hf0
    rcases hr2 with j1 | ⟨j0, j1⟩
    all_goals
      go_wp2_with fail
      go_ret2
      exact ⟨Or.inr ⟨by rw [HE.out]; decide, by rw [HE.out]; rfl⟩, HB6.out⟩
  obtain ⟨n, rfl⟩ : ∃ n : Nat, v = (n : Int) := ⟨v.toNat, by omega⟩
  have hn : n ≤ 1024 := by omega
  have hn2 : (n : Int) ≤ 1024 := by omega
  have HG := Lib.hid (show HalfB M n 0 c [] from ⟨rfl, by rw [HML.out]; exact g2, by rw [HBG.out n hf0 rfl hn]; simp⟩)
  clear hr hf0 HBF HBR HBG HI
  go_wp2_with fail
  go_loopw [6, 8, 9] (fun a s i wr => ∃ (k p : Nat) (acc : List EvX), k ≤ n ∧ i = .int .i64 k ∧ a = .int .i64 p ∧ HalfB M n k p (xs acc) ∧ wr.ownsRow w.heap.size 24 3 s acc.length (evCells acc) ∧ (∀ x ∈ acc, VFar w.heap.size s wr x ∧ x.ev.vals.length ≤ maxLen) ∧ Below w.heap.size w wr) (fun _ _ i _ => n - (intOf i).toNat)
  case atStart => exact ⟨0, c, [], Nat.zero_le _, rfl, rfl, HG.out, World.ownsRow_nil _ _ _ _, fun x hx => absurd hx (by simp), HB6.out⟩
  case round =>
    obtain ⟨k, p, acc, hk, rfl, rfl, hhalf, hown, hfar, hbel⟩ := hrel
    have HH := Lib.hid hhalf
    have HO := Lib.hid hown
    have HFAR := Lib.hid hfar
    have HBE := Lib.hid hbel
    have zr := hbel.size
    have hp := hhalf.2.1
    rw [HML.out] at hp
    have hal : acc.length = k := by have := hhalf.1; simpa [xs] using this
    have HAL := Lib.hid hal
    have p0 : (0 : Int) ≤ (p : Int) := by omega
    have p1 : (p : Int) ≤ (N : Int) := by omega
    have p2 : ¬ cap = p := by omega
    have k0 : (0 : Int) ≤ (k : Int) := by omega
    rw [hal] at HO
    clear hhalf hown hfar hbel hal
    by_cases hlt : k < n
    · have k1 : (k : Int) < (n : Int) := by omega
      have hdl : (M.drop p).length = N - p := by rw [List.length_drop, HML.out]
      have HDEC := Lib.hid (refDecode_any (M.drop p) (some ⟨b, o + p, none⟩) (cap - p) wr (by
        rcases HM.out.below HBE.out with h | ⟨b', o', e, h⟩
        · exact Or.inl (by rw [h]; simp)
        · cases e
          refine Or.inr ⟨b, o + p, rfl, fun i hi => ?_⟩
          have h2 := h (p + i) (by rw [HML.out]; omega)
          rw [← Nat.add_assoc] at h2
          rw [h2]
          simp only [List.getElem_drop]) (by omega) (by unfold maxLen; omega))
      rw [hdl] at HDEC
      have HST := Lib.hid (halfB_step HH.out hlt)
      have HBAD := Lib.hid (halfB_bad HH.out hlt)
      have HRL := Lib.hid (show (eventR ⟨M.drop p, 0⟩).2.fault = 0 → (eventR ⟨M.drop p, 0⟩).2.rest.length ≤ (M.drop p).length from fun h0 => by
        have hb := congrArg List.length (event_codec.back (M.drop p) h0).2
        rw [List.length_append] at hb
        omega)
      obtain ⟨X, hX⟩ : ∃ X, X = eventR ⟨M.drop p, 0⟩ := ⟨_, rfl⟩
      rw [← hX] at HST HBAD HRL
      rw [hdl] at HST HRL
      have HX := Lib.hid hX
      have HDL := Lib.hid hdl
      clear hX hdl
      go_wp2_with fail
      (with_reducible refine HDEC.out.mono ?_); rintro e w7 ⟨hde, hb7⟩
      unfold DecTo at hde
      rw [← HX.out] at hde
      have HB7 := Lib.hid (HBE.out.trans (hb7.mono zr))
      have HBW7 := Lib.hid hb7
      have HO7 := Lib.hid (owns_below HO.out hb7)
      have z7 := hb7.size
      clear hb7 HDEC
      obtain ⟨⟨⟨ty, tm, vals⟩, rn⟩, hXX⟩ : ∃ Y, Y = X := ⟨_, rfl⟩
      subst hXX
      simp only at hde HST HBAD HRL
      rcases hde with ⟨h0, va, c', rfl, ho⟩ | ⟨h0, rfl⟩
      · have hrl := HRL.out h0
        obtain ⟨d, hd⟩ : ∃ d, d = N - p - rn.rest.length := ⟨_, rfl⟩
        have hst := HST.out h0
        rw [← hd] at hst
        have hdi : (((M.drop p).length : Nat) : Int) - (rn.rest.length : Int) = (d : Int) := by rw [HDL.out]; omega
        rw [hdi]
        have hd0 : (d : Int) ≤ (N : Int) := by omega
        have HSTP := Lib.hid hst
        have hvl := owned_len ho
        have HVF := Lib.hid (show VFar w.heap.size u8 w7 ⟨⟨ty, tm, vals⟩, va, c'⟩ by
          refine ⟨owned_vals2 ho, ?_⟩
          rcases ho.2 with ⟨e, e0⟩ | ⟨g, cap', cur, e, hg, hh, _⟩
          · exact Or.inl (List.eq_nil_of_length_eq_zero e0)
          · injection e with e1 e2 e3
            refine Or.inr ⟨g, 0, e1, ?_, (Array.getElem?_eq_some_iff.1 hh).1, by omega⟩
            intro e4
            have := (HO.out.lt g e4.symm).2
            omega)
        clear h0 hrl hd hst hdi ho
        go_upto_region 18 with fail
        obtain ⟨W8, hW8⟩ : ∃ W8, W8 = w7.alloc (Obj.cells #[.string ty, .int .i64 tm, .slice va vals.length c'] 24) := ⟨_, rfl⟩
        rw [← hW8]
        have hb8 : Below w7.heap.size w7 W8 := by rw [hW8]; exact (Below.refl _ _).alloc (Nat.le_refl _) _
        have HC8 := Lib.hid (show Cells3 W8 w7.heap.size (.string ty) (.int .i64 tm) (.slice va vals.length c') by rw [hW8]; exact Cells3.made _ _ _ _ _)
        have HB8 := Lib.hid (HB7.out.trans (hb8.mono HB7.out.size))
        have HO8 := Lib.hid (owns_below HO7.out hb8)
        have HV8 := Lib.hid (HVF.out.below hb8)
        have HFA8 := Lib.hid (fun x hx => (show VFar w.heap.size u8 W8 x ∧ x.ev.vals.length ≤ maxLen from ⟨((HFAR.out x hx).1.below HBW7.out).below hb8, (HFAR.out x hx).2⟩))
        have z8 := HB8.out.size
        have x0 := HC8.out.c0
        have x1 := HC8.out.c1
        have x2 := HC8.out.c2
        have e1 : IntKind.i64.wrap ((p : Int) + (d : Int)) = (p : Int) + (d : Int) := IntWalk.i64_in _ (by omega)
        clear hW8 hb8
        go_upto_region 21 with (at_builtin; go_must (refine wpList_append_lies _ (by rfl) _ _ _ (by rfl) w.heap.size 24 i0 _ 3 48 Tryd.underlying38 hi0 hz0 hz1 hz2 rfl (by omega) u8 k (evCells acc) (by rfl) (HO8.out.alloc _) ⟨_, 0, none⟩ 1 1 (EvX.cells ⟨⟨ty, tm, vals⟩, va, c'⟩) (by rfl) (by rfl) (World.news_of_block (cs := #[.string ty, .int .i64 tm, .slice va vals.length c']) (t := 24) (fr := (0, 0)) (heap_alloc_new _ _)) (by simp [EvX.cells, Value.oneCell']) (by omega) (by unfold maxLen; omega) (by omega) (by simp; omega) _ rfl ?_; intro g9 c9 w9 hown9 hgrow9 hat9 hlt9; have HO9 := Lib.hid hown9; have HG9 := Lib.hid hgrow9; have HA9 := Lib.hid hat9; clear hown9 hgrow9 hat9 hlt9))
        have hbo : Below W8.heap.size W8 (W8.alloc (Obj.cells #[.string ty, .int .i64 tm, .slice va vals.length c'] 24)) := (Below.refl _ _).alloc (Nat.le_refl _) _
        have HB9 := Lib.hid (show Below w.heap.size w w9 from (HB8.out.trans (hbo.mono z8)).grown HG9.out (by simp; omega) (fun j hj => (HO8.out.lt j hj).1))
        have hrow : (Value.slice (some ⟨g9, 0, none⟩) (k + 1) c9).ownBlock = u8.ownBlock ∨ ∃ g, (W8.alloc (Obj.cells #[.string ty, .int .i64 tm, .slice va vals.length c'] 24)).heap.size ≤ g ∧ (Value.slice (some ⟨g9, 0, none⟩) (k + 1) c9).ownBlock = some g := by
          rcases HA9.out with e | e
          · exact Or.inl (e.symm ▸ rfl)
          · exact Or.inr ⟨g9, by omega, rfl⟩
        have HFA9 := Lib.hid (show ∀ x ∈ acc ++ [⟨⟨ty, tm, vals⟩, va, c'⟩], VFar w.heap.size (.slice (some ⟨g9, 0, none⟩) (k + 1) c9) w9 x ∧ x.ev.vals.length ≤ maxLen from fun x hx => by
          rcases List.mem_append.1 hx with hx | hx
          · exact ⟨((HFA8.out x hx).1.below hbo).grown HG9.out hrow, (HFA8.out x hx).2⟩
          · rw [List.mem_singleton.1 hx]
            exact ⟨(HV8.out.below hbo).grown HG9.out hrow, hvl⟩)
        clear hbo hrow x0 x1 x2
        go_wp2_with fail
        go_roundw
        case rel =>
          refine ⟨k + 1, p + d, acc ++ [⟨⟨ty, tm, vals⟩, va, c'⟩], by omega, by go_num, by go_num, by rw [xs_snoc]; exact HSTP.out, ?_, HFA9.out, HB9.out⟩
          rw [evCells_snoc, List.length_append, HAL.out]
          exact HO9.out
        case measure => simp [intOf]; omega
      · have hf3 : (rn.fault != 0) = true := by simpa using h0
        have HE := Lib.hid (show uf = rn.fault by rw [HF.out]; exact HBAD.out h0)
        have H0 := Lib.hid h0
        clear h0
        go_wp2_with fail
        go_ret2
        exact ⟨Or.inr ⟨by rw [HE.out]; exact H0.out, by rw [HE.out]; rfl⟩, by first | exact HB7.out.trans (((Below.refl _ _).alloc (Nat.le_refl _) _).mono HB7.out.size) | exact HB7.out⟩
    · have k1 : ¬ (k : Int) < (n : Int) := by omega
      obtain rfl : k = n := by omega
      have HEND := Lib.hid (halfB_end HH.out)
      obtain ⟨vo, vc, rfl⟩ := owned_form3 HO.out
      by_cases hpn : p < N
      · have hpi : (p : Int) < (N : Int) := by omega
        have HE := Lib.hid (show uf = 31 by rw [HF.out, HEND.out]; exact left_more (by rw [HML.out]; exact hpn))
        clear hpn
        go_wp2_with fail
        go_ret2
        exact ⟨Or.inr ⟨by rw [HE.out]; decide, by rw [HE.out]; rfl⟩, HBE.out⟩
      · have hpi : ¬ (p : Int) < (N : Int) := by omega
        have HE := Lib.hid (show uf = 0 by rw [HF.out, HEND.out]; exact left_none (by rw [HML.out]; exact hpn))
        clear hpn
        go_wp2_with fail
        go_ret2
        have ho := HO.out
        rw [← HAL.out] at ho
        refine ⟨Or.inl ⟨HE.out, acc, vo, vc, by rw [HAL.out]; rfl, by rw [HEND.out], ?_, owned_len ho, fun x hx => (HFAR.out x hx).2⟩, HBE.out⟩
        refine evs_of_far ho (fun x hx => ?_)
        rw [HAL.out]
        exact (HFAR.out x hx).1
end Go.Proofs.YtekaimfabadclaaDoor
/- The laws' given: events whose lists are the statement's own. -/
namespace Go.Proofs.YtekaimfabadclaaDoor
open Go Go.RowKit

/-- A row of events of the call's own. -/
structure ERow (w : World) (B g : Nat) (l : List EvX) : Prop where
  c : ∀ i (h : i < l.length), w.cell? ⟨g, i * 3, none⟩ = some (.string l[i].ev.ty) ∧ w.cell? ⟨g, i * 3 + 1, none⟩ = some (.int .i64 l[i].ev.time) ∧ w.cell? ⟨g, i * 3 + 2, none⟩ = some (.slice l[i].va l[i].ev.vals.length l[i].cap)
  f : ∀ j, j < l.length * 3 → w.frozen? ⟨g, j, none⟩ = false
  lo : B ≤ g
  lt : g < w.heap.size
theorem ERow.keep {w w' : World} {B g : Nat} {l : List EvX} (h : ERow w B g l) (hk : w'.heap[g]? = w.heap[g]?) (hs : w.heap.size ≤ w'.heap.size) : ERow w' B g l := by
  have e : ∀ j : Nat, w'.cell? ⟨g, j, none⟩ = w.cell? ⟨g, j, none⟩ := fun j => World.cell?_of_block (w := w) hk
  refine ⟨fun i hi => ?_, fun j hj => (World.frozen?_of_block (w := w) (a := ⟨g, j, none⟩) hk).trans (h.f j hj), h.lo, Nat.lt_of_lt_of_le h.lt hs⟩
  have hc := h.c i hi
  exact ⟨(e _).trans hc.1, (e _).trans hc.2.1, (e _).trans hc.2.2⟩
theorem ERow.below {w w' : World} {B g : Nat} {l : List EvX} (h : ERow w B g l) (hb : Below w.heap.size w w') : ERow w' B g l := h.keep (hb.block g h.lt) hb.size
def EvX.withTime (x : EvX) (t : Int) : EvX := ⟨⟨x.ev.ty, t, x.ev.vals⟩, x.va, x.cap⟩
theorem ERow.setTime {w : World} {B g : Nat} {l : List EvX} (h : ERow w B g l) (k : Nat) (hk : k < l.length) (t : Int) : ERow (w.setCell ⟨g, k * 3 + 1, none⟩ (.int .i64 t)) B g (l.set k (l[k].withTime t)) := by
  obtain ⟨k0, k1, k2⟩ := h.c k hk
  refine ⟨fun i hi => ?_, fun j hj => ?_, h.lo, by simp [World.setCell]; exact h.lt⟩
  · rw [List.length_set] at hi
    obtain ⟨i0, i1, i2⟩ := h.c i hi
    by_cases e : k = i
    · subst e
      rw [List.getElem_set_self]
      exact ⟨(set_ne (by omega)).trans k0, World.cell?_setCell_same _ _ _ k1, (set_ne (by omega)).trans k2⟩
    · rw [List.getElem_set_ne e]
      exact ⟨(set_ne (by omega)).trans i0, (set_ne (by omega)).trans i1, (set_ne (by omega)).trans i2⟩
  · rw [List.length_set] at hj
    rw [World.frozen?_setCell]
    exact h.f j hj
def storeE (w : World) (g k : Nat) (x : EvX) : World := ((w.setCell ⟨g, k * 3, none⟩ (.string x.ev.ty)).setCell ⟨g, k * 3 + 1, none⟩ (.int .i64 x.ev.time)).setCell ⟨g, k * 3 + 2, none⟩ (.slice x.va x.ev.vals.length x.cap)
theorem storeE_size (w : World) (g k : Nat) (x : EvX) : (storeE w g k x).heap.size = w.heap.size := by simp [storeE, World.setCell]
theorem storeE_below {w wE : World} {g j E : Nat} {x : EvX} (hb : Below E wE w) (h : E ≤ g) : Below E wE (storeE w g j x) :=
  ((hb.setCell h _).setCell h _).setCell h _
theorem ERow.set {w : World} {B g : Nat} {l : List EvX} (h : ERow w B g l) (k : Nat) (hk : k < l.length) (x : EvX) : ERow (storeE w g k x) B g (l.set k x) := by
  obtain ⟨k0, k1, k2⟩ := h.c k hk
  refine ⟨fun i hi => ?_, fun j hj => ?_, h.lo, by rw [storeE_size]; exact h.lt⟩
  · rw [List.length_set] at hi
    obtain ⟨i0, i1, i2⟩ := h.c i hi
    unfold storeE
    by_cases e : k = i
    · subst e
      rw [List.getElem_set_self]
      refine ⟨?_, ?_, ?_⟩
      · rw [set_ne (by omega), set_ne (by omega)]
        exact World.cell?_setCell_same _ _ _ k0
      · rw [set_ne (by omega)]
        exact World.cell?_setCell_same _ _ _ ((set_ne (by omega)).trans k1)
      · exact World.cell?_setCell_same _ _ _ ((set_ne (by omega)).trans ((set_ne (by omega)).trans k2))
    · rw [List.getElem_set_ne e]
      refine ⟨?_, ?_, ?_⟩
      · rw [set_ne (by omega), set_ne (by omega), set_ne (by omega)]; exact i0
      · rw [set_ne (by omega), set_ne (by omega), set_ne (by omega)]; exact i1
      · rw [set_ne (by omega), set_ne (by omega), set_ne (by omega)]; exact i2
  · rw [List.length_set] at hj
    unfold storeE
    rw [World.frozen?_setCell, World.frozen?_setCell, World.frozen?_setCell]
    exact h.f j hj
theorem made_three (z0 z1 z2 : Value) (N i r : Nat) (hi : i < N) (hr : r < 3) : (madeCells #[z0, z1, z2] (N * 3)).toList[i * 3 + r]? = #[z0, z1, z2][r]? := by
  unfold madeCells
  have e : (i * 3 + r) % 3 = r := by omega
  have h3 : (#[z0, z1, z2] : Array Value).size = 3 := rfl
  have hlt : i * 3 + r < N * 3 := by omega
  rw [Array.getElem?_toList, Array.getElem?_map, Array.getElem?_range]
  simp only [hlt, h3, if_true, Option.map_some, e]
  rcases r with _ | _ | _ | r
  · rfl
  · rfl
  · rfl
  · omega
def zeroX : EvX := ⟨zeroEv, none, 0⟩
theorem erow_made {w : World} {B g N : Nat} (h : w.ownsRow B 24 3 (.slice (some ⟨g, 0, none⟩) N N) N (madeCells #[.string ⟨#[]⟩, .int .i64 0, .slice none 0 0] (N * 3)).toList) : ERow w B g (List.replicate N zeroX) := by
  rcases h.2 with ⟨e, _⟩ | ⟨g', cap, cur, e, hb, hh, hn, hc, hs, ht⟩
  · cases e
  · injection e with e1 e2 e3
    injection e1 with e1
    injection e1 with e1
    subst e1
    have hget : ∀ i r, i < N → r < 3 → w.cell? ⟨g, i * 3 + r, none⟩ = #[Value.string ⟨#[]⟩, .int .i64 0, .slice none 0 0][r]? := by
      intro i r hi hr
      have hg := made_three (.string ⟨#[]⟩) (.int .i64 0) (.slice none 0 0) N i r hi hr
      rw [← ht, List.getElem?_take, if_pos (by omega)] at hg
      rw [cell_of_row w g _ _ _ (0, 0) hh]
      simpa using hg
    refine ⟨fun i hi => ?_, fun j hj => by simp [World.frozen?, hh], hb, (Array.getElem?_eq_some_iff.1 hh).1⟩
    have hi' : i < N := by rw [List.length_replicate] at hi; exact hi
    rw [List.getElem_replicate]
    exact ⟨hget i 0 hi' (by omega), hget i 1 hi' (by omega), hget i 2 hi' (by omega)⟩

/-- A list of values that wide made. -/
structure RoomX where
  g : Nat
  r : List Val
def RoomX.v (x : RoomX) : Value := .slice (some ⟨x.g, 0, none⟩) x.r.length x.r.length
def roomCells (l : List RoomX) : List Value := l.map RoomX.v
/-- It is e's, and lies beside a row. -/
structure RoomAt (w : World) (B : Nat) (v : Value) (x : RoomX) (e : Ev) : Prop where
  row : VRow w B x.g x.r
  len : x.r.length = e.vals.length + 34
  all : ∀ i (h : i < x.r.length), x.r[i] = wideAt e.vals i
  far : some x.g ≠ v.ownBlock
theorem RoomAt.below {w w' : World} {B : Nat} {v : Value} {x : RoomX} {e : Ev} (h : RoomAt w B v x e) (hb : Below w.heap.size w w') : RoomAt w' B v x e := ⟨h.row.below hb, h.len, h.all, h.far⟩
theorem RoomAt.set {w : World} {B : Nat} {v : Value} {x : RoomX} {e : Ev} (h : RoomAt w B v x e) (a : Addr) (u : Value) (ha : a.block < B) : RoomAt (w.setCell a u) B v x e :=
  ⟨h.row.keep (Below.heap_setCell _ _ _ _ (by have := h.row.lo; omega)) (by simp [World.setCell]), h.len, h.all, h.far⟩
theorem RoomAt.grown {w w' : World} {B : Nat} {v v' : Value} {x : RoomX} {e : Ev} (h : RoomAt w B v x e) (hg : w.grownBy w' v.ownBlock) (hr : v'.ownBlock = v.ownBlock ∨ ∃ g, w.heap.size ≤ g ∧ v'.ownBlock = some g) : RoomAt w' B v' x e :=
  ⟨h.row.keep (hg.block x.g h.row.lt h.far) hg.size, h.len, h.all, row_still hr h.far h.row.lt⟩
theorem Tryd.infoVals : (Tryd.prog.info? 22).map (fun i => (i.zero, i.size, i.bytes)) = some (some (.slice none 0 0), 1, 24) := by kernel_rfl

/-- The i-th event of the list that is handed in. -/
def inX (es : List EvX) (rm : List RoomX) (i : Nat) : EvX := if i < es.length then ⟨(es.getD i zeroX).ev, some ⟨(rm.getD i ⟨0, []⟩).g, 0, none⟩, (es.getD i zeroX).ev.vals.length + 34⟩ else ⟨⟨⟨#[]⟩, 78 + (i : Int) - (es.length : Int), []⟩, none, 0⟩
theorem inX_in {es : List EvX} {rm : List RoomX} {i : Nat} (h : i < es.length) (h2 : i < rm.length) : inX es rm i = ⟨es[i].ev, some ⟨rm[i].g, 0, none⟩, es[i].ev.vals.length + 34⟩ := by simp [inX, h, h2]
theorem inX_out {es : List EvX} {rm : List RoomX} {i : Nat} (h : ¬ i < es.length) : inX es rm i = ⟨⟨⟨#[]⟩, 78 + (i : Int) - (es.length : Int), []⟩, none, 0⟩ := by simp [inX, h]
theorem inX_more {es : List EvX} {rm : List RoomX} {i : Nat} (x : RoomX) (h : i < es.length → i < rm.length) : inX es (rm ++ [x]) i = inX es rm i := by
  unfold inX
  by_cases hi : i < es.length
  · rw [if_pos hi, if_pos hi]
    have := h hi
    simp [List.getD, List.getElem?_append_left this]
  · rw [if_neg hi, if_neg hi]
/-- What given made. -/
structure GivenAt (w : World) (B : Nat) (es : List EvX) (gi : Nat) (v : Value) (l : List EvX) (rm : List RoomX) : Prop where
  rows : ERow w B gi l
  len : l.length = es.length + 34
  all : ∀ i (h : i < l.length), l[i] = inX es rm i
  rlen : rm.length = es.length
  rooms : ∀ i (h : i < rm.length) (h2 : i < es.length), RoomAt w (gi + 1) v rm[i] es[i].ev
  rown : w.ownsRow (gi + 1) 22 1 v rm.length (roomCells rm)
theorem GivenAt.below {w w' : World} {B gi : Nat} {es : List EvX} {v : Value} {l : List EvX} {rm : List RoomX} (h : GivenAt w B es gi v l rm) (hb : Below w.heap.size w w') : GivenAt w' B es gi v l rm :=
  ⟨h.rows.below hb, h.len, h.all, h.rlen, fun i h1 h2 => (h.rooms i h1 h2).below hb, owns_below h.rown hb⟩
/-- The events that are handed in, as they lie. -/
theorem GivenAt.evs {w : World} {B gi : Nat} {es : List EvX} {v : Value} {l : List EvX} {rm : List RoomX} (h : GivenAt w B es gi v l rm) : EvsIn w.heap.size w (some ⟨gi, 0, none⟩) (l.take es.length) := by
  refine Or.inr ⟨gi, 0, rfl, h.rows.lt, fun i hi => ?_⟩
  rw [List.length_take] at hi
  have hi1 : i < es.length := by omega
  have hi2 : i < l.length := by omega
  have hi3 : i < rm.length := by rw [h.rlen]; exact hi1
  rw [List.getElem_take]
  refine ⟨by rw [Nat.zero_add]; exact h.rows.c i hi2, ?_⟩
  rw [h.all i hi2, inX_in hi1 hi3]
  have hr := h.rooms i hi3 hi1
  have ht := hr.row.at'.take es[i].ev.vals.length
  rw [wide_take hr.len hr.all] at ht
  exact ht
theorem GivenAt.xs {w : World} {B gi : Nat} {es : List EvX} {v : Value} {l : List EvX} {rm : List RoomX} (h : GivenAt w B es gi v l rm) : xs (l.take es.length) = xs es := by
  unfold Go.Proofs.YtekaimfabadclaaDoor.xs
  apply List.ext_getElem
  · simp only [List.length_map, List.length_take, h.len]; omega
  · intro i h1 h2
    simp only [List.length_map, List.length_take] at h1 h2
    have hi3 : i < rm.length := by rw [h.rlen]; exact h2
    simp only [List.getElem_map, List.getElem_take]
    rw [h.all i (by omega), inX_in h2 hi3]
end Go.Proofs.YtekaimfabadclaaDoor
/- The walk of the laws' given. -/
namespace Go.Proofs.YtekaimfabadclaaDoor
open Go Go.RowKit

/-- What given answers. -/
def GivenTo (es : List EvX) (w : World) (en : Ending) (w' : World) : Prop :=
  ∃ gi l rm v, en = .returned (.tuple #[.slice (some ⟨gi, 0, none⟩) (es.length + 34) (es.length + 34), v]) ∧ GivenAt w' w.heap.size es gi v l rm ∧ Below w.heap.size w w'

set_option maxHeartbeats 8000000 in
set_option maxRecDepth 100000 in
theorem given_any (es : List EvX) (eo : Option Addr) (ec : Nat) (w : World) (he : EvsIn w.heap.size w eo es) (hel : es.length ≤ 2932031007317) (hvl : ∀ x ∈ es, x.ev.vals.length ≤ 3518437208780) :
    Calls Tryd.prog 32 #[.slice eo es.length ec] w (GivenTo es w) := by
  obtain ⟨i0, hi0, hz0, hz1, hz2⟩ := info_parts Tryd.infoEv
  obtain ⟨j0, hj0, hy0, hy1, hy2⟩ := info_parts Tryd.infoVals
  have HE := Lib.hid he
  have HVL := Lib.hid hvl
  obtain ⟨n, hn⟩ : ∃ n, n = es.length := ⟨_, rfl⟩
  rw [← hn] at hel ⊢
  have HN0 := Lib.hid hn
  obtain ⟨N, hN⟩ : ∃ N, N = n + 34 := ⟨_, rfl⟩
  have hN1 : (n : Int) + 34 = (N : Int) := by omega
  have hN2 : N ≤ 2932031007351 := by omega
  have hN3 : n ≤ N := by omega
  have l2 : (n : Int) ≤ 2932031007317 := by omega
  have HN := Lib.hid hN
  clear he hvl hn hN
  go_enter Tryd.func32, Tryd.ntmps32
  go_upto_region 3 with (at_make; refine wpList_make_full _ rfl _ _ 38 rfl w.heap.size 24 i0 _ 3 Tryd.underlying38 hi0 hz0 hz1 .i64 .i64 _ _ N rfl rfl (by first | rfl | exact hN1) (by first | rfl | exact hN1) (by rw [hz2]; omega) (by unfold maxLen; omega) (Nat.le_refl _) ?_; intro w2 hown2 hgrow2)
  obtain ⟨g, hg⟩ : ∃ g, g = w.heap.size := ⟨_, rfl⟩
  have HC2 := Lib.hid (show ERow w2 w.heap.size g (List.replicate N zeroX) by rw [hg]; exact erow_made hown2)
  have HB2 := Lib.hid (show Below w.heap.size w w2 from below_of_grown hgrow2 rfl)
  have hgl : w.heap.size ≤ g := by omega
  have hgr : g < w2.heap.size := HC2.out.lt
  rw [← hg]
  have HG := Lib.hid hg
  clear hown2 hgrow2 hg
  go_wp2_with fail
  go_loopw [6, 7] (fun v i wr => ∃ (k : Nat) (l : List EvX) (rm : List RoomX), k ≤ N ∧ i = .int .i64 k ∧ ERow wr w.heap.size g l ∧ l.length = N ∧ (∀ j (h : j < l.length), j < k → l[j] = inX es rm j) ∧ (∀ j (h : j < l.length), k ≤ j → l[j] = zeroX) ∧ (rm.length = k ∧ k ≤ n ∨ rm.length = n ∧ n ≤ k) ∧ (∀ j (h : j < rm.length) (h2 : j < es.length), RoomAt wr (g + 1) v rm[j] es[j].ev) ∧ wr.ownsRow (g + 1) 22 1 v rm.length (roomCells rm) ∧ Below w.heap.size w wr) (fun _ i _ => N - (intOf i).toNat)
  case atStart => exact ⟨0, List.replicate N zeroX, [], Nat.zero_le _, rfl, HC2.out, List.length_replicate .., fun j _ h => by omega, fun j h _ => by simp, Or.inl ⟨rfl, Nat.zero_le _⟩, fun j h _ => absurd h (by simp), World.ownsRow_nil _ _ _ _, HB2.out⟩
  case round =>
    obtain ⟨k, l, rm, hk, rfl, hc, hl, hall, hz, hrm, hroom, hown, hbel⟩ := hrel
    have HC := Lib.hid hc
    have HL := Lib.hid hl
    have HALL := Lib.hid hall
    have HZ := Lib.hid hz
    have HRM := Lib.hid hrm
    have HROOM := Lib.hid hroom
    have HO := Lib.hid hown
    have HBE := Lib.hid hbel
    have zr := hbel.size
    have zg := hc.lt
    have k0 : (0 : Int) ≤ (k : Int) := by omega
    clear hc hl hall hz hrm hroom hown hbel
    by_cases hlt : k < N
    · have k1 : (k : Int) < (N : Int) := by omega
      have hkl : k < l.length := by rw [HL.out]; exact hlt
      have hzk := HZ.out k hkl (Nat.le_refl _)
      obtain ⟨x0, x1, x2⟩ := HC.out.c k hkl
      have f1 := HC.out.f (k * 3 + 1) (by omega)
      have HST := Lib.hid (HC.out.setTime k hkl (78 + (k : Int) - (n : Int)))
      rw [hzk] at x0 x1 x2 HST
      obtain ⟨l1, hl1⟩ : ∃ l1, l1 = l.set k (zeroX.withTime (78 + (k : Int) - (n : Int))) := ⟨_, rfl⟩
      obtain ⟨W1, hW1⟩ : ∃ W1, W1 = wr.setCell ⟨g, k * 3 + 1, none⟩ (.int .i64 (78 + (k : Int) - (n : Int))) := ⟨_, rfl⟩
      rw [← hW1, ← hl1] at HST
      have HB1 := Lib.hid (show Below w.heap.size w W1 by rw [hW1]; exact HBE.out.setCell hgl _)
      have HR1 := Lib.hid (show ∀ j (h : j < rm.length) (h2 : j < es.length), RoomAt W1 (g + 1) u6 rm[j] es[j].ev from fun j h h2 => by rw [hW1]; exact (HROOM.out j h h2).set ⟨g, k * 3 + 1, none⟩ _ (by simp))
      have HO1 := Lib.hid (show W1.ownsRow (g + 1) 22 1 u6 rm.length (roomCells rm) by rw [hW1]; exact ownsRow_setCell_below HO.out (by simp) _)
      have HW1 := Lib.hid hW1
      have HL1 := Lib.hid hl1
      have z1 : W1.heap.size = wr.heap.size := by rw [hW1]; simp [World.setCell]
      have z1a : wr.heap.size ≤ W1.heap.size := by omega
      have z1b : w.heap.size ≤ W1.heap.size := by omega
      have z1c : g < W1.heap.size := by omega
      have HZZ := Lib.hid z1
      simp only [zeroX, zeroEv] at x0 x1 x2
      clear hW1 hl1 hkl hzk z1
      go_upto_region 8 with fail
      rw [← HW1.out]
      clear x0 x1 x2 f1
      by_cases hkn : k < n
      · have k2 : (k : Int) < (n : Int) := by omega
        have hke : k < es.length := by rw [← HN0.out]; exact hkn
        obtain ⟨b, o, rfl, hbB, hce⟩ : ∃ b o, eo = some ⟨b, o, none⟩ ∧ b < w.heap.size ∧ ∀ i (h : i < es.length), (W1.cell? ⟨b, o + i * 3, none⟩ = some (.string es[i].ev.ty) ∧ W1.cell? ⟨b, o + i * 3 + 1, none⟩ = some (.int .i64 es[i].ev.time) ∧ W1.cell? ⟨b, o + i * 3 + 2, none⟩ = some (.slice es[i].va es[i].ev.vals.length es[i].cap)) ∧ ValsIn w.heap.size W1 es[i].va es[i].ev.vals := by
          rcases HE.out.below HB1.out (Nat.le_refl _) with h | h
          · rw [h] at hke; simp at hke
          · exact h
        obtain ⟨⟨e0, e1, e2⟩, hvr⟩ := hce k hke
        have hvk := HVL.out es[k] (List.getElem_mem hke)
        have HXK := Lib.hid (show ∀ x, es[k] = x → es[k]? = some x from fun x h => by rw [List.getElem?_eq_getElem hke, h])
        obtain ⟨x, hx⟩ : ∃ x, x = es[k] := ⟨_, rfl⟩
        have HXX := Lib.hid (HXK.out x hx.symm)
        rw [← hx] at e0 e1 e2 hvr hvk
        obtain ⟨⟨ty, tm, vals⟩, va, vc⟩ := x
        simp only at e0 e1 e2 hvr hvk
        have HWD := Lib.hid (wide_any ⟨ty, tm, vals⟩ va vc W1 (hvr.mono z1b) hvk)
        simp only [evV] at HWD
        have hrk : rm.length = k := by
          rcases HRM.out with h | h
          · exact h.1
          · omega
        have HRK := Lib.hid hrk
        clear hce hx hvr HXK hrk
        go_wp2_with fail
        (with_reducible refine HWD.out.mono ?_); rintro en w2' hwd
        unfold WideTo at hwd
        simp only [evV] at hwd
        obtain ⟨gv, r, rfl, hgv, hrl, hrall, hb2⟩ := hwd
        have HGV := Lib.hid hgv
        have HRL := Lib.hid hrl
        have HRA := Lib.hid hrall
        have HBW := Lib.hid hb2
        have z2 := hb2.size
        clear hgv hrl hrall hb2 HWD e0 e1 e2
        go_upto_region 10 with fail
        obtain ⟨W3, hW3⟩ : ∃ W3, W3 = w2'.alloc (Obj.cells #[.string ty, .int .i64 tm, .slice (some ⟨gv, 0, none⟩) vals.length (vals.length + 34)] 24) := ⟨_, rfl⟩
        rw [← hW3]
        have hb3 : Below w2'.heap.size w2' W3 := by rw [hW3]; exact (Below.refl _ _).alloc (Nat.le_refl _) _
        have HX3 := Lib.hid (show Cells3 W3 w2'.heap.size (.string ty) (.int .i64 tm) (.slice (some ⟨gv, 0, none⟩) vals.length (vals.length + 34)) by rw [hW3]; exact Cells3.made _ _ _ _ _)
        have z3 := hb3.size
        have HB3 := Lib.hid (HB1.out.trans ((HBW.out.trans (hb3.mono z2)).mono z1b))
        have HBB := Lib.hid (HBW.out.trans (hb3.mono z2))
        have HC3 := Lib.hid (HST.out.below HBB.out)
        have HO3 := Lib.hid (owns_below HO1.out HBB.out)
        have HR3 := Lib.hid (fun j h h2 => (HR1.out j h h2).below HBB.out)
        have HGV3 := Lib.hid (HGV.out.below hb3)
        have hkl3 : k < l1.length := by rw [HL1.out, List.length_set, HL.out]; exact hlt
        obtain ⟨y0, y1, y2⟩ := HC3.out.c k hkl3
        have f0 := HC3.out.f (k * 3) (by omega)
        have f1 := HC3.out.f (k * 3 + 1) (by omega)
        have f2 := HC3.out.f (k * 3 + 2) (by omega)
        have c0 := HX3.out.c0
        have c1 := HX3.out.c1
        have c2 := HX3.out.c2
        obtain ⟨W4, hW4⟩ : ∃ W4, W4 = storeE W3 g k ⟨⟨ty, tm, vals⟩, some ⟨gv, 0, none⟩, vals.length + 34⟩ := ⟨_, rfl⟩
        have HC4 := Lib.hid (show ERow W4 w.heap.size g (l1.set k ⟨⟨ty, tm, vals⟩, some ⟨gv, 0, none⟩, vals.length + 34⟩) by rw [hW4]; exact HC3.out.set k hkl3 _)
        have HB4 := Lib.hid (show Below w.heap.size w W4 by rw [hW4]; exact storeE_below HB3.out hgl)
        have HO4 := Lib.hid (show W4.ownsRow (g + 1) 22 1 u6 rm.length (roomCells rm) by rw [hW4]; exact ownsRow_setCell_below (ownsRow_setCell_below (ownsRow_setCell_below HO3.out (by simp) _) (by simp) _) (by simp) _)
        have HR4 := Lib.hid (show ∀ j (h : j < rm.length) (h2 : j < es.length), RoomAt W4 (g + 1) u6 rm[j] es[j].ev from fun j h h2 => by rw [hW4]; exact (((HR3.out j h h2).set ⟨g, k * 3, none⟩ _ (by simp)).set ⟨g, k * 3 + 1, none⟩ _ (by simp)).set ⟨g, k * 3 + 2, none⟩ _ (by simp))
        have HNR := Lib.hid (show RoomAt W4 (g + 1) u6 ⟨gv, r⟩ ⟨ty, tm, vals⟩ by
          have h : RoomAt W3 (g + 1) u6 ⟨gv, r⟩ ⟨ty, tm, vals⟩ := ⟨⟨HGV3.out.c, HGV3.out.f, by have := HGV3.out.lo; show g + 1 ≤ gv; omega, HGV3.out.lt⟩, HRL.out, HRA.out, fun e => by have h1 := (HO1.out.lt gv e.symm).2; have h2 := HGV3.out.lo; omega⟩
          rw [hW4]
          exact ((h.set ⟨g, k * 3, none⟩ _ (by simp)).set ⟨g, k * 3 + 1, none⟩ _ (by simp)).set ⟨g, k * 3 + 2, none⟩ _ (by simp))
        have z4 : W3.heap.size = W4.heap.size := by rw [hW4, storeE_size]
        have z4b : g < W4.heap.size := by omega
        unfold storeE at hW4
        simp only at hW4
        have HW4 := Lib.hid hW4
        have z3b : w2'.heap.size < W3.heap.size := HX3.out.lt
        have HW3Z := Lib.hid z4
        clear hW3 hb3 hW4 z4
        go_upto_region 11 with fail
        rw [← HW4.out]
        clear y0 y1 y2 f0 f1 f2 c0 c1 c2 hkl3
        have hk48 : k ≤ 2932031007317 := by omega
        obtain ⟨m, hm⟩ : ∃ m, m = vals.length + 34 := ⟨_, rfl⟩
        have hmr : r.length = m := by rw [HRL.out, hm]
        rw [← hm] at HC4 ⊢
        rw [HRK.out] at HO4
        have HMR := Lib.hid hmr
        have HME := Lib.hid hm
        clear hmr hm
        go_upto_region 6 with (at_builtin; go_must (refine wpList_append_lies _ (by rfl) _ _ _ (by rfl) (g + 1) 22 j0 _ 1 24 Tryd.underlying55 hj0 hy0 hy1 hy2 rfl (by omega) u6 k (roomCells rm) (by rfl) (HO4.out.alloc _) ⟨_, 0, none⟩ 1 1 [.slice (some ⟨gv, 0, none⟩) m m] (by rfl) (by rfl) (World.news_of_block (cs := #[.slice (some ⟨gv, 0, none⟩) m m]) (t := 22) (fr := (0, 0)) (heap_alloc_new _ _)) (by simp [Value.oneCell']) (by omega) (by unfold maxLen; omega) (by omega) (by simp; omega) _ rfl ?_; intro g9 c9 w9 hown9 hgrow9 hat9 hlt9; have HO9 := Lib.hid hown9; have HG9 := Lib.hid hgrow9; have HA9 := Lib.hid hat9; clear hown9 hgrow9 hat9 hlt9))
        have hbo : Below W4.heap.size W4 (W4.alloc (Obj.cells #[.slice (some ⟨gv, 0, none⟩) m m] 22)) := (Below.refl _ _).alloc (Nat.le_refl _) _
        have HB9 := Lib.hid (show Below w.heap.size w w9 from (HB4.out.trans (hbo.mono HB4.out.size)).grown HG9.out (by simp; have := HB4.out.size; omega) (fun j hj => by have := (HO4.out.lt j hj).1; omega))
        have hrow : (Value.slice (some ⟨g9, 0, none⟩) (k + 1) c9).ownBlock = u6.ownBlock ∨ ∃ q, (W4.alloc (Obj.cells #[.slice (some ⟨gv, 0, none⟩) m m] 22)).heap.size ≤ q ∧ (Value.slice (some ⟨g9, 0, none⟩) (k + 1) c9).ownBlock = some q := by
          rcases HA9.out with e | e
          · exact Or.inl (e.symm ▸ rfl)
          · exact Or.inr ⟨g9, by omega, rfl⟩
        have HC9 := Lib.hid (show ERow w9 w.heap.size g _ from (HC4.out.below hbo).keep (HG9.out.block g (by simp; omega) (fun e => by have := (HO4.out.lt g e.symm).1; omega)) HG9.out.size)
        have HRM9 := Lib.hid (show ∀ j (h : j < (rm ++ [(⟨gv, r⟩ : RoomX)]).length) (h2 : j < es.length), RoomAt w9 (g + 1) (.slice (some ⟨g9, 0, none⟩) (k + 1) c9) (rm ++ [(⟨gv, r⟩ : RoomX)])[j] es[j].ev from fun j h h2 => by
          by_cases hj : j < rm.length
          · rw [List.getElem_append_left hj]
            exact ((HR4.out j hj h2).below hbo).grown HG9.out hrow
          · have hjk : j = k := by rw [List.length_append, List.length_singleton, HRK.out] at h; have := HRK.out; omega
            subst hjk
            have e1 : (rm ++ [(⟨gv, r⟩ : RoomX)])[j] = ⟨gv, r⟩ := by rw [List.getElem_append_right (by have := HRK.out; omega)]; simp
            have e2 : es[j].ev = ⟨ty, tm, vals⟩ := by have h3 := HXX.out; rw [List.getElem?_eq_getElem h2] at h3; rw [Option.some.inj h3]
            rw [e1, e2]
            exact (HNR.out.below hbo).grown HG9.out hrow)
        clear hbo hrow
        go_wp2_with fail
        go_roundw
        case rel =>
          refine ⟨k + 1, l1.set k ⟨⟨ty, tm, vals⟩, some ⟨gv, 0, none⟩, m⟩, rm ++ [⟨gv, r⟩], by omega, by go_num, HC9.out, by rw [List.length_set, HL1.out, List.length_set]; exact HL.out, fun j h hj => ?_, fun j h hj => ?_, Or.inl ⟨by rw [List.length_append, HRK.out]; rfl, by omega⟩, HRM9.out, ?_, HB9.out⟩
          · rw [List.length_set, HL1.out, List.length_set] at h
            by_cases e : k = j
            · subst e
              have h2 : k < es.length := by rw [← HN0.out]; exact hkn
              rw [List.getElem_set_self, inX_in h2 (by rw [List.length_append, HRK.out]; simp)]
              have e2 : es[k] = ⟨⟨ty, tm, vals⟩, va, vc⟩ := by have h3 := HXX.out; rw [List.getElem?_eq_getElem h2] at h3; exact Option.some.inj h3
              have e3 : (rm ++ [(⟨gv, r⟩ : RoomX)])[k]'(by rw [List.length_append, HRK.out]; simp) = ⟨gv, r⟩ := by rw [List.getElem_append_right (by have := HRK.out; omega)]; simp [HRK.out]
              rw [e2, e3, HME.out]
            · rw [List.getElem_set_ne e]
              have h4 : j < k := by omega
              have h5 : l1[j]'(by rw [HL1.out, List.length_set]; exact h) = l[j]'h := by
                simp only [HL1.out]
                rw [List.getElem_set_ne e]
              rw [h5, HALL.out j h h4, inX_more _ (fun _ => by rw [HRK.out]; exact h4)]
          · rw [List.length_set, HL1.out, List.length_set] at h
            have h5 : (l1.set k ⟨⟨ty, tm, vals⟩, some ⟨gv, 0, none⟩, m⟩)[j]'(by rw [List.length_set, HL1.out, List.length_set]; exact h) = l[j]'h := by
              rw [List.getElem_set_ne (by omega)]
              simp only [HL1.out]
              rw [List.getElem_set_ne (by omega)]
            rw [h5]
            exact HZ.out j h (by omega)
          · have ho := HO9.out
            unfold roomCells at ho ⊢
            rw [List.map_append, List.length_append, HRK.out]
            simp only [List.map_cons, List.map_nil, RoomX.v, HMR.out]
            exact ho
        case measure => simp [intOf]; omega
      · have k2 : ¬ (k : Int) < (n : Int) := by omega
        have hrn : rm.length = n ∧ n ≤ k := by
          rcases HRM.out with h | h
          · exact ⟨by omega, by omega⟩
          · exact h
        have HRN := Lib.hid hrn
        clear hrn
        go_wp2_with fail
        go_roundw
        case rel =>
          refine ⟨k + 1, l1, rm, by omega, by go_num, HST.out, by rw [HL1.out, List.length_set]; exact HL.out, fun j h hj => ?_, fun j h hj => ?_, Or.inr ⟨HRN.out.1, by have := HRN.out.2; omega⟩, HR1.out, HO1.out, HB1.out⟩
          · rw [HL1.out, List.length_set] at h
            simp only [HL1.out]
            by_cases e : k = j
            · subst e
              rw [List.getElem_set_self, inX_out (by rw [← HN0.out]; omega), HN0.out]
              rfl
            · rw [List.getElem_set_ne e]
              exact HALL.out j h (by omega)
          · rw [HL1.out, List.length_set] at h
            simp only [HL1.out]
            rw [List.getElem_set_ne (by omega)]
            exact HZ.out j h (by omega)
        case measure => simp [intOf]; omega
    · have k1 : ¬ (k : Int) < (N : Int) := by omega
      have hrn : rm.length = n := by
        have := HN.out
        rcases HRM.out with h | h
        · omega
        · exact h.1
      have HRN := Lib.hid hrn
      clear hrn
      go_wp2_with fail
      go_ret2
      refine ⟨g, l, rm, u6, by rw [← HN0.out, ← HN.out]; rfl, ⟨HC.out, by rw [HL.out, HN.out, HN0.out], fun i h => HALL.out i h (by have := HL.out; omega), by rw [HRN.out, HN0.out], HROOM.out, HO.out⟩, HBE.out⟩
end Go.Proofs.YtekaimfabadclaaDoor
/- The laws' stands, at what given made. -/
namespace Go.Proofs.YtekaimfabadclaaDoor
open Go Go.RowKit

theorem room_cell {w : World} {B : Nat} {v : Value} {rm : List RoomX} {n : Nat} (hn : rm.length = n) (h : w.ownsRow B 22 1 v n (roomCells rm)) : ∃ ro rc, v = .slice ro n rc ∧ (rm = [] ∨ ∃ gr, ro = some ⟨gr, 0, none⟩ ∧ ∀ i (h : i < rm.length), w.cell? ⟨gr, i, none⟩ = some rm[i].v) := by
  rcases h.2 with ⟨e, h0⟩ | ⟨g, cap, cur, e, hb, hh, hnn, hc, hs, ht⟩
  · exact ⟨none, 0, by rw [e, h0], Or.inl (List.eq_nil_of_length_eq_zero (by omega))⟩
  · refine ⟨some ⟨g, 0, none⟩, cap, e, Or.inr ⟨g, rfl, fun i hi => ?_⟩⟩
    have hg : (roomCells rm)[i]? = some rm[i].v := by simp [roomCells, hi]
    rw [← ht, List.getElem?_take, if_pos (by omega)] at hg
    rw [cell_of_row w g _ _ _ (0, 0) hh]
    simpa using hg
theorem GivenAt.room {w : World} {B gi : Nat} {es : List EvX} {v : Value} {l : List EvX} {rm : List RoomX} (h : GivenAt w B es gi v l rm) (i : Nat) (hi : i < es.length) (h2 : i < rm.length) : rm[i].v = .slice (some ⟨rm[i].g, 0, none⟩) (es[i].ev.vals.length + 34) (es[i].ev.vals.length + 34) ∧ VRow w (gi + 1) rm[i].g rm[i].r ∧ rm[i].r.length = es[i].ev.vals.length + 34 ∧ ∀ j (h : j < rm[i].r.length), rm[i].r[j] = wideAt es[i].ev.vals j := by
  have hr := h.rooms i h2 hi
  exact ⟨by unfold RoomX.v; rw [hr.len], hr.row, hr.len, hr.all⟩

set_option maxHeartbeats 8000000 in
set_option maxRecDepth 100000 in
theorem stands_any (B gi : Nat) (es : List EvX) (eo : Option Addr) (ec : Nat) (v : Value) (l : List EvX) (rm : List RoomX) (w : World) (he : EvsIn w.heap.size w eo es) (hel : es.length ≤ 2932031007317) (hvl : ∀ x ∈ es, x.ev.vals.length ≤ 3518437208780) (hg : GivenAt w B es gi v l rm) :
    Calls Tryd.prog 33 #[.slice (some ⟨gi, 0, none⟩) (es.length + 34) (es.length + 34), v, .slice eo es.length ec] w fun en w' => en = .returned (.bool true) ∧ Below w.heap.size w w' := by
  have HE := Lib.hid he
  have HVL := Lib.hid hvl
  have HG := Lib.hid hg
  obtain ⟨ro, rc, rfl, hrc⟩ := room_cell hg.rlen (by rw [← hg.rlen]; exact hg.rown)
  have HRC := Lib.hid hrc
  have HLS := Lib.hid (lists_any w.heap.size w.heap.size (l.take es.length) es (some ⟨gi, 0, none⟩) eo (es.length + 34) ec w hg.evs he hg.xs (Nat.le_refl _) (Nat.le_refl _) (by rw [List.length_take]; unfold maxLen; omega) (fun x hx => by
    have h1 : x.ev ∈ xs (l.take es.length) := List.mem_map_of_mem hx
    rw [hg.xs] at h1
    obtain ⟨y, hy, hye⟩ := List.mem_map.1 h1
    have := hvl y hy
    rw [← hye]
    unfold maxLen
    omega))
  have hlt : (l.take es.length).length = es.length := by rw [List.length_take, hg.len]; omega
  rw [hlt] at HLS
  obtain ⟨n, hn⟩ : ∃ n, n = es.length := ⟨_, rfl⟩
  rw [← hn] at hel HLS ⊢
  have HN0 := Lib.hid hn
  obtain ⟨N, hN⟩ : ∃ N, N = n + 34 := ⟨_, rfl⟩
  rw [← hN] at HLS ⊢
  have hN1 : (n : Int) + 34 = (N : Int) := by omega
  have e1 : IntKind.i64.wrap (N : Int) = (N : Int) := IntWalk.i64_in _ (by omega)
  have hN2 : N ≤ 2932031007351 := by omega
  have l0 : (0 : Int) ≤ (n : Int) := by omega
  have l1 : (n : Int) ≤ (N : Int) := by omega
  have l2 : (n : Int) ≤ 2932031007317 := by omega
  have hN3 : n ≤ N := by omega
  have HN := Lib.hid hN
  clear he hvl hg hn hN hrc hlt
  go_enter Tryd.func33, Tryd.ntmps33
  go_wp2_with fail
  (with_reducible refine HLS.out.mono ?_); rintro en w2 ⟨rfl, hb2⟩
  have HB2 := Lib.hid hb2
  have zw2 := hb2.size
  clear hb2 HLS
  go_wp2_with fail
  go_loopw [8] (fun i wr => ∃ k : Nat, k ≤ N ∧ i = .int .i64 k ∧ Below w.heap.size w wr) (fun i _ => N - (intOf i).toNat)
  case atStart => exact ⟨0, Nat.zero_le _, rfl, HB2.out⟩
  case round =>
    obtain ⟨k, hk, rfl, hbel⟩ := hrel
    have HBE := Lib.hid hbel
    have HGR := Lib.hid (HG.out.below hbel)
    have zr := hbel.size
    have k0 : (0 : Int) ≤ (k : Int) := by omega
    clear hbel
    by_cases hkN : k < N
    · have k1 : (k : Int) < (N : Int) := by omega
      by_cases hkn : k < n
      · have k2 : (k : Int) < (n : Int) := by omega
        have k3 : decide (k < n) = true := by simpa using hkn
        have hke : k < es.length := by rw [← HN0.out]; exact hkn
        have hkr : k < rm.length := by rw [HGR.out.rlen]; exact hke
        obtain ⟨b, o, rfl, hbB, hce⟩ : ∃ b o, eo = some ⟨b, o, none⟩ ∧ b < w.heap.size ∧ ∀ i (h : i < es.length), (wr.cell? ⟨b, o + i * 3, none⟩ = some (.string es[i].ev.ty) ∧ wr.cell? ⟨b, o + i * 3 + 1, none⟩ = some (.int .i64 es[i].ev.time) ∧ wr.cell? ⟨b, o + i * 3 + 2, none⟩ = some (.slice es[i].va es[i].ev.vals.length es[i].cap)) ∧ ValsIn w.heap.size wr es[i].va es[i].ev.vals := by
          rcases HE.out.below HBE.out (Nat.le_refl _) with h | h
          · rw [h] at hke; simp at hke
          · exact h
        obtain ⟨⟨x0, x1, x2⟩, hvr⟩ := hce k hke
        have hvk := HVL.out es[k] (List.getElem_mem hke)
        obtain ⟨r0, rrow, rlen, rall⟩ := HGR.out.room k hke hkr
        obtain ⟨gr, rfl, hrc⟩ : ∃ gr, ro = some ⟨gr, 0, none⟩ ∧ ∀ i (h : i < rm.length), w.cell? ⟨gr, i, none⟩ = some rm[i].v := by
          rcases HRC.out with h | h
          · rw [h] at hkr; simp at hkr
          · exact h
        have r1 := hrc k hkr
        have hgrl := World.block_lt_of_cell? w _ r1
        have r2 := (HBE.out.cell (p := ⟨gr, k, none⟩) hgrl).trans r1
        rw [r0] at r2
        obtain ⟨rx, hrx⟩ : ∃ rx, rx = rm[k] := ⟨_, rfl⟩
        rw [← hrx] at r2 rrow rlen rall
        obtain ⟨x, hx⟩ : ∃ x, x = es[k] := ⟨_, rfl⟩
        rw [← hx] at x0 x1 x2 hvr hvk r2 rlen rall
        obtain ⟨⟨ty, tm, vals⟩, va, vc⟩ := x
        obtain ⟨gx, r⟩ := rx
        simp only at x0 x1 x2 hvr hvk r2 rrow rlen rall
        have HTG := Lib.hid (fun (W : World) (hb : Below wr.heap.size wr W) => tight_any (gi + 1) ⟨ty, tm, vals⟩ va vc gx r W ((hvr.below hb zr).mono (Nat.le_trans zr hb.size)) hvk (rrow.below hb) rlen rall)
        simp only [evV] at HTG
        have hbl : b < wr.heap.size := by omega
        have hgl : gr < wr.heap.size := by simp only at hgrl; omega
        clear hce hvr hx hrx r0 r1 hrc rrow rlen rall hke hkr
        go_wp2_with fail
        go_region_held3 (fun w' => w'.cell? ⟨b, o + k * 3, none⟩ = some (.string ty) ∧ w'.cell? ⟨b, o + k * 3 + 1, none⟩ = some (.int .i64 tm) ∧ w'.cell? ⟨b, o + k * 3 + 2, none⟩ = some (.slice va vals.length vc) ∧ w'.cell? ⟨gr, k, none⟩ = some (.slice (some ⟨gx, 0, none⟩) (vals.length + 34) (vals.length + 34)))
          (first
            | go_keep
            | exact ⟨y0, y1, y2, y3⟩)
          ((first
            | (go_at_call 28; (with_reducible refine (HTG.out _ (Below.refl wr.heap.size wr).drew).mono ?_); rintro en w5 ⟨rfl, hb5⟩; have hbD := (Below.refl wr.heap.size wr).drew.trans hb5; have y0 := (hbD.cell (p := ⟨b, o + k * 3, none⟩) hbl).trans x0; have y1 := (hbD.cell (p := ⟨b, o + k * 3 + 1, none⟩) hbl).trans x1; have y2 := (hbD.cell (p := ⟨b, o + k * 3 + 2, none⟩) hbl).trans x2; have y3 := (hbD.cell (p := ⟨gr, k, none⟩) hgl).trans r2)))
        all_goals
          have HB5 := Lib.hid (HBE.out.trans (hbD.mono zr))
          clear hb5 hbD y0 y1 y2 y3
          go_wp2_with fail
          go_roundw
          case rel => exact ⟨k + 1, by omega, by go_num, HB5.out⟩
          case measure => simp [intOf]; omega
      · have k2 : ¬ (k : Int) < (n : Int) := by omega
        have k3 : decide (k < n) = false := by simpa using hkn
        have k4 : (n : Int) ≤ (k : Int) := by omega
        have hkl : k < l.length := by rw [HGR.out.len, ← HN0.out, ← HN.out]; exact hkN
        have HC := Lib.hid (show wr.cell? ⟨gi, k * 3, none⟩ = some (.string ⟨#[]⟩) ∧ wr.cell? ⟨gi, k * 3 + 1, none⟩ = some (.int .i64 (78 + (k : Int) - (n : Int))) ∧ wr.cell? ⟨gi, k * 3 + 2, none⟩ = some (.slice none 0 0) by
          have h := HGR.out.rows.c k hkl
          rw [HGR.out.all k hkl, inX_out (by rw [← HN0.out]; exact hkn), ← HN0.out] at h
          exact h)
        clear hkl
        go_wp2_with fail
        go_quiet (fail)
        have HBD := Lib.hid (below_drewN (Below.refl wr.heap.size wr) nq)
        obtain ⟨W2, hW2⟩ : ∃ W2, W2 = wr.drewN nq := ⟨_, rfl⟩
        rw [← hW2] at HBD ⊢
        have zW := HBD.out.size
        have hgw := HGR.out.rows.lt
        have x0 := (HBD.out.cell (p := ⟨gi, k * 3, none⟩) hgw).trans HC.out.1
        have x1 := (HBD.out.cell (p := ⟨gi, k * 3 + 1, none⟩) hgw).trans HC.out.2.1
        have x2 := (HBD.out.cell (p := ⟨gi, k * 3 + 2, none⟩) hgw).trans HC.out.2.2
        have HEV := Lib.hid (events_same W2.heap.size W2.heap.size ⟨⟨#[]⟩, 78 + (k : Int) - (n : Int), []⟩ none none 0 0 W2 (Nat.zero_le _) (Nat.le_refl _) (Nat.le_refl _) (Or.inl rfl) (Or.inl rfl))
        simp only [evV, List.length_nil] at HEV
        clear hW2
        go_wp2_with fail
        (with_reducible refine HEV.out.mono ?_); rintro en w5 ⟨rfl, hb5⟩
        have HB5 := Lib.hid (HBE.out.trans ((HBD.out.trans (hb5.mono zW)).mono zr))
        clear hb5 x0 x1 x2
        go_wp2_with fail
        go_roundw
        case rel => exact ⟨k + 1, by omega, by go_num, HB5.out⟩
        case measure => simp [intOf]; omega
    · have k1 : ¬ (k : Int) < (N : Int) := by omega
      go_wp2_with fail
      go_ret
      exact ⟨rfl, HBE.out⟩
end Go.Proofs.YtekaimfabadclaaDoor
/- The walk of the law of batches. -/
namespace Go.Proofs.YtekaimfabadclaaDoor
open Go Go.RowKit

structure BatX where
  l : List EvX
  ao : Option Addr
  cap : Nat
def BatsIn (B : Nat) (w : World) (ao : Option Addr) (l : List BatX) : Prop :=
  l = [] ∨ ∃ b o, ao = some ⟨b, o, none⟩ ∧ b < B ∧ ∀ i (h : i < l.length), w.cell? ⟨b, o + i, none⟩ = some (.slice l[i].ao l[i].l.length l[i].cap) ∧ EvsIn B w l[i].ao l[i].l
theorem BatsIn.below {B : Nat} {w w' : World} {ao : Option Addr} {l : List BatX} (h : BatsIn B w ao l) (hb : Below w.heap.size w w') (hB : B ≤ w.heap.size) : BatsIn B w' ao l := by
  rcases h with h | ⟨b, o, rfl, h1, h⟩
  · exact Or.inl h
  · exact Or.inr ⟨b, o, rfl, h1, fun i hi => ⟨(hb.cell (p := ⟨b, o + i, none⟩) (World.block_lt_of_cell? w _ (h i hi).1)).trans (h i hi).1, (h i hi).2.below hb hB⟩⟩
theorem EvsIn.mono {B C : Nat} {w : World} {ao : Option Addr} {l : List EvX} (h : EvsIn B w ao l) (hC : B ≤ C) : EvsIn C w ao l := by
  rcases h with h | ⟨b, o, rfl, h1, h⟩
  · exact Or.inl h
  · exact Or.inr ⟨b, o, rfl, by omega, fun i hi => ⟨(h i hi).1, (h i hi).2.mono hC⟩⟩
theorem pack_form {l : List Ev} {w w' : World} {en : Ending} (h : PackTo l w en w') : ∃ ao cap b, en = .returned (.tuple #[.slice ao b.length cap, .int .i64 (packF l)]) ∧ BytesAt w' ao b ∧ b = (if packF l = 0 then packB l else []) ∧ b.length ≤ maxLen := by
  rcases h with ⟨h0, v, rfl, ho⟩ | ⟨h0, rfl⟩
  · obtain ⟨ao, cap, rfl, hb, h1, h2⟩ := owned_bytes ho
    exact ⟨ao, cap, packB l, by rw [h0], hb, by rw [if_pos h0], Nat.le_trans h1 h2⟩
  · exact ⟨none, 0, [], rfl, Or.inl rfl, by rw [if_neg h0], by simp⟩
theorem un_form {lo : Nat} {l : List UInt8} {w' : World} {en : Ending} (h : UnTo lo l en w') : ∃ (acc : List EvX) (ao : Option Addr) (cp : Nat), en = .returned (.tuple #[.slice ao acc.length cp, .int .i64 (unF l)]) ∧ xs acc = (if unF l = 0 then (batchR ⟨l.take (l.length - 4), 0⟩).1 else []) ∧ EvsIn w'.heap.size w' ao acc ∧ acc.length ≤ maxLen ∧ ∀ x ∈ acc, x.ev.vals.length ≤ maxLen := by
  rcases h with ⟨h0, acc, ao, cp, rfl, hx, he, hl, hv⟩ | ⟨h0, rfl⟩
  · exact ⟨acc, ao, cp, by rw [h0], by rw [if_pos h0]; exact hx, he.to (fun b hb => hb.2), hl, hv⟩
  · exact ⟨[], none, 0, rfl, by rw [if_neg h0]; rfl, Or.inl rfl, by simp, by simp⟩

set_option maxHeartbeats 8000000 in
set_option maxRecDepth 100000 in
theorem wbatches_any (bs : List BatX) (raws : List RawX) (bo ro : Option Addr) (bc rc : Nat) (w : World) (hres : ResAt w) (hb : BatsIn w.heap.size w bo bs) (hbl : bs.length ≤ maxLen) (hbv : ∀ x ∈ bs, x.l.length ≤ 2932031007317 ∧ ∀ y ∈ x.l, (∀ a ∈ y.ev.vals, valGo a) ∧ y.ev.vals.length ≤ 3518437208780) (hr : RawsIn w ro raws) (hrb : ∀ x ∈ raws, x.l.length ≤ x.cap ∧ x.cap ≤ maxLen ∧ x.l.length ≤ 150000000000000) (hrl : raws.length ≤ maxLen) :
    Calls Tryd.prog 9 #[.slice bo bs.length bc, .slice ro raws.length rc] w fun en w' => en = .returned (.bool true) ∧ Below w.heap.size w w' := by
  have HB := Lib.hid hb
  have HBV := Lib.hid hbv
  have HR := Lib.hid hr
  have HRB := Lib.hid hrb
  unfold maxLen at hbl hrl
  have HRS := Lib.hid hres
  clear hb hbv hr hrb hres
  go_enter Tryd.func9, Tryd.ntmps9
  go_wp2_with fail
  refine (begun_any w HRS.out).mono ?_; rintro en w1 ⟨rfl, hb1⟩
  have HB1 := Lib.hid hb1
  clear hb1
  go_wp2_with fail
  go_loopw [5] (fun i wr => ∃ k : Nat, k ≤ bs.length ∧ i = .int .i64 k ∧ Below w.heap.size w wr) (fun i _ => bs.length - (intOf i).toNat)
  case atStart => exact ⟨0, Nat.zero_le _, rfl, HB1.out⟩
  case round =>
    obtain ⟨k, hk, rfl, hbel⟩ := hrel
    have HBE := Lib.hid hbel
    have zr := hbel.size
    have k0 : (0 : Int) ≤ (k : Int) := by omega
    clear hbel
    by_cases hlt : k < bs.length
    · obtain ⟨b, o, rfl, hbB, hc⟩ : ∃ b o, bo = some ⟨b, o, none⟩ ∧ b < w.heap.size ∧ ∀ i (h : i < bs.length), wr.cell? ⟨b, o + i, none⟩ = some (.slice bs[i].ao bs[i].l.length bs[i].cap) ∧ EvsIn w.heap.size wr bs[i].ao bs[i].l := by
        rcases HB.out.below HBE.out (Nat.le_refl _) with h | h
        · rw [h] at hlt; simp at hlt
        · exact h
      obtain ⟨x0, hvr⟩ := hc k hlt
      obtain ⟨hxl, hxv⟩ := HBV.out bs[k] (List.getElem_mem hlt)
      obtain ⟨x, hx⟩ : ∃ x, x = bs[k] := ⟨_, rfl⟩
      rw [← hx] at x0 hvr hxl hxv
      obtain ⟨es, ea, ec⟩ := x
      simp only at x0 hvr hxl hxv
      have HXV := Lib.hid hxv
      have HVR := Lib.hid (hvr.mono zr)
      have hbl2 : b < wr.heap.size := by omega
      have k1 : (k : Int) < (bs.length : Int) := by omega
      have HX0 := Lib.hid x0
      have HGV := Lib.hid (given_any es ea ec wr HVR.out hxl (fun y hy => (hxv y hy).2))
      clear hc hx hvr hxv
      go_wp2_with fail
      (with_reducible refine HGV.out.mono ?_); rintro en w2 hgt
      unfold GivenTo at hgt
      obtain ⟨gi, l, rm, v, rfl, hg, hb2⟩ := hgt
      have HG := Lib.hid hg
      have HB2 := Lib.hid hb2
      have z2 := hb2.size
      have x1 := (hb2.cell (p := ⟨b, o + k, none⟩) hbl2).trans HX0.out
      have l1 : (es.length : Int) ≤ ((es.length + 34 : Nat) : Int) := by omega
      have l0 : (0 : Int) ≤ (es.length : Int) := by omega
      have hlt2 : (l.take es.length).length = es.length := by rw [List.length_take, hg.len]; omega
      have HPK := Lib.hid (packF_any (l.take es.length) (some ⟨gi, 0, none⟩) (es.length + 34) w2 (HRS.out.below (HBE.out.trans (hb2.mono zr))) hg.evs (by rw [hlt2]; omega) (by unfold maxLen; omega) (fun y hy => by
        have h1 : y.ev ∈ xs (l.take es.length) := List.mem_map_of_mem hy
        rw [hg.xs] at h1
        obtain ⟨z, hz, hze⟩ := List.mem_map.1 h1
        rw [← hze]
        exact (HXV.out z hz).1))
      rw [hlt2, hg.xs] at HPK
      obtain ⟨n, hn⟩ : ∃ n, n = es.length := ⟨_, rfl⟩
      obtain ⟨N, hN⟩ : ∃ N, N = es.length + 34 := ⟨_, rfl⟩
      have l3 : n ≤ N := by omega
      have l4 : (n : Int) ≤ (N : Int) := by omega
      have l5 : (0 : Int) ≤ (n : Int) := by omega
      rw [← hN] at HPK ⊢
      have HNN := Lib.hid hN
      clear hg hb2 x0 hlt2 HGV l1 hN hn l3 l4 l5 l0
      have l1 : (es.length : Int) ≤ (N : Int) := by have := HNN.out; omega
      have l0 : (0 : Int) ≤ (es.length : Int) := by omega
      go_wp2_with fail
      (with_reducible refine HPK.out.mono ?_); rintro en w4 ⟨hpt, hb4⟩
      obtain ⟨a4, q4, l4, rfl, hy4, hl4, hm4⟩ := pack_form hpt
      have HY4 := Lib.hid hy4
      have HL4 := Lib.hid hl4
      have HB4 := Lib.hid (HB2.out.trans (hb4.mono z2))
      have HG4 := Lib.hid (HG.out.below hb4)
      have z4 := hb4.size
      have x2 := (HB4.out.cell (p := ⟨b, o + k, none⟩) hbl2).trans HX0.out
      have HRP := Lib.hid (refPack_any es ea ec w4 ((HVR.out.below HB4.out (Nat.le_refl _)).mono (by omega)) (by unfold maxLen; omega) (fun y hy => ⟨(HXV.out y hy).1, by have := (HXV.out y hy).2; unfold maxLen; omega⟩))
      clear hpt hy4 hl4 hm4 hb4 x1 HPK
      go_wp2_with fail
      (with_reducible refine HRP.out.mono ?_); rintro en w5 ⟨hpt, hb5⟩
      obtain ⟨a5, q5, l5, rfl, hy5, hl5, hm5⟩ := pack_form hpt
      obtain rfl : l4 = l5 := by rw [HL4.out, hl5]
      have HSS := Lib.hid (same_same l4 a4 a5 q4 q5 w5 hm5 (HY4.out.below hb5) hy5)
      have HB5 := Lib.hid (HB4.out.trans (hb5.mono (by omega)))
      have HG5 := Lib.hid (HG4.out.below hb5)
      have z5 := hb5.size
      have qe : (packF (xs es) != packF (xs es)) = false := by simp
      have x3 := (HB5.out.cell (p := ⟨b, o + k, none⟩) hbl2).trans HX0.out
      clear hpt hy5 hl5 hm5 hb5 x2 HRP
      go_wp2_with fail
      (with_reducible refine HSS.out.mono ?_); rintro en w6 ⟨rfl, hb6⟩
      have HB6 := Lib.hid (HB5.out.trans (hb6.mono (by omega)))
      have HG6 := Lib.hid (HG5.out.below hb6)
      have z6 := hb6.size
      have x4 := (HB6.out.cell (p := ⟨b, o + k, none⟩) hbl2).trans HX0.out
      have HSD := Lib.hid (stands_any wr.heap.size gi es ea ec v l rm w6 ((HVR.out.below HB6.out (Nat.le_refl _)).mono (by omega)) hxl (fun y hy => (HXV.out y hy).2) HG6.out)
      rw [← HNN.out] at HSD
      clear hb6 x3 HSS
      go_wp2_with fail
      (with_reducible refine HSD.out.mono ?_); rintro en w7 ⟨rfl, hb7⟩
      have HB7 := Lib.hid (HBE.out.trans ((HB6.out.trans (hb7.mono (by omega))).mono zr))
      clear hb7 x4
      go_wp2_with fail
      go_roundw
      case rel => exact ⟨k + 1, by omega, by go_num, HB7.out⟩
      case measure => simp [intOf]; omega
    · have k1 : ¬ (k : Int) < (bs.length : Int) := by omega
      go_wp2_with fail
      go_loopw [12] (fun i wx => ∃ j : Nat, j ≤ raws.length ∧ i = .int .i64 j ∧ Below w.heap.size w wx) (fun i _ => raws.length - (intOf i).toNat)
      case atStart => exact ⟨0, Nat.zero_le _, rfl, HBE.out⟩
      case round =>
        obtain ⟨j, hj, rfl, hbel⟩ := hrel
        have HBJ := Lib.hid hbel
        have zj := hbel.size
        clear hbel
        by_cases hjl : j < raws.length
        · obtain ⟨b, o, rfl, hc⟩ : ∃ b o, ro = some ⟨b, o, none⟩ ∧ ∀ i (h : i < raws.length), wr.cell? ⟨b, o + i, none⟩ = some (.slice raws[i].ao raws[i].l.length raws[i].cap) ∧ BytesAt wr raws[i].ao raws[i].l := by
            rcases HR.out.below HBJ.out with h | h
            · rw [h] at hjl; simp at hjl
            · exact h
          obtain ⟨hcj, hby⟩ := hc j hjl
          obtain ⟨q1, q2, q3⟩ := HRB.out raws[j] (List.getElem_mem hjl)
          obtain ⟨x, hx⟩ : ∃ x, x = raws[j] := ⟨_, rfl⟩
          rw [← hx] at hcj hby q1 q2 q3
          obtain ⟨l, xa, xc⟩ := x
          simp only at hcj hby q1 q2 q3
          have HBY := Lib.hid hby
          have hbl := World.block_lt_of_cell? wr _ hcj
          have j0 : (0 : Int) ≤ (j : Int) := by omega
          have j1 : (j : Int) < (raws.length : Int) := by omega
          have HCJ := Lib.hid hcj
          clear hc hx hby
          go_wp2_with fail
          refine (roomy_any l xa xc wr HBY.out q1 q3).mono ?_; rintro en w2 ⟨g2, c2, r2, rfl, hc2, hr2, ha2, hb2⟩
          have HC2 := Lib.hid hc2
          have HA2 := Lib.hid ha2
          have HB2 := Lib.hid hb2
          have hcj2 := (hb2.cell (p := ⟨b, o + j, none⟩) hbl).trans HCJ.out
          have hcl := hc2.len
          have hcm := hc2.cap
          have HLR := Lib.hid hr2
          have l0 : (0 : Int) ≤ (l.length : Int) := by omega
          have l1 : (l.length : Int) ≤ (c2 : Int) := by omega
          have l2 : l.length ≤ c2 := by omega
          have z2 := hb2.size
          clear hc2 ha2 hb2 hcj hr2
          have HUN := Lib.hid (un_any l (some ⟨g2, 0, none⟩) c2 w2 (HRS.out.below (HBJ.out.trans (HB2.out.mono zj))) (room_bytes HC2.out HLR.out HA2.out) l2 hcm)
          go_wp2_with fail
          (with_reducible refine HUN.out.mono ?_); rintro en w3 ⟨hut, hb3⟩
          obtain ⟨acc3, v3, q3', rfl, hx3, hv3, hvl3, hvv3⟩ := un_form hut
          have HX3 := Lib.hid hx3
          have HV3 := Lib.hid hv3
          have HVV := Lib.hid hvv3
          have HB3 := Lib.hid (HB2.out.trans (hb3.mono z2))
          have HC3 := Lib.hid (HC2.out.below (by have := HLR.out; omega) hb3)
          have z3 := hb3.size
          have hcj3 := (HB3.out.cell (p := ⟨b, o + j, none⟩) hbl).trans HCJ.out
          clear hut hx3 hv3 hvv3 hb3 hcj2 HUN
          have HRU := Lib.hid (refUnpack_any l xa xc w3 (HBY.out.below HB3.out) q1 q2)
          go_wp2_with fail
          (with_reducible refine HRU.out.mono ?_); rintro en w5 ⟨hut, hb5⟩
          obtain ⟨acc5, v5, q5', rfl, hx5, hv5, _, _⟩ := un_form hut
          have HB5 := Lib.hid (HB3.out.trans (hb5.mono (by omega)))
          have HC5 := Lib.hid (HC3.out.below (by have := HLR.out; omega) hb5)
          have z5 := hb5.size
          have HLS := Lib.hid (lists_any w3.heap.size w5.heap.size acc3 acc5 v3 v5 q3' q5' w5 (HV3.out.below hb5 (Nat.le_refl _)) hv5 (by rw [HX3.out, hx5]) z5 (Nat.le_refl _) hvl3 HVV.out)
          have e1 : (unF l != unF l) = false := by simp
          have hcj5 := (HB5.out.cell (p := ⟨b, o + j, none⟩) hbl).trans HCJ.out
          clear hut hx5 hv5 hb5 hcj3 HRU
          go_wp2_with fail
          (with_reducible refine HLS.out.mono ?_); rintro en w7 ⟨rfl, hb7⟩
          have HB7 := Lib.hid (HB5.out.trans (hb7.mono (by omega)))
          have HC7 := Lib.hid (HC5.out.below (by have := HLR.out; omega) hb7)
          have z7 := hb7.size
          have hcj7 := (HB7.out.cell (p := ⟨b, o + j, none⟩) hbl).trans HCJ.out
          clear hb7 hcj5 HLS
          go_wp2_with fail
          refine (roomy_any l xa xc w7 (HBY.out.below HB7.out) q1 q3).mono ?_; rintro en w8 ⟨g8, c8, r8, rfl, hc8, hr8, ha8, hb8⟩
          have HC8 := Lib.hid hc8
          have hrs := room_same HLR.out hr8 HA2.out ha8
          have HC78 := Lib.hid (HC7.out.below (by have := HLR.out; omega) hb8)
          have HB8 := Lib.hid (HB7.out.trans (hb8.mono (by omega)))
          have z8 := hb8.size
          subst hrs
          have HSS := same_same r2 (some ⟨g2, 0, none⟩) (some ⟨g8, 0, none⟩) c2 c8 w8 (Nat.le_trans HC78.out.len HC78.out.cap) HC78.out.at' HC8.out.at'
          rw [HLR.out] at HSS
          have HS8 := Lib.hid HSS
          clear hc8 hr8 ha8 hb8 HSS hcj7
          go_wp2_with fail
          refine HS8.out.mono ?_; rintro en w9 ⟨rfl, hb9⟩
          have HB9 := Lib.hid (HBJ.out.trans ((HB8.out.trans (hb9.mono (by omega))).mono zj))
          clear hb9
          go_wp2_with fail
          go_roundw
          case rel => exact ⟨j + 1, by omega, by go_num, HB9.out⟩
          case measure => simp [intOf]; omega
        · have j1 : ¬ (j : Int) < (raws.length : Int) := by omega
          go_wp2_with fail
          go_ret
          exact ⟨rfl, HBJ.out⟩
end Go.Proofs.YtekaimfabadclaaDoor
