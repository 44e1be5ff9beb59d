/- The walk of the law of batches' one form. -/
import Derived.Test.YtmdhacboegmccaaDoorLists
namespace Go.Proofs.YtmdhacboegmccaaDoor
open Go Go.RowKit

theorem batchE_pos (l : List Ev) : 1 ≤ (batchE l).length := by
  have := putB_pos (l.length : Int)
  unfold batchE
  rw [List.length_append]
  omega
theorem packB_len (l : List Ev) : (packB l).length = (batchE l).length + 4 := by
  unfold packB
  rw [List.length_append, sumB_len]
theorem batch_there (l : List Ev) (h : packOk l) : batchR ⟨batchE l, 0⟩ = (l, ⟨[], 0⟩) := by
  have := batch_codec.there l [] ⟨h.1, h.2.1⟩
  rwa [List.append_nil] at this
theorem packB_take (l : List Ev) : (packB l).take ((packB l).length - 4) = batchE l ∧ (packB l).drop ((packB l).length - 4) = sumB (batchE l) := by
  have e : (packB l).length - 4 = (batchE l).length := by rw [packB_len]; omega
  rw [e]
  unfold packB
  exact ⟨List.take_left, List.drop_left⟩
theorem unF_pack (l : List Ev) (h : packOk l) : unF (packB l) = 0 := by
  have h1 := packB_len l
  have h2 := batchE_pos l
  have h3 := h.2.2
  obtain ⟨h4, h5⟩ := packB_take l
  unfold unF
  rw [h4, h5, if_neg (by omega), if_neg (by omega), if_neg (by simp), batch_there l h]
  simp [leftR]
theorem left_fault (r : Rd) (h : (leftR r).fault = 0) : r.fault = 0 ∧ r.rest = [] := by
  unfold leftR at h
  split at h
  · unfold Rd.refuse at h
    split at h
    · cases h
    · contradiction
  · exact ⟨h, List.eq_nil_of_length_eq_zero (by omega)⟩
theorem unF_back (l : List UInt8) (h : unF l = 0) : packOk (batchR ⟨l.take (l.length - 4), 0⟩).1 ∧ packB (batchR ⟨l.take (l.length - 4), 0⟩).1 = l := by
  unfold unF at h
  split at h
  · cases h
  split at h
  · cases h
  split at h
  · cases h
  rename_i h1 h2 h3
  obtain ⟨h4, h5⟩ := left_fault _ h
  obtain ⟨h6, h7⟩ := batch_codec.back _ h4
  rw [h5, List.append_nil] at h7
  have h8 : sumB (l.take (l.length - 4)) = l.drop (l.length - 4) := by
    by_cases e : sumB (l.take (l.length - 4)) = l.drop (l.length - 4)
    · exact e
    · exact absurd e h3
  refine ⟨⟨h6.1, h6.2, ?_⟩, ?_⟩
  · rw [← h7, List.length_take]
    omega
  · unfold packB
    rw [← h7, h8, List.take_append_drop]
theorem own_cap {w : World} {B g cap n : Nat} {e : TypeId} {s : Nat} {xs : List Value} (h : w.ownsRow B e s (.slice (some ⟨g, 0, none⟩) n cap) n xs) : n ≤ cap ∧ cap ≤ maxLen := by
  rcases h.2 with ⟨e, _⟩ | ⟨g', cap', cur, e, _, _, hn, hc, _⟩
  · cases e
  · cases e
    exact ⟨hn, hc⟩
theorem valGo_of {e : Ev} (h : evOk e) : ∀ a ∈ e.vals, valGo a := fun a ha => ⟨Nat.le_trans (valOk_str (h.2.2.2 a ha)) (by decide), (h.2.2.2 a ha).2⟩
theorem VOwn.mono {B C gg : Nat} {w : World} {x : EvX} (h : VOwn B gg w x) (hC : C ≤ B) : VOwn C gg w x := ⟨own_base h.own hC, h.there⟩

set_option maxHeartbeats 8000000 in
set_option maxRecDepth 100000 in
theorem batchForm_any (l : List EvX) (raw : List UInt8) (ao ro : Option Addr) (ca rc : Nat) (w : World) (hres : ResAt w) (hl : EvsIn w.heap.size w ao l) (hlc : l.length ≤ ca) (hcm : ca ≤ maxLen) (hin : ∀ x ∈ l, ∀ a ∈ x.ev.vals, valGo a) (hraw : BytesAt w ro raw) (hrc : raw.length ≤ rc) (hrm : rc ≤ maxLen) :
    Calls Tryd.prog 4 #[.slice ao l.length ca, .slice ro raw.length rc] w fun en w' => en = .returned (.bool true) ∧ Below w.heap.size w w' := by
  have HRES := Lib.hid hres
  have HL := Lib.hid hl
  have HIN := Lib.hid hin
  have HRW := Lib.hid hraw
  clear hres hl hin hraw
  go_enter Tryd.func4, Tryd.ntmps4
  go_wp2_with fail
  refine (begun_any w HRES.out).mono ?_; rintro en w2 ⟨rfl, hb2⟩
  have HB2 := Lib.hid hb2
  clear hb2
  go_wp2_with fail
  refine (pack_any l ao ca w2 (HRES.out.below HB2.out) (by rcases HL.out.below HB2.out (Nat.le_refl _) with h | ⟨b, o, e, hlt, h⟩; exact Or.inl h; exact Or.inr ⟨b, o, e, Nat.lt_of_lt_of_le hlt HB2.out.size, fun i hi => ⟨(h i hi).1, (h i hi).2.mono HB2.out.size⟩⟩) hlc hcm HIN.out).mono ?_; rintro en w3 ⟨v3, f3, rfl, hb3, hcase⟩
  have HB3 := Lib.hid (HB2.out.trans (hb3.mono HB2.out.size))
  have HCASE := Lib.hid hcase
  clear hcase hb3
  go_upto_if 21 with fail
  go_cut [] (fun wx => Below w.heap.size w wx)
  case first =>
    rcases HCASE.out with ⟨rfl, hpo, hown⟩ | ⟨hne, _, rfl⟩
    · obtain ⟨a3, c3, rfl, _, hy3, hc3, hm3⟩ := owned_arg hown
      have HUN := Lib.hid (unpack_any (packB (xs l)) a3 c3 w3 (HRES.out.below HB3.out) hy3 hc3 hm3)
      rw [unF_pack _ hpo] at HUN
      have HPO := Lib.hid hpo
      have HTE := Lib.hid (show (batchR ⟨(packB (xs l)).take ((packB (xs l)).length - 4), 0⟩).1 = xs l by rw [(packB_take (xs l)).1, batch_there _ hpo])
      clear hown hy3 hc3 hm3 hpo HCASE
      go_wp2_with fail
      refine HUN.out.mono ?_; rintro en w4 ⟨v4, rfl, hb4, hacc, _⟩
      obtain ⟨acc, gg, cp, rfl, hxs, hown, hvo⟩ := hacc (by trivial)
      rw [HTE.out] at hxs
      have HB4 := Lib.hid (HB3.out.trans (hb4.mono HB3.out.size))
      have HLS := Lib.hid (lists_any w4.heap.size w.heap.size acc l (some ⟨gg, 0, none⟩) ao cp ca w4 (evs_of_row hown hvo) (HL.out.below HB4.out (Nat.le_refl _)) hxs (Nat.le_refl _) HB4.out.size (Nat.le_trans (own_cap hown).1 (own_cap hown).2) (fun x hx => by
        have h := HPO.out.2.1 x.ev (by rw [← hxs]; exact List.mem_map_of_mem hx)
        exact Nat.le_trans h.2.2.1 (by decide)))
      clear hb4 hacc hxs hown hvo
      go_wp2_with fail
      refine HLS.out.mono ?_; rintro en w5 ⟨rfl, hb5⟩
      go_wp2_with fail
      go_meet
      exact HB4.out.trans (hb5.mono HB4.out.size)
    · have hne2 : (f3 == 0) = false := by simpa using hne
      clear hne HCASE
      go_wp2_with fail
      go_meet
      exact HB3.out
  case rest =>
    obtain ⟨W4, hW4⟩ : ∃ W4, W4 = wc := ⟨_, rfl⟩
    rw [← hW4] at hcut ⊢
    have HB4 := Lib.hid hcut
    clear hcut hW4 HCASE
    have HUN := Lib.hid (unpack_any raw ro rc W4 (HRES.out.below HB4.out) (HRW.out.below HB4.out) hrc hrm)
    obtain ⟨F, hF⟩ : ∃ F, F = unF raw := ⟨_, rfl⟩
    rw [← hF] at HUN
    have HF := Lib.hid hF
    clear hF
    go_wp2_with fail
    refine HUN.out.mono ?_; rintro en w5 ⟨v5, rfl, hb5, hyes, hno⟩
    have HB5 := Lib.hid (HB4.out.trans (hb5.mono HB4.out.size))
    clear hb5
    by_cases hF0 : F = 0
    · subst hF0
      obtain ⟨acc, gg, cp, rfl, hxs, hown, hvo⟩ := hyes (by trivial)
      obtain ⟨hpo, hpb⟩ := unF_back raw HF.out.symm
      rw [← hxs] at hpo hpb
      have HPO := Lib.hid hpo
      have HPB := Lib.hid hpb
      have HPK := Lib.hid (pack_any acc (some ⟨gg, 0, none⟩) cp w5 (HRES.out.below HB5.out) (evs_of_row hown hvo) (own_cap hown).1 (own_cap hown).2 (fun x hx => valGo_of (hpo.2.1 x.ev (List.mem_map_of_mem hx))))
      clear hyes hno hxs hown hvo hpo hpb
      go_wp2_with fail
      refine HPK.out.mono ?_; rintro en w6 ⟨v6, f6, rfl, hb6, hcase⟩
      have HB6 := Lib.hid (HB5.out.trans (hb6.mono HB5.out.size))
      rcases hcase with ⟨rfl, _, hown⟩ | ⟨_, hnp, _⟩
      · rw [HPB.out] at hown
        obtain ⟨a6, c6, rfl, _, hy6, hc6, hm6⟩ := owned_arg hown
        have HSS := Lib.hid (same_same raw a6 ro c6 rc w6 (Nat.le_trans hc6 hm6) hy6 (HRW.out.below HB6.out))
        clear hown hy6 hc6 hm6 hb6
        go_wp2_with fail
        refine HSS.out.mono ?_; rintro en w7 ⟨rfl, hb7⟩
        go_wp2_with fail
        go_ret
        exact ⟨rfl, HB6.out.trans (hb7.mono HB6.out.size)⟩
      · exact absurd HPO.out hnp
    · obtain rfl := hno hF0
      have hf2 : (F != 0) = true := by simpa [bne] using hF0
      clear hyes hno hF0
      go_wp2_with fail
      go_ret
      exact ⟨rfl, HB5.out⟩
end Go.Proofs.YtmdhacboegmccaaDoor
