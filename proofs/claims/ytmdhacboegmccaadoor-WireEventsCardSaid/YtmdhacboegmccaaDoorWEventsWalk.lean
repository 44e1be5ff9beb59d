/- The walk of the law of events. -/
import Derived.Test.YtmdhacboegmccaaDoorBoth
namespace Go.Proofs.YtmdhacboegmccaaDoor
open Go Go.RowKit

set_option maxHeartbeats 8000000 in
set_option maxRecDepth 100000 in
theorem wevents_any (es : List EvX) (raws : List RawX) (eo ro : Option Addr) (ec rc : Nat) (w : World) (hres : ResAt w) (he : EvsIn w.heap.size w eo es) (heb : ∀ x ∈ es, (∀ a ∈ x.ev.vals, valIn a) ∧ x.ev.vals.length ≤ 3518437208780) (hel : es.length ≤ maxLen) (hr : RawsIn w ro raws) (hrb : ∀ x ∈ raws, x.l.length ≤ x.cap ∧ x.cap ≤ maxLen ∧ x.l.length ≤ 150000000000000) (hrl : raws.length ≤ maxLen) :
    Calls Tryd.prog 7 #[.slice eo es.length ec, .slice ro raws.length rc] w fun en w' => en = .returned (.bool true) ∧ Below w.heap.size w w' := by
  have HE := Lib.hid he
  have HEB := Lib.hid heb
  have HR := Lib.hid hr
  have HRB := Lib.hid hrb
  unfold maxLen at hel hrl
  have HRS := Lib.hid hres
  clear he heb hr hrb hres
  go_enter Tryd.func7, Tryd.ntmps7
  go_wp2_with fail
  refine (begun_any w HRS.out).mono ?_; rintro en w1 ⟨rfl, hb1⟩
  have HB1 := Lib.hid hb1
  clear hb1
  go_wp2_with fail
  go_loopw [5] (fun i wr => ∃ k : Nat, k ≤ es.length ∧ i = .int .i64 k ∧ Below w.heap.size w wr) (fun i _ => es.length - (intOf i).toNat)
  case atStart => exact ⟨0, Nat.zero_le _, rfl, HB1.out⟩
  case round =>
    obtain ⟨k, hk, rfl, hbel⟩ := hrel
    have HBE := Lib.hid hbel
    have zr := hbel.size
    clear hbel
    by_cases hlt : k < es.length
    · obtain ⟨b, o, rfl, hbB, hc⟩ : ∃ b o, eo = some ⟨b, o, none⟩ ∧ b < w.heap.size ∧ ∀ i (h : i < es.length), (wr.cell? ⟨b, o + i * 3, none⟩ = some (.string es[i].ev.ty) ∧ wr.cell? ⟨b, o + i * 3 + 1, none⟩ = some (.int .i64 es[i].ev.time) ∧ wr.cell? ⟨b, o + i * 3 + 2, none⟩ = some (.slice es[i].va es[i].ev.vals.length es[i].cap)) ∧ ValsIn w.heap.size wr es[i].va es[i].ev.vals := by
        rcases HE.out.below HBE.out (Nat.le_refl _) with h | h
        · rw [h] at hlt; simp at hlt
        · exact h
      obtain ⟨⟨x0, x1, x2⟩, hvr⟩ := hc k hlt
      obtain ⟨hvi, hvl⟩ := HEB.out es[k] (List.getElem_mem hlt)
      obtain ⟨x, hx⟩ : ∃ x, x = es[k] := ⟨_, rfl⟩
      rw [← hx] at x0 x1 x2 hvr hvi hvl
      obtain ⟨e, va, vc⟩ := x
      simp only at x0 x1 x2 hvr hvi hvl
      have HVI := Lib.hid hvi
      have HVR := Lib.hid (hvr.mono zr)
      have hbl : b < wr.heap.size := by omega
      have k0 : (0 : Int) ≤ (k : Int) := by omega
      have k1 : (k : Int) < (es.length : Int) := by omega
      have HX0 := Lib.hid x0
      have HX1 := Lib.hid x1
      have HX2 := Lib.hid x2
      clear hc hx hvr hvi
      have HWD := Lib.hid (wide_any e va vc wr HVR.out hvl)
      have HEF := Lib.hid (show evV e va vc = .agg #[.string e.ty, .int .i64 e.time, .slice va e.vals.length vc] from rfl)
      rw [HEF.out] at HWD
      go_wp2_with fail
      (with_reducible refine HWD.out.mono ?_); rintro en w2 hwd
      obtain ⟨g, r, rfl, hg, hrl', hall, hb2⟩ := hwd
      simp only [evV]
      have HG2 := Lib.hid hg
      have HRL := Lib.hid hrl'
      have HALL := Lib.hid hall
      have HB2 := Lib.hid (HBE.out.trans (hb2.mono zr))
      have HBW2 := Lib.hid hb2
      have z2 := hb2.size
      clear hg hrl' hall hb2 x0 x1 x2 HWD
      go_upto_region 7 with fail
      obtain ⟨W3, hW3⟩ : ∃ W3, W3 = w2.alloc (Obj.cells #[.string e.ty, .int .i64 e.time, .slice (some ⟨g, 0, none⟩) e.vals.length (e.vals.length + 34)] 24) := ⟨_, rfl⟩
      rw [← hW3]
      have hb3 : Below w2.heap.size w2 W3 := by rw [hW3]; exact (Below.refl _ _).alloc (Nat.le_refl _) _
      have HC3 := Lib.hid (show Cells3 W3 w2.heap.size (.string e.ty) (.int .i64 e.time) (.slice (some ⟨g, 0, none⟩) e.vals.length (e.vals.length + 34)) by rw [hW3]; exact Cells3.made _ _ _ _ _)
      have HB3 := Lib.hid (HBW2.out.trans (hb3.mono z2))
      have z3 := hb3.size
      have HG3 := Lib.hid (HG2.out.below hb3)
      have HENC := Lib.hid (enc_any e (some ⟨g, 0, none⟩) (e.vals.length + 34) W3 (HRS.out.below (HBE.out.trans (HB3.out.mono zr))) (by have h := (HG3.out.at').take e.vals.length; rw [wide_take HRL.out HALL.out] at h; exact h) HVI.out)
      rw [show evV e (some ⟨g, 0, none⟩) (e.vals.length + 34) = .agg #[.string e.ty, .int .i64 e.time, .slice (some ⟨g, 0, none⟩) e.vals.length (e.vals.length + 34)] from rfl] at HENC
      have c0 := HC3.out.c0
      have c1 := HC3.out.c1
      have c2 := HC3.out.c2
      clear hb3 hW3
      go_wp2_with fail
      (with_reducible refine HENC.out.mono ?_); rintro en w4 ⟨hen, hb4⟩
      obtain ⟨a4, q4, l4, rfl, hy4, hl4, hm4⟩ := enc_form hen
      have HY4 := Lib.hid hy4
      have HL4 := Lib.hid hl4
      have HM4 := Lib.hid hm4
      have HB4 := Lib.hid (HB3.out.trans (hb4.mono (by omega)))
      have HG4 := Lib.hid (HG3.out.below hb4)
      have z4 := hb4.size
      have x0 := (HB4.out.cell (p := ⟨b, o + k * 3, none⟩) hbl).trans HX0.out
      have x1 := (HB4.out.cell (p := ⟨b, o + k * 3 + 1, none⟩) hbl).trans HX1.out
      have x2 := (HB4.out.cell (p := ⟨b, o + k * 3 + 2, none⟩) hbl).trans HX2.out
      have HREF := Lib.hid (refEncode_any e va vc w4 ((HVR.out.below HB4.out (Nat.le_refl _)).mono (by omega)) HVI.out (by unfold maxLen; omega))
      rw [HEF.out] at HREF
      clear hen hy4 hl4 hm4 hb4 c0 c1 c2 HENC
      go_wp2_with fail
      (with_reducible refine HREF.out.mono ?_); rintro en w5 ⟨hen, hb5⟩
      obtain ⟨a5, q5, l5, rfl, hy5, hl5, hm5⟩ := enc_form hen
      obtain rfl : l4 = l5 := by rw [HL4.out, hl5]
      have HSS := Lib.hid (same_same l4 a4 a5 q4 q5 w5 hm5 (HY4.out.below hb5) hy5)
      have HB5 := Lib.hid (HB4.out.trans (hb5.mono (by omega)))
      have HG5 := Lib.hid (HG4.out.below hb5)
      have z5 := hb5.size
      have qe : (evFault e != evFault e) = false := by simp
      clear hen hy5 hl5 hm5 hb5 x0 x1 x2 HREF
      have x0 := (HB5.out.cell (p := ⟨b, o + k * 3, none⟩) hbl).trans HX0.out
      have x1 := (HB5.out.cell (p := ⟨b, o + k * 3 + 1, none⟩) hbl).trans HX1.out
      have x2 := (HB5.out.cell (p := ⟨b, o + k * 3 + 2, none⟩) hbl).trans HX2.out
      go_wp2_with fail
      (with_reducible refine HSS.out.mono ?_); rintro en w6 ⟨rfl, hb6⟩
      have HB6 := Lib.hid (HB5.out.trans (hb6.mono (by omega)))
      have HG6 := Lib.hid (HG5.out.below hb6)
      have z6 := hb6.size
      have HTG := Lib.hid (tight_any wr.heap.size e va vc g r w6 ((HVR.out.below HB6.out (Nat.le_refl _)).mono (by omega)) hvl HG6.out HRL.out HALL.out)
      rw [HEF.out] at HTG
      have y0 := (HB6.out.cell (p := ⟨b, o + k * 3, none⟩) hbl).trans HX0.out
      have y1 := (HB6.out.cell (p := ⟨b, o + k * 3 + 1, none⟩) hbl).trans HX1.out
      have y2 := (HB6.out.cell (p := ⟨b, o + k * 3 + 2, none⟩) hbl).trans HX2.out
      clear hb6 x0 x1 x2 HSS
      go_wp2_with fail
      (with_reducible refine HTG.out.mono ?_); rintro en w7 ⟨rfl, hb7⟩
      have HB7 := Lib.hid (HBE.out.trans ((HB6.out.trans (hb7.mono (by omega))).mono zr))
      clear hb7 y0 y1 y2
      go_wp2_with fail
      go_roundw
      case rel => exact ⟨k + 1, by omega, by go_num, HB7.out⟩
      case measure => simp [intOf]; omega
    · have k1 : ¬ (k : Int) < (es.length : Int) := by omega
      go_wp2_with fail
      go_loopw [12] (fun i wx => ∃ j : Nat, j ≤ raws.length ∧ i = .int .i64 j ∧ Below w.heap.size w wx) (fun i _ => raws.length - (intOf i).toNat)
      case atStart => exact ⟨0, Nat.zero_le _, rfl, HBE.out⟩
      case round =>
        obtain ⟨j, hj, rfl, hbel⟩ := hrel
        have HBJ := Lib.hid hbel
        have zj := hbel.size
        clear hbel
        by_cases hjl : j < raws.length
        · obtain ⟨b, o, rfl, hc⟩ : ∃ b o, ro = some ⟨b, o, none⟩ ∧ ∀ i (h : i < raws.length), wr.cell? ⟨b, o + i, none⟩ = some (.slice raws[i].ao raws[i].l.length raws[i].cap) ∧ BytesAt wr raws[i].ao raws[i].l := by
            rcases HR.out.below HBJ.out with h | h
            · rw [h] at hjl; simp at hjl
            · exact h
          obtain ⟨hcj, hby⟩ := hc j hjl
          obtain ⟨q1, q2, q3⟩ := HRB.out raws[j] (List.getElem_mem hjl)
          obtain ⟨x, hx⟩ : ∃ x, x = raws[j] := ⟨_, rfl⟩
          rw [← hx] at hcj hby q1 q2 q3
          obtain ⟨l, xa, xc⟩ := x
          simp only at hcj hby q1 q2 q3
          have HBY := Lib.hid hby
          have hbl := World.block_lt_of_cell? wr _ hcj
          have j0 : (0 : Int) ≤ (j : Int) := by omega
          have j1 : (j : Int) < (raws.length : Int) := by omega
          have HCJ := Lib.hid hcj
          clear hc hx hby
          go_wp2_with fail
          refine (roomy_any l xa xc wr HBY.out q1 q3).mono ?_; rintro en w2 ⟨g2, c2, r2, rfl, hc2, hr2, ha2, hb2⟩
          have HC2 := Lib.hid hc2
          have HA2 := Lib.hid ha2
          have HB2 := Lib.hid hb2
          have hcj2 := (hb2.cell (p := ⟨b, o + j, none⟩) hbl).trans HCJ.out
          have hcl := hc2.len
          have hcm := hc2.cap
          have HLR := Lib.hid hr2
          have l0 : (0 : Int) ≤ (l.length : Int) := by omega
          have l1 : (l.length : Int) ≤ (c2 : Int) := by omega
          have l2 : l.length ≤ c2 := by omega
          have z2 := hb2.size
          clear hc2 ha2 hb2 hcj hr2
          have HDEC := Lib.hid (dec_any l (some ⟨g2, 0, none⟩) c2 w2 (HRS.out.below (HBJ.out.trans (HB2.out.mono zj))) (room_bytes HC2.out HLR.out HA2.out) l2 hcm)
          go_wp2_with fail
          (with_reducible refine HDEC.out.mono ?_); rintro en w3 ⟨hde, hb3⟩
          obtain ⟨v3, q3', rfl, hv3, hvl3⟩ := dec_form hde
          have HV3 := Lib.hid hv3
          have HB3 := Lib.hid (HB2.out.trans (hb3.mono z2))
          have HC3 := Lib.hid (HC2.out.below (by have := HLR.out; omega) hb3)
          have z3 := hb3.size
          have hcj3 := (HB3.out.cell (p := ⟨b, o + j, none⟩) hbl).trans HCJ.out
          simp only [evV]
          clear hde hv3 hb3 hcj2 HDEC
          go_upto_region 16 with fail
          obtain ⟨W4, hW4⟩ : ∃ W4, W4 = w3.alloc (Obj.cells #[.string (decE l).ty, .int .i64 (decE l).time, .slice v3 (decE l).vals.length q3'] 24) := ⟨_, rfl⟩
          rw [← hW4]
          have hb4 : Below w3.heap.size w3 W4 := by rw [hW4]; exact (Below.refl _ _).alloc (Nat.le_refl _) _
          have HE4 := Lib.hid (show Cells3 W4 w3.heap.size (.string (decE l).ty) (.int .i64 (decE l).time) (.slice v3 (decE l).vals.length q3') by rw [hW4]; exact Cells3.made _ _ _ _ _)
          have HB4 := Lib.hid (HB3.out.trans (hb4.mono (by omega)))
          have HC4 := Lib.hid (HC3.out.below (by have := HLR.out; omega) hb4)
          have HV4 := Lib.hid (HV3.out.below hb4 (Nat.le_refl _))
          have z4 := hb4.size
          have z4' : w3.heap.size < W4.heap.size := HE4.out.lt
          have hcj4 := (HB4.out.cell (p := ⟨b, o + j, none⟩) hbl).trans HCJ.out
          clear hb4 hW4 hcj3
          have HRD := Lib.hid (refDecode_any l xa xc W4 (HBY.out.below HB4.out) q1 q2)
          go_wp2_with fail
          (with_reducible refine HRD.out.mono ?_); rintro en w5 ⟨hde, hb5⟩
          obtain ⟨v5, q5', rfl, hv5, _⟩ := dec_form hde
          have HB5 := Lib.hid (HB4.out.trans (hb5.mono (by omega)))
          have HC5 := Lib.hid (HC4.out.below (by have := HLR.out; omega) hb5)
          have HE5 := Lib.hid (HE4.out.below hb5)
          have HV5 := Lib.hid (HV4.out.below hb5 (by omega))
          have HU5 := Lib.hid hv5
          have z5 := hb5.size
          simp only [evV]
          clear hde hv5 hb5 hcj4 HRD
          go_upto_region 17 with fail
          obtain ⟨W6, hW6⟩ : ∃ W6, W6 = w5.alloc (Obj.cells #[.string (decE l).ty, .int .i64 (decE l).time, .slice v5 (decE l).vals.length q5'] 24) := ⟨_, rfl⟩
          rw [← hW6]
          have hb6 : Below w5.heap.size w5 W6 := by rw [hW6]; exact (Below.refl _ _).alloc (Nat.le_refl _) _
          have HF6 := Lib.hid (show Cells3 W6 w5.heap.size (.string (decE l).ty) (.int .i64 (decE l).time) (.slice v5 (decE l).vals.length q5') by rw [hW6]; exact Cells3.made _ _ _ _ _)
          have HB6 := Lib.hid (HB5.out.trans (hb6.mono (by omega)))
          have HC6 := Lib.hid (HC5.out.below (by have := HLR.out; omega) hb6)
          have HE6 := Lib.hid (HE5.out.below hb6)
          have HV6 := Lib.hid ((HV5.out.below hb6 (by omega)))
          have HU6 := Lib.hid (HU5.out.below hb6 (Nat.le_refl _))
          have z6 := hb6.size
          have HEQ := Lib.hid (events_same w3.heap.size w5.heap.size (decE l) v3 v5 q3' q5' W6 hvl3 (by omega) (by omega) HV6.out HU6.out)
          rw [show evV (decE l) v3 q3' = .agg #[.string (decE l).ty, .int .i64 (decE l).time, .slice v3 (decE l).vals.length q3'] from rfl, show evV (decE l) v5 q5' = .agg #[.string (decE l).ty, .int .i64 (decE l).time, .slice v5 (decE l).vals.length q5'] from rfl] at HEQ
          have a0 := HE6.out.c0
          have a1 := HE6.out.c1
          have a2 := HE6.out.c2
          have d0 := HF6.out.c0
          have d1 := HF6.out.c1
          have d2 := HF6.out.c2
          have e1 : (decN l != decN l) = false := by simp
          have e2 : ((eventR ⟨l, 0⟩).2.fault != (eventR ⟨l, 0⟩).2.fault) = false := by simp
          clear hb6 hW6
          go_wp2_with fail
          (with_reducible refine HEQ.out.mono ?_); rintro en w7 ⟨rfl, hb7⟩
          have HB7 := Lib.hid (HB6.out.trans (hb7.mono (by omega)))
          have HC7 := Lib.hid (HC6.out.below (by have := HLR.out; omega) hb7)
          have z7 := hb7.size
          have hcj7 := (HB7.out.cell (p := ⟨b, o + j, none⟩) hbl).trans HCJ.out
          clear hb7 a0 a1 a2 d0 d1 d2 HEQ
          go_wp2_with fail
          refine (roomy_any l xa xc w7 (HBY.out.below HB7.out) q1 q3).mono ?_; rintro en w8 ⟨g8, c8, r8, rfl, hc8, hr8, ha8, hb8⟩
          have HC8 := Lib.hid hc8
          have hrs := room_same HLR.out hr8 HA2.out ha8
          have HC78 := Lib.hid (HC7.out.below (by have := HLR.out; omega) hb8)
          have HB8 := Lib.hid (HB7.out.trans (hb8.mono (by omega)))
          have z8 := hb8.size
          subst hrs
          have HSS := same_same r2 (some ⟨g2, 0, none⟩) (some ⟨g8, 0, none⟩) c2 c8 w8 (Nat.le_trans HC78.out.len HC78.out.cap) HC78.out.at' HC8.out.at'
          rw [HLR.out] at HSS
          have HS8 := Lib.hid HSS
          clear hc8 hr8 ha8 hb8 HSS hcj7
          go_wp2_with fail
          refine HS8.out.mono ?_; rintro en w9 ⟨rfl, hb9⟩
          have HB9 := Lib.hid (HBJ.out.trans ((HB8.out.trans (hb9.mono (by omega))).mono zj))
          clear hb9
          go_wp2_with fail
          go_roundw
          case rel => exact ⟨j + 1, by omega, by go_num, HB9.out⟩
          case measure => simp [intOf]; omega
        · have j1 : ¬ (j : Int) < (raws.length : Int) := by omega
          go_wp2_with fail
          go_ret
          exact ⟨rfl, HBJ.out⟩
end Go.Proofs.YtmdhacboegmccaaDoor
