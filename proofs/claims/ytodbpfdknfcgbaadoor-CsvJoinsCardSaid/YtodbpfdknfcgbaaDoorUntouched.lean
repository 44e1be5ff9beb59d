/- The laws' untouched. -/
import Derived.Test.YtodbpfdknfcgbaaDoorRoomy
namespace Go.Proofs.YtodbpfdknfcgbaaDoor
open Go Go.RowKit

theorem RowsIn.at {B : Nat} {w : World} {va : Option Addr} {l : List RowX} (h : RowsIn B w va l) (i : Nat) (hi : i < l.length) : ∃ b o, va = some ⟨b, o, none⟩ ∧ b < B ∧ w.cell? ⟨b, o + i, none⟩ = some (.slice l[i].ao l[i].c.length l[i].cap) ∧ StrsIn B w l[i].ao l[i].c := by
  rcases h with rfl | ⟨b, o, e, hb, hc⟩
  · simp at hi
  · exact ⟨b, o, e, hb, (hc i hi).1, (hc i hi).2⟩
theorem StrsIn.at {B : Nat} {w : World} {ao : Option Addr} {c : List (List UInt8)} (h : StrsIn B w ao c) (j : Nat) (hj : j < c.length) : ∃ b o, ao = some ⟨b, o, none⟩ ∧ b < B ∧ w.cell? ⟨b, o + j, none⟩ = some (.string ⟨c[j].toArray⟩) := by
  rcases h with rfl | ⟨b, o, e, hb, hc⟩
  · simp at hj
  · exact ⟨b, o, e, hb, hc j hj⟩
/-- The list of rows, and the whole rows, as roomy made them of rows. -/
structure Room (l L M : List RowX) : Prop where
  lst : cellsOf L = cellsOf l ++ (marksB 20).map (fun m => [m])
  all : cellsOf M = (cellsOf l).map (fun c => c ++ marksB 20)
theorem Room.len {l L M : List RowX} (h : Room l L M) : L.length = l.length + 20 ∧ M.length = l.length := by
  have h1 := congrArg List.length h.lst
  have h2 := congrArg List.length h.all
  simp only [cellsOf, List.length_map, List.length_append, marks_len] at h1 h2
  exact ⟨h1, h2⟩
theorem Room.head {l L M : List RowX} (h : Room l L M) (i : Nat) (hi : i < l.length) (hi2 : i < L.length) : L[i].c = l[i].c := by
  have h1 := congrArg (fun x : List (List (List UInt8)) => x[i]?) h.lst
  simp only [cellsOf, List.getElem?_map, List.getElem?_append, List.length_map, hi, if_true, List.getElem?_eq_getElem hi2, List.getElem?_eq_getElem hi, Option.map_some, Option.some.injEq] at h1
  exact h1
theorem Room.mark {l L M : List RowX} (h : Room l L M) (k : Nat) (hk : k < 20) (hi2 : l.length + k < L.length) : L[l.length + k].c = [markB k] := by
  have h1 := congrArg (fun x : List (List (List UInt8)) => x[l.length + k]?) h.lst
  simp [cellsOf, List.getElem?_append, marksB, hk, List.getElem?_eq_getElem hi2] at h1
  exact h1
theorem Room.whole {l L M : List RowX} (h : Room l L M) (i : Nat) (hi : i < l.length) (hi2 : i < M.length) : M[i].c = l[i].c ++ marksB 20 := by
  have h1 := congrArg (fun x : List (List (List UInt8)) => x[i]?) h.all
  simp only [cellsOf, List.getElem?_map, List.getElem?_eq_getElem hi2, List.getElem?_eq_getElem hi, Option.map_some, Option.some.injEq] at h1
  exact h1
theorem marks_get (j : Nat) (hj : j < 20) (h : j < (marksB 20).length) : (marksB 20)[j] = markB j := by simp [marksB]
theorem mark_bytes (k : Nat) : (⟨(markB k).toArray⟩ : ByteArray) = markS k := rfl

theorem StrsIn.front {B : Nat} {w : World} {ao : Option Addr} {c d : List (List UInt8)} (h : StrsIn B w ao (c ++ d)) : StrsIn B w ao c := by
  rcases h with h | ⟨b, o, e, hb, hc⟩
  · exact Or.inl (List.append_eq_nil_iff.1 h).1
  · refine Or.inr ⟨b, o, e, hb, fun i hi => ?_⟩
    have hi2 : i < (c ++ d).length := by rw [List.length_append]; omega
    rw [hc i hi2, List.getElem_append_left hi]
set_option maxHeartbeats 16000000 in
set_option maxRecDepth 100000 in
theorem untouched_any (l L M : List RowX) (ao va vb : Option Addr) (cap ca cb : Nat) (w : World) (hR : Room l L M) (hl : RowsIn w.heap.size w ao l) (hL : RowsIn w.heap.size w va L) (hM : RowsIn w.heap.size w vb M) (hll : l.length ≤ 5864062014700) (hf : ∀ x ∈ l, x.c.length ≤ 8796093021952) (hcap : ∀ x ∈ M, x.c.length ≤ x.cap ∧ x.cap ≤ maxLen) :
    Calls Tryd.prog 15 #[.slice va L.length ca, .slice vb M.length cb, .slice ao l.length cap] w fun e w' => e = .returned (.bool true) ∧ Below w.heap.size w w' := by
  obtain ⟨B, hB⟩ : ∃ B, B = w.heap.size := ⟨_, rfl⟩
  have hLn := hR.len.1
  have hMn := hR.len.2
  have HR := Lib.hid hR
  have HL := Lib.hid hl
  have HLL := Lib.hid hL
  have HM := Lib.hid hM
  have HF := Lib.hid hf
  have HCP := Lib.hid hcap
  have HMB := Lib.hid mark_bytes
  obtain ⟨n, hn⟩ : ∃ n, n = l.length := ⟨_, rfl⟩
  have HNn := Lib.hid hn
  rw [← hn] at hLn hMn hll ⊢
  rw [hLn, hMn]
  have hq : ((((n + 20 : Nat) : Int)) != (n : Int) + 20) = false := by simp
  clear hR hl hL hM hf hcap hn hB
  go_enter Tryd.func15, Tryd.ntmps15
  go_wp2_with fail
  go_loopw [8] (fun i wr => ∃ k : Nat, k ≤ 20 ∧ i = .int .i64 k ∧ Below w.heap.size w wr) (fun i _ => 20 - (intOf i).toNat)
  case atStart => exact ⟨0, Nat.zero_le _, rfl, Below.refl _ _⟩
  case round =>
    obtain ⟨k, hk, rfl, hbel⟩ := hrel
    have HBE := Lib.hid hbel
    have hzw := hbel.size
    clear hbel
    by_cases hlt : k < 20
    · have hkz : (k : Int) < 20 := by omega
      have hi : n + k < L.length := by omega
      obtain ⟨ab, aof, rfl, hab, h1, hs⟩ := (HLL.out.below HBE.out (Nat.le_refl _)).at (n + k) hi
      have hc : L[n + k].c = [markB k] := by
        have h := HR.out.mark k hlt (by rw [← HNn.out]; exact hi)
        have e : n = l.length := HNn.out
        subst e
        exact h
      obtain ⟨x, hx⟩ : ∃ x, x = L[n + k] := ⟨_, rfl⟩
      rw [← hx] at h1 hs hc
      obtain ⟨c, xa, xc⟩ := x
      simp only at hc
      subst hc
      obtain ⟨bb, bo, e, hbb, h2⟩ := hs.at 0 (by simp)
      have e : xa = some ⟨bb, bo, none⟩ := e
      subst e
      rw [List.getElem_cons_zero, mark_bytes, Nat.add_zero] at h2
      have h1 : wr.cell? ⟨ab, aof + (n + k), none⟩ = some (.slice (some ⟨bb, bo, none⟩) 1 xc) := h1
      have HWD := Lib.hid (word_any k wr.drew hlt)
      have kw := IntWalk.i64_in ((n : Int) + (k : Int)) (by omega)
      have b0 : (0 : Int) ≤ (n : Int) + (k : Int) := by omega
      have b1 : (n : Int) + (k : Int) < (n : Int) + 20 := by omega
      have bt : ((n : Int) + (k : Int)).toNat = n + k := by omega
      have k0 : (0 : Int) ≤ (k : Int) := by omega
      have habw : ab < wr.heap.size := by omega
      have hbbw : bb < wr.heap.size := by omega
      clear hs hx
      go_wp2_with fail
      go_region_held3 (fun w' => w'.cell? ⟨ab, aof + (n + k), none⟩ = some (.slice (some ⟨bb, bo, none⟩) 1 xc) ∧ w'.cell? ⟨bb, bo, none⟩ = some (.string (markS k)))
        (first
          | go_keep
          | exact ⟨r0, r1⟩)
        ((go_at_call 26; (with_reducible refine HWD.out.mono ?_); rintro e w4 ⟨rfl, hb4⟩; have hbD := (Below.refl wr.heap.size wr).drew.trans hb4; have r0 := (hbD.cell (p := ⟨ab, aof + (n + k), none⟩) habw).trans h1; have r1 := (hbD.cell (p := ⟨bb, bo, none⟩) hbbw).trans h2))
      all_goals
        have HBD := Lib.hid (HBE.out.trans (hbD.mono hzw))
        clear hbD
        go_wp2_with fail
        go_roundw
        case rel => exact ⟨k + 1, by omega, by go_num, HBD.out⟩
        case measure => simp [intOf]; omega
    · have HBW := Lib.hid HBE.out
      obtain ⟨w2, hw2⟩ : ∃ w2, w2 = wr := ⟨_, rfl⟩
      clear HBE hzw
      subst hw2
      go_wp2_with fail
      go_loopw [9] (fun i wr => ∃ k : Nat, k ≤ n ∧ i = .int .i64 k ∧ Below w.heap.size w wr) (fun i _ => n - (intOf i).toNat)
      case atStart => exact ⟨0, Nat.zero_le _, rfl, HBW.out⟩
      case round =>
        obtain ⟨i, hi, rfl, hbel⟩ := hrel
        have HBE := Lib.hid hbel
        have hzw := hbel.size
        clear hbel
        by_cases hlt2 : i < n
        · have i0 : i < l.length := by have := HNn.out; omega
          have i1 : i < L.length := by omega
          have i2 : i < M.length := by omega
          obtain ⟨ab, aof, rfl, hab, h1, hs1⟩ := (HLL.out.below HBE.out (Nat.le_refl _)).at i i1
          obtain ⟨rb, ro, rfl, hrb, h2, hs2⟩ := (HL.out.below HBE.out (Nat.le_refl _)).at i i0
          obtain ⟨mb, mo, rfl, hmb, h3, hs3⟩ := (HM.out.below HBE.out (Nat.le_refl _)).at i i2
          have e1 := HR.out.head i i0 i1
          have e3 := HR.out.whole i i0 i2
          have hf := HF.out l[i] (List.getElem_mem i0)
          have hcp := HCP.out M[i] (List.getElem_mem i2)
          obtain ⟨x, hx⟩ : ∃ x, x = L[i] := ⟨_, rfl⟩
          obtain ⟨y, hy⟩ : ∃ y, y = l[i] := ⟨_, rfl⟩
          obtain ⟨z, hz⟩ : ∃ z, z = M[i] := ⟨_, rfl⟩
          rw [← hx] at h1 hs1 e1
          rw [← hy] at h2 hs2 e1 e3 hf
          rw [← hz] at h3 hs3 e3 hcp
          clear hx hy hz
          obtain ⟨c1, xa, xc⟩ := x
          obtain ⟨c, ya, yc⟩ := y
          obtain ⟨c3, za, zc⟩ := z
          have e1 : c1 = c := e1
          have e3 : c3 = c ++ marksB 20 := e3
          subst e1 e3
          simp only at h1 h2 h3 hs1 hs2 hs3 hf hcp
          obtain ⟨zb, zo, e, hzb, _⟩ := hs3.at 0 (by simp [marks_len])
          subst e
          obtain ⟨q, hq2⟩ : ∃ q, q = c1.length := ⟨_, rfl⟩
          have HQ := Lib.hid hq2
          have hlm : (c1 ++ marksB 20).length = q + 20 := by rw [List.length_append, marks_len, hq2]
          rw [hlm] at h3 hcp
          rw [← hq2] at h1 h2 hf
          unfold maxLen at hcp
          have HS3 := Lib.hid hs3
          have HSA := Lib.hid (show ∀ W, Below wr.heap.size wr W → Calls Tryd.prog 18 #[.slice xa q xc, .slice ya q yc] W fun e w' => e = .returned (.bool true) ∧ Below wr.heap.size wr w' by
            intro W hW
            rw [hq2]
            have hz := hW.size
            exact (sameRow_same c1 xa ya xc yc w.heap.size w.heap.size W (hs1.below hW hzw) (hs2.below hW hzw) (by omega) (by omega) (by omega)).mono fun e w' ⟨k1, k2⟩ => ⟨k1, hW.trans (k2.mono hz)⟩)
          have HSB := Lib.hid (show ∀ W, Below wr.heap.size wr W → Calls Tryd.prog 18 #[.slice (some ⟨zb, zo, none⟩) q zc, .slice ya q yc] W fun e w' => e = .returned (.bool true) ∧ Below wr.heap.size wr w' by
            intro W hW
            rw [hq2]
            have hz := hW.size
            exact (sameRow_same c1 _ ya zc yc w.heap.size w.heap.size W (hs3.below hW hzw).front (hs2.below hW hzw) (by omega) (by omega) (by omega)).mono fun e w' ⟨k1, k2⟩ => ⟨k1, hW.trans (k2.mono hz)⟩)
          have k0 : (0 : Int) ≤ (i : Int) := by omega
          have k1 : (i : Int) < (n : Int) := by omega
          have k2 : (i : Int) < (n : Int) + 20 := by omega
          have q0 : (0 : Int) ≤ (q : Int) := by omega
          have q1 : q ≤ q + 20 := by omega
          have q2 : q ≤ zc := by omega
          have q3 : (q : Int) ≤ (zc : Int) := by omega
          have habw : ab < wr.heap.size := by omega
          have hrbw : rb < wr.heap.size := by omega
          have hmbw : mb < wr.heap.size := by omega
          have hzbw : zb < wr.heap.size := by omega
          clear hs1 hs2 hs3 hlm hq2 hcp
          go_wp2_with fail
          go_region_held3 (fun w' => w'.cell? ⟨ab, aof + i, none⟩ = some (.slice xa q xc) ∧ w'.cell? ⟨rb, ro + i, none⟩ = some (.slice ya q yc) ∧ w'.cell? ⟨mb, mo + i, none⟩ = some (.slice (some ⟨zb, zo, none⟩) (q + 20) zc))
            (first
              | go_keep
              | exact ⟨r0, r1, r2⟩)
            (first
              | (go_at_call 18; (with_reducible refine (HSA.out _ (Below.refl _ wr).drew).mono ?_); rintro e w4 ⟨rfl, hbD⟩; have r0 := (hbD.cell (p := ⟨ab, aof + i, none⟩) habw).trans h1; have r1 := (hbD.cell (p := ⟨rb, ro + i, none⟩) hrbw).trans h2; have r2 := (hbD.cell (p := ⟨mb, mo + i, none⟩) hmbw).trans h3)
              | (go_at_call 18; (with_reducible refine (HSB.out _ hbD).mono ?_); rintro e w5 ⟨rfl, hbE⟩; have r0 := (hbE.cell (p := ⟨ab, aof + i, none⟩) habw).trans h1; have r1 := (hbE.cell (p := ⟨rb, ro + i, none⟩) hrbw).trans h2; have r2 := (hbE.cell (p := ⟨mb, mo + i, none⟩) hmbw).trans h3))
          all_goals
            have HBE5 := Lib.hid (HBE.out.trans (hbE.mono hzw))
            have HBX := Lib.hid hbE
            clear hbD hbE
            go_wp2_with fail
            obtain ⟨wo, rfl⟩ : ∃ wo : World, wo = wr := ⟨_, rfl⟩
            go_loopw [11] (fun j wz => ∃ m : Nat, m ≤ 20 ∧ j = .int .i64 m ∧ Below w.heap.size w wz ∧ Below wo.heap.size wo wz) (fun j _ => 20 - (intOf j).toNat)
            case atStart => exact ⟨0, Nat.zero_le _, rfl, HBE5.out, HBX.out⟩
            case round =>
              obtain ⟨m, hm, rfl, hbz, hbz2⟩ := hrel
              have HBZ := Lib.hid hbz
              have HBZ2 := Lib.hid hbz2
              by_cases hm2 : m < 20
              · have hmz : (m : Int) < 20 := by omega
                have hz6 := hbz2.size
                have h3z := (hbz2.cell (p := ⟨mb, mo + i, none⟩) hmbw).trans h3
                obtain ⟨zb', zo', e, _, h4⟩ := (HS3.out.below hbz2 hzw).at (q + m) (by rw [List.length_append, marks_len, ← HQ.out]; omega)
                have e : (⟨zb, zo, none⟩ : Addr) = ⟨zb', zo', none⟩ := Option.some.inj e
                injection e with e1 e2
                subst e1 e2
                have hmk : (c1 ++ marksB 20)[q + m]'(by rw [List.length_append, marks_len, ← HQ.out]; omega) = markB m := by
                  have e := HQ.out
                  subst e
                  rw [List.getElem_append_right (by omega)]
                  simp [marksB]
                rw [hmk, mark_bytes] at h4
                have HWD := Lib.hid (word_any m wr.drew hm2)
                have mw := IntWalk.i64_in ((q : Int) + (m : Int)) (by omega)
                have b0 : (0 : Int) ≤ (q : Int) + (m : Int) := by omega
                have b1 : (q : Int) + (m : Int) < (q : Int) + 20 := by omega
                have bt : ((q : Int) + (m : Int)).toNat = q + m := by omega
                have hmbz : mb < wr.heap.size := by omega
                have hzbz : zb < wr.heap.size := by omega
                have HM1 := Lib.hid h1
                have HM2 := Lib.hid h2
                clear h1 h2 h3 r0 r1 r2 hbz hbz2
                go_wp2_with fail
                go_region_held3 (fun w' => w'.cell? ⟨mb, mo + i, none⟩ = some (.slice (some ⟨zb, zo, none⟩) (q + 20) zc) ∧ w'.cell? ⟨zb, zo + (q + m), none⟩ = some (.string (markS m)))
                  (first
                    | go_keep
                    | exact ⟨r0, r1⟩)
                  ((go_at_call 26; (with_reducible refine HWD.out.mono ?_); rintro e w4 ⟨rfl, hb4⟩; have hbD := (Below.refl wr.heap.size wr).drew.trans hb4; have r0 := (hbD.cell (p := ⟨mb, mo + i, none⟩) hmbz).trans h3z; have r1 := (hbD.cell (p := ⟨zb, zo + (q + m), none⟩) hzbz).trans h4))
                all_goals
                  have HBD := Lib.hid (HBZ.out.trans (hbD.mono HBZ.out.size))
                  have HBD2 := Lib.hid (HBZ2.out.trans (hbD.mono hz6))
                  clear hbD
                  go_wp2_with fail
                  go_roundw
                  case rel => exact ⟨m + 1, by omega, by go_num, HBD.out, HBD2.out⟩
                  case measure => simp [intOf]; omega
              · go_wp2_with fail
                go_roundw
                case rel => exact ⟨i + 1, by omega, by go_num, HBZ.out⟩
                case measure => simp [intOf]; omega
        · go_wp2_with fail
          go_ret
          exact ⟨rfl, HBE.out⟩
end Go.Proofs.YtodbpfdknfcgbaaDoor
