/- The walk of the law of tokens there and back. -/
import Derived.Test.YtaipljdpkgdheaaDoorAlike
import Derived.Test.YtaipljdpkgdheaaDoorPlainest
import Derived.IntWalk
namespace Go.Proofs.YtaipljdpkgdheaaDoor
open Go Go.RowKit

def Tk.tok (x : Tk) : Tok := ⟨x.kind, ⟨x.text.toArray⟩, x.pos⟩
theorem toks_own {w : World} {B n cp : Nat} {va : Option Addr} {acc : List Tk} (h : w.ownsRow B 28 3 (.slice va n cp) n (tkCells acc)) (hn : acc.length = n) : ToksAt w va (acc.map Tk.tok) := by
  rcases owned_case h with ⟨h0, _, _⟩ | ⟨g, rfl⟩
  · exact Or.inl (by rw [List.eq_nil_of_length_eq_zero (hn.trans h0)]; rfl)
  · refine Or.inr ⟨g, 0, rfl, fun i hi => ?_⟩
    have hi' : i < acc.length := by simpa using hi
    have ea : ∀ j, (⟨g, 0, none⟩ : Addr).add j = ⟨g, j, none⟩ := by
      intro j
      unfold Addr.add
      split
      · rename_i e; rw [e]
      · simp
    have at_ : ∀ (j : Nat) (v : Value), (tkCells acc)[j]? = some v → w.cell? ⟨g, j, none⟩ = some v := by
      intro j v hv
      have h5 := h.cells (g := g) rfl j v hv
      rwa [ea] at h5
    obtain ⟨k0, k1, k2⟩ := tkCells_get acc i hi'
    simp only [List.getElem_map, Nat.zero_add]
    exact ⟨at_ _ _ k0, at_ _ _ k1, at_ _ _ k2⟩
/-- Plain tokens, spelt. -/
theorem tok_plain {acc : List Tk} (h : ∀ x ∈ acc, Plain x.kind x.text ∧ x.pos = 0) : (∀ t ∈ acc.map Tk.tok, PlainT t) ∧ ∀ t ∈ acc.map Tk.tok, TokOk t := by
  constructor
  · intro t ht
    obtain ⟨x, hx, rfl⟩ := List.mem_map.1 ht
    exact (h x hx).1
  · intro t ht
    obtain ⟨x, hx, rfl⟩ := List.mem_map.1 ht
    have h1 := plain_ok (h x hx).1
    exact ⟨h1.may, h1.noEnd, h1.str, h1.sign⟩
/-- The text of plain tokens, scanned. -/
theorem scan_back (ts : List Tok) (hp : ∀ t ∈ ts, PlainT t) (S : List UInt8) (hS : S = joinL (ts.map Tok.wr)) (M : List Tk) (hM : M = placed S.length ts ++ [⟨5, [], S.length⟩]) (hl : S.length ≤ 4096) (w : World) (hT : Tabs w) :
    Calls Tryd.prog 9 #[.string ⟨S.toArray⟩] w fun e w' => (∃ (va : Option Addr) (cap : Nat), e = .returned (.tuple #[.slice va M.length cap, .int .i64 0, .int .i64 0]) ∧ M.length ≤ cap ∧ cap ≤ maxLen ∧ ToksAt w' va (M.map Tk.tok)) ∧ Below w.heap.size w w' := by
  have h := scan_any ⟨S.toArray⟩ w (show S.length ≤ 4096 from hl) hT
  have e : scanR (⟨S.toArray⟩ : ByteArray).size [] (⟨S.toArray⟩ : ByteArray).data.toList = (M, [], 0) := by
    show scanR S.length [] S = (M, [], 0)
    rw [hM, hS, scan_plain _ ts [] hp]
    simp
  rw [e] at h
  refine h.mono ?_
  rintro en w' ⟨⟨va, cap, rfl, ho⟩, hb⟩
  have hc := owned_caps ho
  exact ⟨⟨va, cap, by simp [scanAt], hc.1, hc.2, toks_own ho rfl⟩, hb⟩
theorem text_there {S x : List UInt8} {p : Nat} (h : (S.drop p).take x.length = x) : (⟨S.toArray⟩ : ByteArray).extract p (p + x.length) = ⟨x.toArray⟩ := by
  apply ByteArray.ext
  apply Array.toList_inj.1
  simp only [ByteArray.data_extract, Array.toList_extract, List.extract_eq_take_drop, List.toList_toArray]
  rw [Nat.add_sub_cancel_left]
  exact h

theorem Back.last' {S : List UInt8} {ts : List Tok} {M : List Tk} {i : Nat} (h : Back S ts M) (hi : ts.length = i) (h' : i < M.length) : M[i] = ⟨5, [], S.length⟩ := by
  subst hi
  exact h.last h'
theorem toks_cells {w : World} {va : Option Addr} {M : List Tk} (h : ToksAt w va (M.map Tk.tok)) (h0 : 0 < M.length) : ∃ b o, va = some ⟨b, o, none⟩ ∧ ∀ m (h : m < M.length), w.cell? ⟨b, o + m * 3, none⟩ = some (.int .i64 M[m].kind) ∧ w.cell? ⟨b, o + m * 3 + 1, none⟩ = some (.string ⟨M[m].text.toArray⟩) ∧ w.cell? ⟨b, o + m * 3 + 2, none⟩ = some (.int .i64 (M[m].pos : Int)) := by
  rcases h with h | ⟨b, o, e, h⟩
  · have := congrArg List.length h
    rw [List.length_map, List.length_nil] at this
    omega
  · refine ⟨b, o, e, fun m hm => ?_⟩
    have := h m (by rw [List.length_map]; exact hm)
    simp only [List.getElem_map] at this
    exact this

set_option maxHeartbeats 8000000 in
set_option maxRecDepth 1000000 in
theorem back_any (l : List Tok) (ao : Option Addr) (ca : Nat) (w : World) (hT : Tabs w) (hl : ToksAt w ao l) (hm : l.length ≤ maxLen) (hs : ∀ t ∈ l, t.str.size ≤ reachBytes) :
    Calls Tryd.prog 5 #[.slice ao l.length ca] w fun e w' => e = .returned (.bool true) ∧ Below w.heap.size w w' := by
  obtain ⟨i0, hi0, hz0, hz1, hz2⟩ := info_parts Tryd.infoTok
  have HT := Lib.hid hT
  have HL := Lib.hid hl
  have HS := Lib.hid hs
  obtain ⟨N, hN⟩ : ∃ N, N = l.length := ⟨_, rfl⟩
  rw [← hN] at hm ⊢
  have HN := Lib.hid hN
  unfold maxLen at hm
  clear hT hl hs hN
  go_enter Tryd.func5, Tryd.ntmps5
  go_wp2_with fail
  go_loopw [3, 4] (fun v3 v4 wr => ∃ (i : Nat) (acc : List Tk) (va : Option Addr) (cp : Nat), i ≤ 4 ∧ i ≤ N ∧ v4 = .int .i64 (i : Int) ∧ v3 = .slice va i cp ∧ wr.ownsRow w.heap.size 28 3 (.slice va i cp) i (tkCells acc) ∧ acc.length = i ∧ (∀ x ∈ acc, Plain x.kind x.text ∧ x.pos = 0) ∧ Below w.heap.size w wr) (fun _ v4 _ => 4 - (intOf v4).toNat)
  case atStart => exact ⟨0, [], none, 0, by omega, Nat.zero_le _, rfl, rfl, World.ownsRow_nil _ _ _ _, rfl, by simp, Below.refl _ _⟩
  case round =>
    obtain ⟨i, acc, va, cp, hi4, hiN, rfl, rfl, hown, hlen, hpl, hbel⟩ := hrel
    have HO := Lib.hid hown
    have HLE := Lib.hid hlen
    have HPL := Lib.hid hpl
    have HBE := Lib.hid hbel
    have hzw := hbel.size
    have i0' : (0 : Int) ≤ (i : Int) := by omega
    clear hown hlen hpl hbel
    by_cases hgo : i < N ∧ i < 4
    · obtain ⟨hlt, hlt4⟩ := hgo
      have j1 : (i : Int) < (N : Int) := by omega
      have j2 : (i : Int) < 4 := by omega
      have hil : i < l.length := by rw [← HN.out]; exact hlt
      obtain ⟨b, o, rfl, hcell⟩ : ∃ b o, ao = some ⟨b, o, none⟩ ∧ ∀ j (h : j < l.length), wr.cell? ⟨b, o + j * 3, none⟩ = some (.int .i64 l[j].kind) ∧ wr.cell? ⟨b, o + j * 3 + 1, none⟩ = some (.string l[j].str) ∧ wr.cell? ⟨b, o + j * 3 + 2, none⟩ = some (.int .i64 l[j].pos) := by
        rcases HL.out.below HBE.out with h | h
        · rw [h] at hil; simp at hil
        · exact h
      obtain ⟨d0, d1, d2⟩ := hcell i hil
      have hsz := HS.out l[i] (List.getElem_mem hil)
      obtain ⟨⟨k, s, a⟩, ht⟩ : ∃ t, t = l[i] := ⟨_, rfl⟩
      rw [← ht] at d0 d1 d2 hsz
      simp only at d0 d1 d2 hsz
      unfold reachBytes at hsz
      have HPN := Lib.hid (plainest_any k a s wr hsz)
      clear hcell ht hsz
      go_wp2_with fail
      refine HPN.out.mono ?_; rintro e w2 ⟨⟨k2, x, rfl, hpx⟩, hb2⟩
      obtain ⟨V, hV⟩ : ∃ V, V = w2.alloc (Obj.cells #[.int .i64 k2, .string ⟨x.toArray⟩, .int .i64 0] 28) := ⟨_, rfl⟩
      have hbV : Below w2.heap.size w2 V := by rw [hV]; exact (Below.refl _ _).alloc (Nat.le_refl _) _
      obtain ⟨bb, hbb⟩ : ∃ bb, bb = w2.heap.size := ⟨_, rfl⟩
      have HCV := Lib.hid (show Cells3 V bb (.int .i64 k2) (.string ⟨x.toArray⟩) (.int .i64 0) by rw [hV, hbb]; exact Cells3.made _ _ _ _ _)
      have v0 := HCV.out.c0
      have v1 := HCV.out.c1
      have v2 := HCV.out.c2
      have HOV := Lib.hid (owns_below (owns_below HO.out hb2) hbV)
      have HBV := Lib.hid (show Below w.heap.size w V from HBE.out.trans ((hb2.mono hzw).trans (hbV.mono (Nat.le_trans hzw hb2.size))))
      have HV := Lib.hid hV
      have HBB := Lib.hid hbb
      have HPX := Lib.hid hpx
      have hzV : w.heap.size ≤ V.heap.size := HBV.out.size
      clear hV hbb hbV hb2 hpx d0 d1 d2
      go_upto_region 6 with fail
      rw [← HV.out, ← HBB.out]
      go_wp2_with (at_builtin; go_must (refine wpList_append_lies _ (by rfl) _ _ _ (by rfl) w.heap.size 28 i0 _ 3 32 Tryd.underlying23 hi0 hz0 hz1 hz2 rfl (by omega) (.slice va i cp) i (tkCells acc) (by rfl) (HOV.out.alloc _) ⟨_, 0, none⟩ 1 1 (Tk.cells ⟨k2, x, 0⟩) (by rfl) (by rfl) (World.news_of_block (cs := #[.int .i64 k2, .string ⟨x.toArray⟩, .int .i64 0]) (t := 28) (fr := (0, 0)) (heap_alloc_new _ _)) (by simp [Tk.cells, Value.oneCell']) (by omega) (by unfold maxLen; omega) (by omega) (by simp; omega) _ rfl ?_; intro g2 cap2 w6 hown6 hgrow6 hat6 hlt6))
      have hbA : Below V.heap.size V (V.alloc (Obj.cells #[.int .i64 k2, .string ⟨x.toArray⟩, .int .i64 0] 28)) := (Below.refl _ V).alloc (Nat.le_refl _) _
      have HB7 := Lib.hid ((HBV.out.trans (hbA.mono hzV)).grown hgrow6 (by rw [World.size_alloc]; omega) (fun j hj => by have := ownBlock_lo HOV.out j hj; omega))
      have HO7 := Lib.hid (show w6.ownsRow w.heap.size 28 3 (.slice (some ⟨g2, 0, none⟩) (i + 1) cap2) (i + 1) (tkCells (acc ++ [⟨k2, x, 0⟩])) by rw [tkCells_snoc]; exact hown6)
      clear hbA hown6 hgrow6 hat6 hlt6
      go_roundw
      case rel => exact ⟨i + 1, acc ++ [⟨k2, x, 0⟩], some ⟨g2, 0, none⟩, cap2, by omega, by omega, by go_num, rfl, HO7.out, by rw [List.length_append, HLE.out]; rfl, fun y hy => by
        rcases List.mem_append.1 hy with hy | hy
        · exact HPL.out y hy
        · rw [List.mem_singleton.1 hy]
          exact ⟨HPX.out, rfl⟩, HB7.out⟩
      case measure => simp [intOf]; omega
    · obtain ⟨wo, rfl⟩ : ∃ wo, wo = wr := ⟨_, rfl⟩
      obtain ⟨T, hTT⟩ : ∃ T, T = acc.map Tk.tok := ⟨_, rfl⟩
      have hTl : T.length = i := by rw [hTT, List.length_map]; exact HLE.out
      have hpt := tok_plain HPL.out
      rw [← hTT] at hpt
      have HTA := Lib.hid (show ToksAt wo va T by rw [hTT]; exact toks_own HO.out HLE.out)
      obtain ⟨S, hS⟩ : ∃ S, S = joinL (T.map Tok.wr) := ⟨_, rfl⟩
      have hSl : S.length ≤ 4096 := by
        have := plain_short T hpt.1
        rw [← hS, hTl] at this
        omega
      obtain ⟨M, hM⟩ : ∃ M, M = placed S.length T ++ [⟨5, [], S.length⟩] := ⟨_, rfl⟩
      have HBK := Lib.hid (show Back S T M by rw [hM, hS]; exact back_of T hpt.1)
      have HSP := Lib.hid (by
        have h := spell_any T va cp wo (HT.out.below HBE.out) HTA.out hpt.2 (by omega) (by rw [← hS]; exact hSl)
        rw [hTl, ← hS] at h
        exact h)
      have HSC := Lib.hid (fun W hW => scan_back T hpt.1 S hS M hM hSl W hW)
      obtain ⟨K, hK⟩ : ∃ K, K = M.length := ⟨_, rfl⟩
      have HK := Lib.hid hK
      have hKi : K = i + 1 := by rw [hK, HBK.out.len, hTl]
      rw [← hK] at HSC
      obtain ⟨s, hs⟩ : ∃ s, s = (⟨S.toArray⟩ : ByteArray) := ⟨_, rfl⟩
      have hsz : s.size = S.length := by rw [hs]; rfl
      rw [← hs] at HSP HSC
      have HSS := Lib.hid hs
      have HTL := Lib.hid hTl
      have hj : (¬ (i : Int) < (N : Int)) ∨ ((i : Int) < (N : Int) ∧ ¬ (i : Int) < 4) := by omega
      have HKI := Lib.hid hKi
      clear hgo hTT hpt hS hM hK hs hTl hKi
      rcases hj with hj | ⟨hj, hj2⟩
      all_goals
        go_wp2_with fail
        refine HSP.out.mono ?_; rintro e w2 ⟨rfl, hb2⟩
        have HB2 := Lib.hid (HBE.out.trans (hb2.mono hzw))
        have HTA2 := Lib.hid (HTA.out.below hb2)
        have hz2 := HB2.out.size
        clear hb2
        go_wp2_with fail
        refine (HSC.out w2 (HT.out.below HB2.out)).mono ?_; rintro e w3 ⟨⟨vb, cb, rfl, hc1, hc2, htm⟩, hb3⟩
        have HTM := Lib.hid htm
        have HTA3 := Lib.hid (HTA2.out.below hb3)
        have HB3 := Lib.hid (HB2.out.trans (hb3.mono hz2))
        have hz3 := HB3.out.size
        have HAL := Lib.hid (by
          have h := alike_any T (M.map Tk.tok) i va vb cp cb w3 HTL.out (by rw [List.length_map, HBK.out.len, HTL.out]) (by omega) HTA3.out HTM.out (fun m h h' => by
            have hmM : m < M.length := by simpa using h'
            have h1 := HBK.out.same m h hmM
            simp only [List.getElem_map]
            refine ⟨h1.1, ?_⟩
            show (⟨M[m].text.toArray⟩ : ByteArray) = T[m].str
            rw [h1.2]) (fun h => by
            have h1 := HBK.out.last' HTL.out (by simpa using h)
            simp only [List.getElem_map]
            rw [h1]
            exact ⟨rfl, rfl⟩)
          rw [← HKI.out] at h
          exact h)
        unfold maxLen at hc2
        clear htm hb3
        go_wp2_with fail
        refine HAL.out.mono ?_; rintro e w4 ⟨rfl, hb4⟩
        have HTM4 := Lib.hid (HTM.out.below hb4)
        have HB4 := Lib.hid (HB3.out.trans (hb4.mono hz3))
        have hz4 := HB4.out.size
        have hKi := HKI.out
        clear hb4 hc1 hc2
        have hK5 : K ≤ 5 := by omega
        clear hKi
        go_wp2_with fail
        go_loopw [11, 12] (fun v11 v12 wq => ∃ (j : Nat) (L : Int), j ≤ K ∧ v12 = .int .i64 (j : Int) ∧ v11 = .int .i64 L ∧ (∀ h : j < M.length, L < (M[j].pos : Int)) ∧ Below w4.heap.size w4 wq) (fun _ v12 _ => K - (intOf v12).toNat)
        case atStart => exact ⟨0, -1, Nat.zero_le _, rfl, rfl, fun h => by omega, Below.refl _ _⟩
        case round =>
          obtain ⟨j, L, hjK, rfl, rfl, hL, hbq⟩ := hrel
          have HLQ := Lib.hid hL
          have HBQ := Lib.hid hbq
          have j0 : (0 : Int) ≤ (j : Int) := by omega
          clear hL hbq
          by_cases hjlt : j < K
          · have j1 : (j : Int) < (K : Int) := by omega
            have hjM : j < M.length := by rw [← HK.out]; exact hjlt
            obtain ⟨b, o, rfl, hcell⟩ := toks_cells (HTM4.out.below HBQ.out) (by omega)
            obtain ⟨d0, d1, d2⟩ := hcell j hjM
            have hle := HBK.out.le j hjM
            have hth := HBK.out.there j hjM
            have hkk := HBK.out.kinds j hjM
            have hLj := HLQ.out hjM
            obtain ⟨⟨k, x, p⟩, ht⟩ : ∃ t, t = M[j] := ⟨_, rfl⟩
            have HNX := Lib.hid (show ∀ h : j + 1 < M.length, (p : Int) < (M[j + 1].pos : Int) from fun h => by
              have h1 := HBK.out.less j h
              rw [← ht] at h1
              simp only at h1
              omega)
            rw [← ht] at d0 d1 d2 hle hth hkk hLj
            simp only at d0 d1 d2 hle hth hkk hLj
            obtain ⟨y, hy⟩ : ∃ y, y = (⟨x.toArray⟩ : ByteArray) := ⟨_, rfl⟩
            have hyz : y.size = x.length := by rw [hy]; rfl
            rw [← hy] at d1
            have HEX := Lib.hid (show (k = 1 ∨ k = 2 ∨ k = 4) → p + y.size ≤ s.size ∧ s.extract p (p + y.size) = y from fun h => by
              obtain ⟨h1, h2⟩ := hth h
              rw [hyz, hsz]
              refine ⟨h1, ?_⟩
              rw [HSS.out, hy]
              exact text_there h2)
            have p0 : ¬ (p : Int) < 0 := by omega
            have p1 : ¬ (s.size : Int) < (p : Int) := by omega
            have p2 : ¬ (p : Int) ≤ L := by omega
            have hp : p ≤ 4096 := by omega
            obtain ⟨V, hV⟩ : ∃ V, V = wr.alloc (Obj.cells #[.int .i64 k, .string y, .int .i64 (p : Int)] 28) := ⟨_, rfl⟩
            have HCV := Lib.hid (show Cells3 V wr.heap.size (.int .i64 k) (.string y) (.int .i64 (p : Int)) by rw [hV]; exact Cells3.made _ _ _ _ _)
            have v0 := HCV.out.c0
            have v1 := HCV.out.c1
            have v2 := HCV.out.c2
            have HBV := Lib.hid (show Below w4.heap.size w4 V by rw [hV]; exact HBQ.out.alloc HBQ.out.size _)
            have HV := Lib.hid hV
            clear hcell ht hy hyz hth hle hLj hV
            go_upto_region 16 with fail
            rw [← HV.out]
            clear d0 d1 d2
            go_wp2_with fail
            rcases hkk with rfl | rfl | rfl | rfl | rfl
            · obtain ⟨e1, e2⟩ := HEX.out (by omega)
              have q5 : (p : Int) ≤ (p : Int) + (y.size : Int) := by omega
              have q6 : (p : Int) + (y.size : Int) ≤ (s.size : Int) := by omega
              have q2 : (0 : Int) ≤ (p : Int) + (y.size : Int) := by omega
              have q4 : decide ((s.size : Int) < (p : Int) + (y.size : Int)) = false := decide_eq_false (by omega)
              have p0' : (0 : Int) ≤ (p : Int) := by omega
              have q1 : IntKind.i64.wrap ((p : Int) + (y.size : Int)) = (p : Int) + (y.size : Int) := IntWalk.i64_in _ (by omega)
              have q3 : ((p : Int) + (y.size : Int)).toNat = p + y.size := by omega
              clear e1 hp p0 p1 p2 hsz hSl hm
              go_quiet (fail)
              clear q1 q2 q3 q4 q5 q6
              go_wp2_with fail
              go_roundw
              case rel => exact ⟨j + 1, (p : Int), by omega, by go_num, rfl, HNX.out, below_drewN HBV.out _⟩
              case measure => simp [intOf]; omega
            · obtain ⟨e1, e2⟩ := HEX.out (by omega)
              have q5 : (p : Int) ≤ (p : Int) + (y.size : Int) := by omega
              have q6 : (p : Int) + (y.size : Int) ≤ (s.size : Int) := by omega
              have q2 : (0 : Int) ≤ (p : Int) + (y.size : Int) := by omega
              have q4 : decide ((s.size : Int) < (p : Int) + (y.size : Int)) = false := decide_eq_false (by omega)
              have p0' : (0 : Int) ≤ (p : Int) := by omega
              have q1 : IntKind.i64.wrap ((p : Int) + (y.size : Int)) = (p : Int) + (y.size : Int) := IntWalk.i64_in _ (by omega)
              have q3 : ((p : Int) + (y.size : Int)).toNat = p + y.size := by omega
              clear e1 hp p0 p1 p2 hsz hSl hm
              go_quiet (fail)
              clear q1 q2 q3 q4 q5 q6
              go_wp2_with fail
              go_roundw
              case rel => exact ⟨j + 1, (p : Int), by omega, by go_num, rfl, HNX.out, below_drewN HBV.out _⟩
              case measure => simp [intOf]; omega
            · go_quiet (fail)
              go_wp2_with fail
              go_roundw
              case rel => exact ⟨j + 1, (p : Int), by omega, by go_num, rfl, HNX.out, below_drewN HBV.out _⟩
              case measure => simp [intOf]; omega
            · obtain ⟨e1, e2⟩ := HEX.out (by omega)
              have q5 : (p : Int) ≤ (p : Int) + (y.size : Int) := by omega
              have q6 : (p : Int) + (y.size : Int) ≤ (s.size : Int) := by omega
              have q2 : (0 : Int) ≤ (p : Int) + (y.size : Int) := by omega
              have q4 : decide ((s.size : Int) < (p : Int) + (y.size : Int)) = false := decide_eq_false (by omega)
              have p0' : (0 : Int) ≤ (p : Int) := by omega
              have q1 : IntKind.i64.wrap ((p : Int) + (y.size : Int)) = (p : Int) + (y.size : Int) := IntWalk.i64_in _ (by omega)
              have q3 : ((p : Int) + (y.size : Int)).toNat = p + y.size := by omega
              clear e1 hp p0 p1 p2 hsz hSl hm
              go_quiet (fail)
              clear q1 q2 q3 q4 q5 q6
              go_wp2_with fail
              go_roundw
              case rel => exact ⟨j + 1, (p : Int), by omega, by go_num, rfl, HNX.out, below_drewN HBV.out _⟩
              case measure => simp [intOf]; omega
            · go_quiet (fail)
              go_wp2_with fail
              go_roundw
              case rel => exact ⟨j + 1, (p : Int), by omega, by go_num, rfl, HNX.out, below_drewN HBV.out _⟩
              case measure => simp [intOf]; omega
          · have j1 : ¬ (j : Int) < (K : Int) := by omega
            have hKi := HKI.out
            have hiM : i < M.length := by rw [← HK.out]; omega
            obtain ⟨b, o, rfl, hcell⟩ := toks_cells (HTM4.out.below HBQ.out) (by omega)
            obtain ⟨_, _, d2⟩ := hcell i hiM
            rw [HBK.out.last' HTL.out hiM] at d2
            simp only at d2
            rw [← hsz] at d2
            have e1 : (K : Int) - 1 = (i : Int) := by omega
            have e2 : (i : Int) < (K : Int) := by omega
            clear hKi hcell
            have HBF := Lib.hid (HB4.out.trans (HBQ.out.mono hz4))
            go_wp2_with fail
            go_ret
            exact ⟨by simp, HBF.out⟩
end Go.Proofs.YtaipljdpkgdheaaDoor
