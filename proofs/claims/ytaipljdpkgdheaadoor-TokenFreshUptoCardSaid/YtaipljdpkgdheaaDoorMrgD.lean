/- Texts put together: SpellAll, SpellProg, Hand. -/
import Derived.Lib.AppendStr
import Derived.Deep.DeepCutAuto
import Derived.Test.YtaipljdpkgdheaaDoorSpell
import Derived.Deep.CutRange
import Derived.BigQuiet
import Derived.Laws.AppendOwnNone
import Derived.Maps.AppendAt
import Derived.Deep.DeepAppendWide
import Derived.Deep.LoopGhost
import Derived.Test.YtaipljdpkgdheaaDoorMrgA
import Derived.Test.YtaipljdpkgdheaaDoorMrgB
import Derived.Test.YtaipljdpkgdheaaDoorMrgC
/- What Spell answers, whatever the tokens; the reference's Spell. -/
namespace Go.Proofs.YtaipljdpkgdheaaDoor
open Go Go.RowKit

def canAt (l : List Tok) (i : Nat) (h : i < l.length) : Bool := canB l[i].kind l[i].str.data.toList ((i : Int) == (l.length : Int) - 1)
def allCan (l : List Tok) : Prop := ∀ i (h : i < l.length), canAt l i h = true
def live (l : List Tok) : List Tok := l.takeWhile (fun t => t.kind != 5)
def liveJ (l : List Tok) : List UInt8 := joinL ((live l).map Tok.wr)
/-- A text and an error: what Spell answers. -/
structure SpellTo (l : List Tok) (s : List UInt8) (e : Int) : Prop where
  bad : ¬ allCan l → s = [] ∧ e = 1
  good : allCan l → (liveJ l).length ≤ 4096 → s = liveJ l ∧ e = 0
  long : allCan l → ¬ (liveJ l).length ≤ 4096 → s = [] ∧ e = 2
theorem SpellTo.one {l : List Tok} {s s' : List UInt8} {e e' : Int} (h : SpellTo l s e) (h' : SpellTo l s' e') : s = s' ∧ e = e' := by
  by_cases ha : allCan l
  · by_cases hl : (liveJ l).length ≤ 4096
    · exact ⟨(h.good ha hl).1.trans (h'.good ha hl).1.symm, (h.good ha hl).2.trans (h'.good ha hl).2.symm⟩
    · exact ⟨(h.long ha hl).1.trans (h'.long ha hl).1.symm, (h.long ha hl).2.trans (h'.long ha hl).2.symm⟩
  · exact ⟨(h.bad ha).1.trans (h'.bad ha).1.symm, (h.bad ha).2.trans (h'.bad ha).2.symm⟩
theorem SpellTo.ofBad {l : List Tok} {i : Nat} (h : i < l.length) (hc : canAt l i h = false) : SpellTo l [] 1 :=
  ⟨fun _ => ⟨rfl, rfl⟩, fun ha _ => absurd (ha i h) (by rw [hc]; simp), fun ha _ => absurd (ha i h) (by rw [hc]; simp)⟩
theorem SpellTo.ofLong {l : List Tok} (ha : allCan l) (h : 4096 < (liveJ l).length) : SpellTo l [] 2 :=
  ⟨fun hb => absurd ha hb, fun _ hl => by omega, fun _ _ => ⟨rfl, rfl⟩⟩
theorem SpellTo.ofGood {l : List Tok} (ha : allCan l) (h : (liveJ l).length ≤ 4096) : SpellTo l (liveJ l) 0 :=
  ⟨fun hb => absurd ha hb, fun _ _ => ⟨rfl, rfl⟩, fun _ hl => absurd h hl⟩
theorem live_pre (l : List Tok) : live l <+: l := List.takeWhile_prefix _
theorem live_lt {l : List Tok} {j : Nat} (h : j < (live l).length) : ∃ h' : j < l.length, l[j].kind ≠ 5 ∧ (live l)[j] = l[j] := by
  have hp := live_pre l
  have h' : j < l.length := Nat.lt_of_lt_of_le h hp.length_le
  have he : (live l)[j] = l[j] := hp.getElem h
  refine ⟨h', ?_, he⟩
  have hm : (live l)[j] ∈ live l := List.getElem_mem h
  have := (List.all_takeWhile (p := fun t : Tok => t.kind != 5) (l := l) |> List.all_eq_true.1) _ hm
  rw [he] at this
  simpa using this
theorem live_end : ∀ {l : List Tok} (h : (live l).length < l.length), l[(live l).length].kind = 5
  | [], h => by simp at h
  | a :: r, h => by
    unfold live at h ⊢
    cases hk : (a.kind != 5)
    · simp only [List.takeWhile_cons, hk] at h ⊢
      simpa using hk
    · simp only [List.takeWhile_cons, hk, if_true, List.length_cons] at h ⊢
      have ih := live_end (l := r) (by unfold live; omega)
      unfold live at ih
      simpa using ih
theorem live_at {l : List Tok} {j : Nat} (hj : j ≤ (live l).length) (h : j < l.length) : (l[j].kind = 5 → j = (live l).length) ∧ (l[j].kind ≠ 5 → j < (live l).length) := by
  constructor
  · intro hk
    rcases Nat.lt_or_ge j (live l).length with h1 | h1
    · obtain ⟨_, h2, _⟩ := live_lt h1
      exact absurd hk h2
    · omega
  · intro hk
    rcases Nat.lt_or_ge j (live l).length with h1 | h1
    · exact h1
    · have e : j = (live l).length := by omega
      subst e
      exact absurd (live_end h) hk
theorem wr_len (k : Int) (s : List UInt8) : s.length ≤ (writtenB k s).length := by
  unfold writtenB
  split
  · have h : s.length ≤ (s.flatMap escB).length := by
      induction s with
      | nil => simp
      | cons a r ih =>
        have h1 : 1 ≤ (escB a).length := by
          unfold escB
          repeat' split
          all_goals simp
        simp only [List.flatMap_cons, List.length_append, List.length_cons]
        omega
    simp only [List.length_cons, List.length_append]
    omega
  · exact Nat.le_refl _
theorem own_form8 {w : World} {B n : Nat} {v : Value} {xs : List Value} (h : w.ownsRow B 5 1 v n xs) : ∃ va cp, v = .slice va n cp := by
  rcases h.2 with ⟨e, h0⟩ | ⟨g, cap', cur, e, _⟩
  · exact ⟨none, 0, by rw [e, h0]⟩
  · exact ⟨_, _, e⟩
theorem can_str {k : Int} {l : List UInt8} {b : Bool} (h : canB k l b = true) (h3 : k = 3) : l.length ≤ 256 := by
  subst h3
  have h' : decide ((l.length : Int) ≤ 256) = true := h
  rw [decide_eq_true_iff] at h'
  omega
theorem toks_cell {w : World} {ao : Option Addr} {l : List Tok} (h : ToksAt w ao l) (i : Nat) (hi : i < l.length) : ∃ b o, ao = some ⟨b, o, none⟩ ∧ w.cell? ⟨b, o + i * 3, none⟩ = some (.int .i64 l[i].kind) ∧ w.cell? ⟨b, o + i * 3 + 1, none⟩ = some (.string l[i].str) ∧ w.cell? ⟨b, o + i * 3 + 2, none⟩ = some (.int .i64 l[i].pos) := by
  rcases h with h | ⟨b, o, e, h⟩
  · rw [h] at hi; simp at hi
  · exact ⟨b, o, e, h i hi⟩

set_option maxHeartbeats 8000000 in
set_option maxRecDepth 100000 in
theorem refSpell_any (l : List Tok) (ao : Option Addr) (cap : Nat) (w : World) (hl : ToksAt w ao l) (hn : l.length ≤ 4398046511000) (hs : ∀ t ∈ l, t.str.size ≤ 140737488351232) :
    Calls Tryd.prog 31 #[.slice ao l.length cap] w fun e w' => (∃ s er, e = .returned (.tuple #[.string ⟨s.toArray⟩, .int .i64 er]) ∧ SpellTo l s er) ∧ Below w.heap.size w w' := by
  obtain ⟨i0, hi0, iz0, iz1, iz2⟩ := info_parts Tryd.infoU8
  have HL := Lib.hid hl
  have HS := Lib.hid hs
  obtain ⟨N, hN⟩ : ∃ N, N = l.length := ⟨_, rfl⟩
  rw [← hN] at hn ⊢
  have HN := Lib.hid hN
  clear hl hs hN
  go_enter Tryd.func31, Tryd.ntmps31
  go_wp2_with fail
  go_loopg [4] (N + 1) (fun g v wr => ∃ i : Nat, i ≤ N ∧ v = .int .i64 (i : Int) ∧ (∀ j (h : j < l.length), j < i → canAt l j h = true) ∧ Below w.heap.size w wr ∧ N - i < g)
  case atStart => exact ⟨0, Nat.zero_le _, rfl, fun j _ hj => by omega, Below.refl _ _, by omega⟩
  case round =>
    obtain ⟨i, hi, rfl, hall, hbel, hg⟩ := hrel
    obtain ⟨g, rfl⟩ : ∃ g, gk = g + 1 := ⟨gk - 1, by omega⟩
    have HALL := Lib.hid hall
    have HBE := Lib.hid hbel
    clear hall hbel
    have i0' : (0 : Int) ≤ (i : Int) := by omega
    by_cases hlt : i < N
    · have i1 : (i : Int) < (N : Int) := by omega
      have hil : i < l.length := by rw [← HN.out]; exact hlt
      obtain ⟨b, o, rfl, d0, d1, d2⟩ := toks_cell (HL.out.below HBE.out) i hil
      have hsz := HS.out l[i] (List.getElem_mem hil)
      obtain ⟨⟨k, s, a⟩, ht⟩ : ∃ t, t = l[i] := ⟨_, rfl⟩
      have HAT := Lib.hid (show canAt l i hil = canB k s.data.toList ((i : Int) == (N : Int) - 1) by unfold canAt; rw [← ht, HN.out])
      rw [← ht] at d0 d1 d2 hsz
      simp only at d0 d1 d2 hsz
      have HC := Lib.hid (refCan_any k a s ((i : Int) == (N : Int) - 1) wr (by omega))
      clear ht
      cases hc : canB k s.data.toList ((i : Int) == (N : Int) - 1)
      · rw [hc] at HC
        have HSP := Lib.hid (SpellTo.ofBad hil (HAT.out.trans hc))
        clear hc
        go_wp2_with ((go_at_call 46; (with_reducible refine HC.out.mono ?_); rintro e w2 ⟨rfl, hb2⟩; have HB2 := Lib.hid hb2; clear hb2))
        go_ret2
        exact ⟨⟨[], 1, rfl, HSP.out⟩, HBE.out.trans (HB2.out.mono HBE.out.size)⟩
      · rw [hc] at HC
        have HCC := Lib.hid (HAT.out.trans hc)
        clear hc
        go_wp2_with ((go_at_call 46; (with_reducible refine HC.out.mono ?_); rintro e w2 ⟨rfl, hb2⟩; have HB2 := Lib.hid hb2; clear hb2))
        go_roundg g
        case rel => exact ⟨i + 1, by omega, by go_num, fun j h hj => (by
            by_cases hji : j < i
            · exact HALL.out j h hji
            · obtain rfl : j = i := by omega
              exact HCC.out), HBE.out.trans (HB2.out.mono HBE.out.size), by omega⟩
        case measure => omega
    · have i1 : ¬ (i : Int) < (N : Int) := by omega
      have HAC := Lib.hid (show allCan l from fun j h => HALL.out j h (by have := HN.out; omega))
      obtain ⟨L, hL⟩ : ∃ L, L = (live l).map Tok.wr := ⟨_, rfl⟩
      have HLL := Lib.hid hL
      have hLn : L.length = (live l).length := by rw [hL, List.length_map]
      have hLN : L.length ≤ N := by rw [hLn, HN.out]; exact (live_pre l).length_le
      have HJ := Lib.hid (show liveJ l = joinL L by rw [hL]; rfl)
      obtain ⟨wA, hwA⟩ : ∃ wA, wA = wr := ⟨_, rfl⟩
      subst hwA
      clear hL
      go_wp2_with fail
      go_loopg [5, 6] (N + 1) (fun g v5 v6 wy => ∃ (j : Nat) (va : Option Addr) (cp : Nat), j ≤ L.length ∧ v6 = .int .i64 (j : Int) ∧ v5 = .slice va (joinL (L.take j)).length cp ∧ wy.ownsRow w.heap.size 5 1 (.slice va (joinL (L.take j)).length cp) (joinL (L.take j)).length (bytesC (joinL (L.take j))) ∧ (joinL (L.take j)).length ≤ 5200 ∧ Below w.heap.size w wy ∧ N - j < g)
      case atStart => exact ⟨0, none, 0, Nat.zero_le _, rfl, rfl, World.ownsRow_nil _ _ _ _, by simp [joinL], HBE.out, by omega⟩
      case round =>
        obtain ⟨j, va, cp, hj, rfl, rfl, hown, hlen, hbel, hg2⟩ := hrel
        obtain ⟨g2, rfl⟩ : ∃ g, gk = g + 1 := ⟨gk - 1, by omega⟩
        obtain ⟨J, hJ2⟩ : ∃ J, J = joinL (L.take j) := ⟨_, rfl⟩
        rw [← hJ2] at hown hlen ⊢
        obtain ⟨n, hn2⟩ : ∃ n, n = J.length := ⟨_, rfl⟩
        rw [← hn2] at hown hlen ⊢
        have HN2 := Lib.hid hn2
        have HJ2 := Lib.hid hJ2
        have HO := Lib.hid hown
        have HBY := Lib.hid hbel
        have hzy := hbel.size
        clear hown hbel hn2 hJ2
        have j0 : (0 : Int) ≤ (j : Int) := by omega
        by_cases hend : j = L.length
        · have HJL := Lib.hid (show J = liveJ l by rw [HJ2.out, HJ.out, hend, List.take_length])
          have hway : (∃ (hil : j < l.length), l[j].kind = 5) ∨ j = N := by
            rcases Nat.lt_or_ge j N with h1 | h1
            · have h2 : j < l.length := by have := HN.out; omega
              left
              refine ⟨h2, ?_⟩
              have e : j = (live l).length := by omega
              subst e
              exact live_end h2
            · right; omega
          rcases hway with ⟨hil, hk5⟩ | hjN
          · obtain ⟨b, o, rfl, c0, c1, c2⟩ := toks_cell HL.out j hil
            have hbw := World.block_lt_of_cell? w _ c0
            rw [hk5] at c0
            have d0 := (HBY.out.cell (p := ⟨b, o + j * 3, none⟩) hbw).trans c0
            have j1 : (j : Int) < (N : Int) := by have := HN.out; omega
            clear c0 c1 c2 hk5 hend
            by_cases hov : 4096 < n
            · have HE := Lib.hid (SpellTo.ofLong HAC.out (by rw [← HJL.out, ← HN2.out]; exact hov))
              have hov2 : (4096 : Int) < (n : Int) := by omega
              go_wp2_with fail
              go_ret2
              exact ⟨⟨[], 2, rfl, HE.out⟩, HBY.out⟩
            · have HE := Lib.hid (SpellTo.ofGood HAC.out (by rw [← HJL.out, ← HN2.out]; omega))
              have hov2 : ¬ (4096 : Int) < (n : Int) := by omega
              have hcv := HO.out
              rw [HN2.out] at hcv
              have hcv2 := conv_owned hcv
              rw [← HN2.out] at hcv2
              clear hcv
              go_wp2_with fail
              go_ret2
              exact ⟨⟨J, 0, rfl, by rw [HJL.out]; exact HE.out⟩, HBY.out⟩
          · have j1 : ¬ (j : Int) < (N : Int) := by omega
            clear hend
            by_cases hov : 4096 < n
            · have HE := Lib.hid (SpellTo.ofLong HAC.out (by rw [← HJL.out, ← HN2.out]; exact hov))
              have hov2 : (4096 : Int) < (n : Int) := by omega
              go_wp2_with fail
              go_ret2
              exact ⟨⟨[], 2, rfl, HE.out⟩, HBY.out⟩
            · have HE := Lib.hid (SpellTo.ofGood HAC.out (by rw [← HJL.out, ← HN2.out]; omega))
              have hov2 : ¬ (4096 : Int) < (n : Int) := by omega
              have hcv := HO.out
              rw [HN2.out] at hcv
              have hcv2 := conv_owned hcv
              rw [← HN2.out] at hcv2
              clear hcv
              go_wp2_with fail
              go_ret2
              exact ⟨⟨J, 0, rfl, by rw [HJL.out]; exact HE.out⟩, HBY.out⟩
        · have hjl : j < L.length := by omega
          obtain ⟨hil, hk5, hle⟩ := live_lt (l := l) (j := j) (by omega)
          have j1 : (j : Int) < (N : Int) := by have := HN.out; omega
          obtain ⟨b, o, rfl, c0, c1, c2⟩ := toks_cell HL.out j hil
          have hbw := World.block_lt_of_cell? w _ c0
          have hsz := HS.out l[j] (List.getElem_mem hil)
          have hcan := HAC.out j hil
          have hLj : L[j] = l[j].wr := by
            simp only [HLL.out, List.getElem_map]
            rw [hle]
          unfold canAt at hcan
          obtain ⟨⟨k, s, a⟩, ht⟩ : ∃ t, t = l[j] := ⟨_, rfl⟩
          rw [← ht] at c0 c1 c2 hsz hcan hk5 hLj
          simp only at c0 c1 c2 hsz hcan hk5
          have hst : k = 3 → s.size ≤ 256 := fun h => by have := can_str hcan h; rw [len_at] at this; exact this
          have hne : (k == 5) = false := beq_eq_false_iff_ne.2 hk5
          obtain ⟨x, hx⟩ : ∃ x, x = writtenB k s.data.toList := ⟨_, rfl⟩
          have hstep := front_step L j hjl
          rw [hLj] at hstep
          have HST := Lib.hid (show joinL (L.take (j + 1)) = frontL j L ++ x by rw [hstep, hx]; rfl)
          have HTOT := Lib.hid (show (frontL j L).length + x.length ≤ (liveJ l).length by
            rw [← List.length_append, ← HST.out, HJ.out]
            exact joinL_take_le L (j + 1))
          have HXL := Lib.hid (show s.size ≤ x.length by rw [hx, ← len_at]; exact wr_len _ _)
          have HX := Lib.hid hx
          have HC0 := Lib.hid c0
          have HC1 := Lib.hid c1
          have d0 := (HBY.out.cell (p := ⟨b, o + j * 3, none⟩) hbw).trans c0
          clear hx hstep hLj hcan ht c0 c1 c2 hle hk5 hend
          by_cases hj0 : j = 0
          have k0 : ¬ (0 : Int) < (j : Int) := by omega
          have HV1 := Lib.hid (show J = frontL j L by rw [HJ2.out, hj0]; rfl)
          have HOX := HO
          have HBX := HBY
          have HNX := HN2
          have hnxl : n ≤ 5201 := by omega
          clear HJ2
          obtain ⟨V1, rfl⟩ : ∃ V1, V1 = J := ⟨_, rfl⟩
          obtain ⟨nx, rfl⟩ : ∃ nx, nx = n := ⟨_, rfl⟩
          obtain ⟨vx, rfl⟩ : ∃ vx, vx = va := ⟨_, rfl⟩
          obtain ⟨cx, rfl⟩ : ∃ cx, cx = cp := ⟨_, rfl⟩
          obtain ⟨X, rfl⟩ : ∃ X, X = wr := ⟨_, rfl⟩
          have g0 := d0
          have g1 := (HBX.out.cell (p := ⟨b, o + j * 3 + 1, none⟩) hbw).trans HC1.out
          clear HO HBY HN2 HJ hj0
          rotate_left
          have k0 : (0 : Int) < (j : Int) := by omega
          have hV1 : J ++ [32] = frontL j L := by rw [HJ2.out, frontL, if_neg hj0]
          clear HJ2
          go_upto_region 13 with (at_builtin; go_must (refine wpList_append_lies _ (by rfl) _ _ _ (by rfl) w.heap.size 5 i0 _ 1 1 Tryd.underlying22 hi0 iz0 iz1 iz2 rfl (by omega) (.slice va n cp) n (bytesC J) (by rfl) (HO.out.alloc _) ⟨_, 0, none⟩ 1 1 [.int .u8 32] (by rfl) (by rfl) (World.news_of_block (cs := #[.int .u8 32]) (t := 5) (fr := (0, 0)) (heap_alloc_new _ _)) (by simp [Value.oneCell']) (by omega) (by unfold maxLen; omega) (by omega) (by simp; omega) _ rfl ?_; intro gx cx X hownX hgrowX hatX hltX))
          obtain ⟨V1, hVV⟩ : ∃ V1, V1 = J ++ [32] := ⟨_, rfl⟩
          obtain ⟨nx, hnx⟩ : ∃ nx, nx = n + 1 := ⟨_, rfl⟩
          obtain ⟨vx, hvx⟩ : ∃ vx, vx = some (⟨gx, 0, none⟩ : Addr) := ⟨_, rfl⟩
          have HOX := Lib.hid (show X.ownsRow w.heap.size 5 1 (.slice vx nx cx) nx (bytesC V1) by rw [hvx, hnx, hVV, bytesC_append]; exact hownX)
          have HBX := Lib.hid (show Below w.heap.size w X from (HBY.out.trans (((Below.refl _ wr).alloc (Nat.le_refl _) (Obj.cells #[.int .u8 32] 5)).mono hzy)).grown hgrowX (by simp; omega) (ownBlock_lo HO.out))
          have HV1 := Lib.hid (show V1 = frontL j L by rw [hVV]; exact hV1)
          have HNX := Lib.hid (show nx = V1.length by rw [hnx, hVV, List.length_append, HN2.out]; rfl)
          have hnxl : nx ≤ 5201 := by omega
          have g0 : X.cell? ⟨b, o + j * 3, none⟩ = some (.int .i64 k) := (HBX.out.cell (p := ⟨b, o + j * 3, none⟩) hbw).trans HC0.out
          have g1 : X.cell? ⟨b, o + j * 3 + 1, none⟩ = some (.string s) := (HBX.out.cell (p := ⟨b, o + j * 3 + 1, none⟩) hbw).trans HC1.out
          rw [← hvx, ← hnx]
          clear hownX hgrowX hatX hltX hvx hnx hVV hV1
          all_goals
            have hzX := HBX.out.size
            by_cases hov : 4096 < nx + s.size
            · have HE := Lib.hid (SpellTo.ofLong HAC.out (by have h1 := HTOT.out; rw [← HV1.out, ← HNX.out] at h1; have h2 := HXL.out; omega))
              have hov2 : (4096 : Int) < (nx : Int) + (s.size : Int) := by omega
              go_wp2_with fail
              go_ret2
              exact ⟨⟨[], 2, rfl, HE.out⟩, HBX.out⟩
            · have hov2 : ¬ (4096 : Int) < (nx : Int) + (s.size : Int) := by omega
              by_cases hk3 : k = 3
              · have e3 : (k == 3) = true := by rw [hk3]; rfl
                have hs256 := hst hk3
                have HY0 := Lib.hid (show x = 34 :: (s.data.toList.flatMap escB ++ [34]) by rw [HX.out, hk3]; rfl)
                have HQ := Lib.hid (refQuoted_any s X hs256)
                clear hk3 hst
                go_wp2_with fail
                refine HQ.out.mono ?_; rintro e w3 ⟨rfl, hb3⟩
                obtain ⟨y, hy⟩ : ∃ y : ByteArray, y = ⟨(34 :: (s.data.toList.flatMap escB ++ [34])).toArray⟩ := ⟨_, rfl⟩
                have HY := Lib.hid (show y.data.toList = x by rw [hy, HY0.out])
                have hyl : y.size = x.length := by rw [← HY.out, len_at]
                have hyb : y.size ≤ 1026 := by
                  rw [hyl, HY0.out, List.length_cons, List.length_append, List.length_singleton]
                  have h := escs_len s.data.toList
                  rw [len_at] at h
                  omega
                rw [← hy]
                have HO3 := Lib.hid (owns_below HOX.out hb3)
                have HB3 := Lib.hid (HBX.out.trans (hb3.mono hzX))
                have hz3 := HB3.out.size
                clear hb3 hy
                go_wp2_with (at_builtin; go_must (refine Lib.wpList_append_own_string _ (by rfl) _ _ _ _ (by rfl) w.heap.size 5 i0 Tryd.underlying22 Tryd.underlying9 hi0 iz0 iz1 iz2 (.slice vx nx cx) nx (bytesC V1) (by rfl) HO3.out y (by rfl) (by unfold maxLen; omega) (by omega) (by omega) ?_; intro v7 w7 hown7 hgrow7 hnil7))
                obtain ⟨vd, ce, rfl⟩ := own_form8 hown7
                have HV2 := Lib.hid (show joinL (L.take (j + 1)) = V1 ++ x by rw [HST.out, HV1.out])
                have HO7 := Lib.hid (show w7.ownsRow w.heap.size 5 1 (.slice vd (nx + y.size) ce) (nx + y.size) (bytesC (V1 ++ x)) by rw [bytesC_append, ← HY.out]; exact hown7)
                have HB7 := Lib.hid (HB3.out.grown hgrow7 (by omega) (ownBlock_lo HO3.out))
                have HN7 := Lib.hid (show nx + y.size = (V1 ++ x).length by rw [List.length_append, HNX.out, hyl])
                clear hown7 hgrow7 hnil7
                go_wp2_with fail
                go_roundg g2
                case rel => exact ⟨j + 1, vd, ce, by omega, by go_num, by rw [HV2.out, ← HN7.out], by rw [HV2.out, ← HN7.out]; exact HO7.out, by rw [HV2.out, ← HN7.out]; omega, HB7.out, by omega⟩
                case measure => omega
              · have e3 : (k == 3) = false := beq_eq_false_iff_ne.2 hk3
                have HY0 := Lib.hid (show x = s.data.toList by rw [HX.out]; unfold writtenB; rw [if_neg hk3])
                clear hk3 hst
                go_wp2_with (at_builtin; go_must (refine Lib.wpList_append_own_string _ (by rfl) _ _ _ _ (by rfl) w.heap.size 5 i0 Tryd.underlying22 Tryd.underlying9 hi0 iz0 iz1 iz2 (.slice vx nx cx) nx (bytesC V1) (by rfl) HOX.out s (by rfl) (by unfold maxLen; omega) (by omega) (by omega) ?_; intro v7 w7 hown7 hgrow7 hnil7))
                obtain ⟨vd, ce, rfl⟩ := own_form8 hown7
                have HV2 := Lib.hid (show joinL (L.take (j + 1)) = V1 ++ x by rw [HST.out, HV1.out])
                have HO7 := Lib.hid (show w7.ownsRow w.heap.size 5 1 (.slice vd (nx + s.size) ce) (nx + s.size) (bytesC (V1 ++ x)) by rw [bytesC_append, HY0.out]; exact hown7)
                have HB7 := Lib.hid (HBX.out.grown hgrow7 (by omega) (ownBlock_lo HOX.out))
                have HN7 := Lib.hid (show nx + s.size = (V1 ++ x).length by rw [List.length_append, HNX.out, HY0.out, len_at])
                clear hown7 hgrow7 hnil7
                go_wp2_with fail
                go_roundg g2
                case rel => exact ⟨j + 1, vd, ce, by omega, by go_num, by rw [HV2.out, ← HN7.out], by rw [HV2.out, ← HN7.out]; exact HO7.out, by rw [HV2.out, ← HN7.out]; omega, HB7.out, by omega⟩
                case measure => omega
end Go.Proofs.YtaipljdpkgdheaaDoor
/- Package token: Spell, whatever the tokens. -/
namespace Go.Proofs.YtaipljdpkgdheaaDoor
open Go Go.RowKit

theorem signR_le (l : List UInt8) : signR l ≤ 2 := by
  cases l with
  | nil => exact Nat.zero_le _
  | cons b r =>
    unfold signR
    repeat' split
    all_goals omega
theorem may_len {k : Int} {l : List UInt8} (h : mayB k l = true) : l.length ≤ 256 := by
  unfold mayB at h
  split at h
  · cases l with
    | nil => simp
    | cons b r =>
      unfold wordTB at h
      simp only [Bool.and_eq_true, decide_eq_true_eq] at h
      have := h.1.1
      omega
  split at h
  · by_cases h1 : l.length ≤ 19
    · omega
    · rw [num_long h1] at h; cases h
  split at h
  · rw [decide_eq_true_eq] at h; omega
  split at h
  · rw [Bool.and_eq_true, beq_iff_eq] at h
    have := signR_le l
    omega
  split at h
  · rw [beq_iff_eq] at h
    rw [h]; simp
  · cases h
set_option maxHeartbeats 8000000 in
set_option maxRecDepth 100000 in
theorem mayBe_all (k a : Int) (s : ByteArray) (w : World) (hT : Tabs w) (hm : s.size ≤ 140737488355328) :
    Calls Tryd.prog 22 #[.agg #[.int .i64 k, .string s, .int .i64 a]] w fun e w' => e = .returned (.bool (mayB k s.data.toList)) ∧ Below w.heap.size w w' := by
  by_cases hq : k = 4 ∧ s.size = 0
  · obtain ⟨rfl, h0⟩ := hq
    obtain ⟨W1, hW1⟩ : ∃ W1, W1 = w.alloc (Obj.cells #[.int .i64 4, .string s, .int .i64 a] 28) := ⟨_, rfl⟩
    have HB1 := Lib.hid (show Below w.heap.size w W1 by rw [hW1]; exact (Below.refl _ _).alloc (Nat.le_refl _) _)
    have hc := show Cells3 W1 w.heap.size (.int .i64 4) (.string s) (.int .i64 a) by rw [hW1]; exact Cells3.made _ _ _ _ _
    have c0 := hc.c0
    have c1 := hc.c1
    have HW1 := Lib.hid hW1
    clear hc hW1 hT
    have e0 : s.data.toList = [] := List.eq_nil_of_length_eq_zero ((len_at s).trans h0)
    have b1 : s.toList.isEmpty = true := by rw [list_of, e0]; rfl
    have b2 : (!s.toList.isEmpty) = false := by rw [b1]; rfl
    have HE := Lib.hid (show mayB 4 s.data.toList = false by rw [e0]; rfl)
    clear e0 h0
    go_enter Tryd.func22, Tryd.ntmps22
    go_upto_region 1 with fail
    rw [← HW1.out]
    go_wp2_with fail
    go_quiet (fail)
    all_goals
      go_wp2_with fail
      go_ret
      exact ⟨ret_bool2 HE.out.symm, below_drewN2 HB1.out _⟩
  · exact mayBe_any k a s w hT hm (fun hk h0 => hq ⟨hk, h0⟩)


theorem can_of {k : Int} {l : List UInt8} {b : Bool} : canB k l b = (mayB k l && (!(k == 5) || b)) := by
  unfold canB
  by_cases h : k = 5
  · subst h
    rw [if_pos rfl]
    show _ = ((l == []) && (!(true) || b))
    simp
  · rw [if_neg h, beq_eq_false_iff_ne.2 h]
    simp
theorem wr_most {k : Int} {s : ByteArray} (h : s.size ≤ 256) : (writtenB k s.data.toList).length ≤ 1026 := by
  unfold writtenB
  have h2 := escs_len s.data.toList
  rw [len_at] at h2
  split
  · simp only [List.length_cons, List.length_append, List.length_nil]
    omega
  · rw [len_at]; omega

set_option maxHeartbeats 8000000 in
set_option maxRecDepth 100000 in
theorem spell_all (l : List Tok) (ao : Option Addr) (cap : Nat) (w : World) (hT : Tabs w) (hl : ToksAt w ao l) (hn : l.length ≤ 4398046511000) (hs : ∀ t ∈ l, t.str.size ≤ 140737488351232) :
    Calls Tryd.prog 11 #[.slice ao l.length cap] w fun e w' => (∃ s er, e = .returned (.tuple #[.string ⟨s.toArray⟩, .int .i64 er]) ∧ SpellTo l s er) ∧ Below w.heap.size w w' := by
  have HT := Lib.hid hT
  have HL := Lib.hid hl
  have HS := Lib.hid hs
  obtain ⟨N, hN⟩ : ∃ N, N = l.length := ⟨_, rfl⟩
  rw [← hN] at hn ⊢
  have HN := Lib.hid hN
  clear hT hl hs hN
  go_enter Tryd.func11, Tryd.ntmps11
  go_wp2_with fail
  go_loopg [12] (N + 1) (fun g v12 wr => ∃ i : Nat, i ≤ N ∧ v12 = .int .i64 (i : Int) ∧ (∀ j (h : j < l.length), j < i → canAt l j h = true) ∧ Below w.heap.size w wr ∧ N - i < g)
  case atStart => exact ⟨0, Nat.zero_le _, rfl, fun j _ hj => by omega, Below.refl _ _, by omega⟩
  case round =>
    obtain ⟨i, hi, rfl, hall, hbel, hg⟩ := hrel
    obtain ⟨g, rfl⟩ : ∃ g, gk = g + 1 := ⟨gk - 1, by omega⟩
    have HALL := Lib.hid hall
    have HBE := Lib.hid hbel
    have hzw := hbel.size
    clear hbel hall
    have i0 : (0 : Int) ≤ (i : Int) := by omega
    by_cases hlt : i < N
    · have i1 : (i : Int) < (N : Int) := by omega
      have hil : i < l.length := by rw [← HN.out]; exact hlt
      obtain ⟨b, o, rfl, d0, d1, d2⟩ := toks_cell (HL.out.below HBE.out) i hil
      have hsz := HS.out l[i] (List.getElem_mem hil)
      obtain ⟨⟨k, s, a⟩, ht⟩ : ∃ t, t = l[i] := ⟨_, rfl⟩
      have HAT := Lib.hid (show canAt l i hil = (mayB k s.data.toList && (!(k == 5) || ((i : Int) == (N : Int) - 1))) by unfold canAt; rw [← ht, can_of, HN.out])
      rw [← ht] at d0 d1 d2 hsz
      simp only at d0 d1 d2 hsz
      obtain ⟨V, hV⟩ : ∃ V, V = wr.alloc (Obj.cells #[.int .i64 k, .string s, .int .i64 a] 28) := ⟨_, rfl⟩
      have hbV : Below wr.heap.size wr V := by rw [hV]; exact (Below.refl _ _).alloc (Nat.le_refl _) _
      have HCV := Lib.hid (show Cells3 V wr.heap.size (.int .i64 k) (.string s) (.int .i64 a) by rw [hV]; exact Cells3.made _ _ _ _ _)
      have HBV := Lib.hid (HBE.out.trans (hbV.mono hzw))
      have HM := Lib.hid (mayBe_all k a s V (HT.out.below HBV.out) (by omega))
      have v0 := HCV.out.c0
      have v1 := HCV.out.c1
      have v2 := HCV.out.c2
      have HV := Lib.hid hV
      clear ht hV hbV hsz
      obtain ⟨LA, hla⟩ : ∃ LA, ((i : Int) == (N : Int) - 1) = LA := ⟨_, rfl⟩
      rw [hla] at HAT
      obtain ⟨M, hm⟩ : ∃ M, M = mayB k s.data.toList := ⟨_, rfl⟩
      rw [← hm] at HAT HM
      obtain ⟨F, hf⟩ : ∃ F, (k == 5) = F := ⟨_, rfl⟩
      rw [hf] at HAT
      clear hm
      go_upto_region 4 with fail
      rw [← HV.out]
      cases M
      · have HSP := Lib.hid (SpellTo.ofBad hil (HAT.out.trans (by simp)))
        clear hf hla
        go_wp2_with fail
        refine HM.out.mono ?_; rintro e w2 ⟨rfl, hb2⟩
        have HB2 := Lib.hid (HBV.out.trans (hb2.mono HBV.out.size))
        clear hb2 v0 v1 v2
        go_wp2_with fail
        go_ret2
        exact ⟨⟨[], 1, rfl, HSP.out⟩, HB2.out⟩
      · cases F
        · have HCC := Lib.hid (show canAt l i hil = true from HAT.out.trans (by simp))
          clear hla
          go_wp2_with fail
          refine HM.out.mono ?_; rintro e w2 ⟨rfl, hb2⟩
          have HC2 := Lib.hid (HCV.out.keep (hb2.block _ HCV.out.lt))
          have HB2 := Lib.hid (HBV.out.trans (hb2.mono HBV.out.size))
          have u0 := HC2.out.c0
          clear hb2 v0 v1 v2
          go_wp2_with fail
          go_roundg g
          case rel => exact ⟨i + 1, by omega, by go_num, fun j h hj => (by
            by_cases hji : j < i
            · exact HALL.out j h hji
            · obtain rfl : j = i := by omega
              exact HCC.out), HB2.out, by omega⟩
          case measure => omega
        · cases LA
          · have HSP := Lib.hid (SpellTo.ofBad hil (HAT.out.trans (by simp)))
            go_wp2_with fail
            refine HM.out.mono ?_; rintro e w2 ⟨rfl, hb2⟩
            have HC2 := Lib.hid (HCV.out.keep (hb2.block _ HCV.out.lt))
            have HB2 := Lib.hid (HBV.out.trans (hb2.mono HBV.out.size))
            have u0 := HC2.out.c0
            clear hb2 v0 v1 v2
            go_wp2_with fail
            go_ret2
            exact ⟨⟨[], 1, rfl, HSP.out⟩, HB2.out⟩
          · have HCC := Lib.hid (show canAt l i hil = true from HAT.out.trans (by simp))
            go_wp2_with fail
            refine HM.out.mono ?_; rintro e w2 ⟨rfl, hb2⟩
            have HC2 := Lib.hid (HCV.out.keep (hb2.block _ HCV.out.lt))
            have HB2 := Lib.hid (HBV.out.trans (hb2.mono HBV.out.size))
            have u0 := HC2.out.c0
            clear hb2 v0 v1 v2
            go_wp2_with fail
            go_roundg g
            case rel => exact ⟨i + 1, by omega, by go_num, fun j h hj => (by
              by_cases hji : j < i
              · exact HALL.out j h hji
              · obtain rfl : j = i := by omega
                exact HCC.out), HB2.out, by omega⟩
            case measure => omega
    · have i1 : ¬ (i : Int) < (N : Int) := by omega
      have HAC := Lib.hid (show allCan l from fun j h => HALL.out j h (by have := HN.out; omega))
      obtain ⟨L, hL⟩ : ∃ L, L = (live l).map Tok.wr := ⟨_, rfl⟩
      have HLL := Lib.hid hL
      have hLn : L.length = (live l).length := by rw [hL, List.length_map]
      have hLN : L.length ≤ N := by rw [hLn, HN.out]; exact (live_pre l).length_le
      have HJ := Lib.hid (show liveJ l = joinL L by rw [hL]; rfl)
      obtain ⟨A, rfl⟩ : ∃ A, A = wr := ⟨_, rfl⟩
      obtain ⟨bb, hbb⟩ : ∃ bb, bb = A.heap.size := ⟨_, rfl⟩
      obtain ⟨W0, hW0⟩ : ∃ W0, W0 = A.alloc (Obj.cells #[Value.pointer none, Value.slice none 0 0] 64) := ⟨_, rfl⟩
      have HBD0 := Lib.hid (show Bld bb bb [] W0 by rw [hW0, hbb]; exact fresh_builder)
      have HB0 := Lib.hid (show Below bb A W0 by rw [hW0, hbb]; exact (Below.refl _ _).alloc (Nat.le_refl _) _)
      have HW0 := Lib.hid hW0
      have HBB := Lib.hid hbb
      clear hW0 hbb hL
      go_upto_region 9 with fail
      rw [← HW0.out, ← HBB.out]
      go_wp2_with fail
      go_loopg [37] (N + 1) (fun g v37 wy => ∃ j : Nat, j ≤ L.length ∧ v37 = .int .i64 (j : Int) ∧ (joinL (L.take j)).length ≤ 4096 ∧ Bld bb bb (joinL (L.take j)) wy ∧ Below bb A wy ∧ N - j < g)
      case atStart => exact ⟨0, Nat.zero_le _, rfl, by simp [joinL], by rw [List.take_zero]; exact HBD0.out, HB0.out, by omega⟩
      case round =>
        obtain ⟨j, hj, rfl, hlen, hbd, hbel, hg2⟩ := hrel
        obtain ⟨g2, rfl⟩ : ∃ g, gk = g + 1 := ⟨gk - 1, by omega⟩
        have HLEN := Lib.hid hlen
        have HBD := Lib.hid hbd
        have HBY := Lib.hid hbel
        have hzy := hbel.size
        have hbl := hbd.lo.2
        clear hbd hbel hlen
        have j0 : (0 : Int) ≤ (j : Int) := by omega
        have HBW := Lib.hid (show Below w.heap.size w wr from HBE.out.trans (HBY.out.mono (by rw [HBB.out]; exact hzw)))
        by_cases hend : j = L.length
        · have HJL := Lib.hid (show joinL (L.take j) = liveJ l by rw [HJ.out, hend, List.take_length])
          have HE := Lib.hid (SpellTo.ofGood HAC.out (by rw [← HJL.out]; exact HLEN.out))
          have HSO := Lib.hid (fun W h => string_of_any bb bb (joinL (L.take j)) W h)
          rw [HJL.out] at HBD HSO
          have hway : (∃ (hil : j < l.length), l[j].kind = 5) ∨ j = N := by
            rcases Nat.lt_or_ge j N with h1 | h1
            · have h2 : j < l.length := by have := HN.out; omega
              left
              refine ⟨h2, ?_⟩
              have e : j = (live l).length := by omega
              subst e
              exact live_end h2
            · right; omega
          rcases hway with ⟨hil, hk5⟩ | hjN
          · obtain ⟨b, o, rfl, c0, d1, d2⟩ := toks_cell (HL.out.below HBW.out) j hil
            rw [hk5] at c0
            have j1 : (j : Int) < (N : Int) := by have := HN.out; omega
            obtain ⟨⟨k, s, a⟩, ht⟩ : ∃ t, t = l[j] := ⟨_, rfl⟩
            rw [← ht] at d1 d2
            simp only at d1 d2
            obtain ⟨V, hV⟩ : ∃ V, V = wr.alloc (Obj.cells #[.int .i64 5, .string s, .int .i64 a] 28) := ⟨_, rfl⟩
            obtain ⟨q, hq⟩ : ∃ q, q = wr.heap.size := ⟨_, rfl⟩
            have hbV : Below wr.heap.size wr V := by rw [hV]; exact (Below.refl _ _).alloc (Nat.le_refl _) _
            have HOB := Lib.hid (show V.heap[q]? = some (Obj.cells #[.int .i64 5, .string s, .int .i64 a] 28 (0, 0)) by rw [hV, hq]; exact heap_alloc_new _ _)
            have HBDV := Lib.hid (HBD.out.below hbV)
            have HBV := Lib.hid (show Below bb A V from HBY.out.trans (hbV.mono (by omega)))
            have v0 := (Cells3.of HOB.out).c0
            have HV := Lib.hid hV
            have HQ := Lib.hid hq
            have HS2 := Lib.hid (HSO.out V HBDV.out (by have := HBDV.out.lo.2; omega))
            clear ht hV hbV hq hk5 hend HSO
            go_upto_region 12 with fail
            rw [← HV.out, ← HQ.out]
            go_wp2_with fail
            refine HS2.out.mono ?_; rintro e w2 ⟨rfl, hb2⟩
            have HB2 := Lib.hid (show Below w.heap.size w w2 from HBE.out.trans ((HBV.out.trans hb2).mono (by rw [HBB.out]; exact hzw)))
            clear hb2
            go_wp2_with fail
            go_ret2
            exact ⟨⟨_, 0, rfl, HE.out⟩, HB2.out⟩
          · have j1 : ¬ (j : Int) < (N : Int) := by omega
            have HS2 := Lib.hid (HSO.out wr HBD.out (by omega))
            clear hend HSO
            go_wp2_with fail
            refine HS2.out.mono ?_; rintro e w2 ⟨rfl, hb2⟩
            have HB2 := Lib.hid (show Below w.heap.size w w2 from HBE.out.trans ((HBY.out.trans hb2).mono (by rw [HBB.out]; exact hzw)))
            clear hb2
            go_wp2_with fail
            go_ret2
            exact ⟨⟨_, 0, rfl, HE.out⟩, HB2.out⟩
        · have hjl : j < L.length := by omega
          obtain ⟨hil, hk5, hle⟩ := live_lt (l := l) (j := j) (by omega)
          have j1 : (j : Int) < (N : Int) := by have := HN.out; omega
          obtain ⟨b, o, rfl, d0, d1, d2⟩ := toks_cell (HL.out.below HBW.out) j hil
          have hcan := HAC.out j hil
          have hLj : L[j] = l[j].wr := by
            simp only [HLL.out, List.getElem_map]
            rw [hle]
          unfold canAt at hcan
          obtain ⟨⟨k, s, a⟩, ht⟩ : ∃ t, t = l[j] := ⟨_, rfl⟩
          rw [← ht] at d0 d1 d2 hcan hk5 hLj
          simp only at d0 d1 d2 hcan hk5
          have hs : s.size ≤ 256 := by
            rw [can_of, Bool.and_eq_true] at hcan
            have := may_len hcan.1
            rw [len_at] at this
            exact this
          have hne : (k == 5) = false := beq_eq_false_iff_ne.2 hk5
          obtain ⟨x, hx⟩ : ∃ x, x = writtenB k s.data.toList := ⟨_, rfl⟩
          have hxl : x.length ≤ 1026 := by rw [hx]; exact wr_most hs
          have hstep := front_step L j hjl
          rw [hLj] at hstep
          have HST := Lib.hid (show joinL (L.take (j + 1)) = frontL j L ++ x by rw [hstep, hx]; rfl)
          have HTOT := Lib.hid (show (frontL j L ++ x).length ≤ (liveJ l).length by
            rw [← HST.out, HJ.out]
            exact joinL_take_le L (j + 1))
          have hfl : (frontL j L).length ≤ 4097 := by
            unfold frontL
            have := HLEN.out
            split
            · simp
            · rw [List.length_append, List.length_singleton]; omega
          obtain ⟨V, hV⟩ : ∃ V, V = wr.alloc (Obj.cells #[.int .i64 k, .string s, .int .i64 a] 28) := ⟨_, rfl⟩
          obtain ⟨q, hq⟩ : ∃ q, q = wr.heap.size := ⟨_, rfl⟩
          have hbV : Below wr.heap.size wr V := by rw [hV]; exact (Below.refl _ _).alloc (Nat.le_refl _) _
          have HOB := Lib.hid (show V.heap[q]? = some (Obj.cells #[.int .i64 k, .string s, .int .i64 a] 28 (0, 0)) by rw [hV, hq]; exact heap_alloc_new _ _)
          have HBDV := Lib.hid (HBD.out.below hbV)
          have HBV := Lib.hid (show Below bb A V from HBY.out.trans (hbV.mono (by omega)))
          have hvz := HBV.out.size
          have hqb : q ≠ bb := by omega
          have v0 := (Cells3.of HOB.out).c0
          have HWR := Lib.hid (fun W => written_any k a s W (fun _ => hs))
          rw [← hx] at HWR
          have HV := Lib.hid hV
          have HQ := Lib.hid hq
          clear ht hV hbV hx hstep hLj hq hcan hk5 hle hend
          go_upto_region 12 with fail
          rw [← HV.out, ← HQ.out]
          go_upto_if 46 with fail
          go_cut [37] from 37 to 53 (fun s37 wx => s37 = .int .i64 (j : Int) ∧ Bld bb bb (frontL j L) wx ∧ Below bb A wx ∧ wx.heap[q]? = some (Obj.cells #[.int .i64 k, .string s, .int .i64 a] 28 (0, 0)))
          case first =>
            by_cases hj0 : 0 < j
            · have k0 : (0 : Int) < (j : Int) := by omega
              have HWB := Lib.hid (writeByte_any bb bb (joinL (L.take j)) 32 V HBDV.out (by
                have h2 := HLEN.out
                omega) (by have := HBDV.out.lo.2; omega))
              go_wp2_with fail
              refine HWB.out.mono ?_; rintro e w3 ⟨rfl, hbd3, hb3, hk3⟩
              have HX3 := Lib.hid (show Bld bb bb (frontL j L) w3 by rw [frontL, if_neg (by omega)]; exact hbd3)
              have HY3 := Lib.hid (HBV.out.trans hb3)
              have HZ3 := Lib.hid (Cells3.others HOB.out hk3 hqb)
              clear hbd3 hb3 hk3
              go_wp2_with fail
              go_meet
              case rel => exact ⟨rfl, HX3.out, HY3.out, HZ3.out⟩
            · have k0 : ¬ (0 : Int) < (j : Int) := by omega
              have HX3 := Lib.hid (show Bld bb bb (frontL j L) V by
                obtain rfl : j = 0 := by omega
                exact HBDV.out)
              go_wp2_with fail
              go_meet
              case rel => exact ⟨rfl, HX3.out, HBV.out, HOB.out⟩
          case rest =>
            obtain ⟨rfl, hbd3, hb3, ho3⟩ := hcut
            have HBD3 := Lib.hid hbd3
            have HB3 := Lib.hid hb3
            have hz3 := hb3.size
            have u0 := (Cells3.of ho3).c0
            have u1 := (Cells3.of ho3).c1
            have u2 := (Cells3.of ho3).c2
            clear hbd3 hb3 ho3 v0
            go_wp2_with fail
            refine (HWR.out _).mono ?_; rintro e w4 ⟨rfl, hb4⟩
            have HBD4 := Lib.hid (HBD3.out.below hb4)
            have HB4 := Lib.hid (HB3.out.trans (hb4.mono (Nat.le_of_lt HBD3.out.lo.2)))
            have hz4 := HB4.out.size
            clear hb4
            have HWS := Lib.hid (write_any bb bb (frontL j L) ⟨x.toArray⟩ w4 HBD4.out (show (frontL j L).length + x.length ≤ 1000000 by omega) (by have := HBD4.out.lo.2; omega))
            go_wp2_with fail
            refine HWS.out.mono ?_; rintro e w5 ⟨rfl, hbd5, hb5, _⟩
            obtain ⟨FX, hFX⟩ : ∃ FX, FX = frontL j L ++ x := ⟨_, rfl⟩
            rw [← hFX] at HST HTOT
            have HBD5 := Lib.hid (show Bld bb bb FX w5 by rw [hFX]; exact hbd5)
            clear hFX
            have HB5 := Lib.hid (HB4.out.trans hb5)
            clear hbd5 hb5
            have HLE := Lib.hid (len_any bb bb FX w5 HBD5.out)
            have HB6 := Lib.hid (show Below w.heap.size w w5 from HBE.out.trans (HB5.out.mono (by rw [HBB.out]; exact hzw)))
            by_cases hle2 : 4096 < FX.length
            · have HE := Lib.hid (SpellTo.ofLong HAC.out (Nat.lt_of_lt_of_le hle2 HTOT.out))
              have hle3 : (4096 : Int) < (FX.length : Int) := by omega
              go_wp2_with fail
              refine HLE.out.mono ?_; rintro e w6 ⟨rfl, rfl⟩
              go_wp2_with fail
              go_ret2
              exact ⟨⟨[], 2, rfl, HE.out⟩, HB6.out⟩
            · have hle3 : ¬ (4096 : Int) < (FX.length : Int) := by omega
              go_wp2_with fail
              refine HLE.out.mono ?_; rintro e w6 ⟨rfl, rfl⟩
              go_wp2_with fail
              go_roundg g2
              case rel => exact ⟨j + 1, by omega, by go_num, by rw [HST.out]; omega, by rw [HST.out]; exact HBD5.out, HB5.out, by omega⟩
              case measure => omega
end Go.Proofs.YtaipljdpkgdheaaDoor
/- The law's Hand: the memory in which tokens are handed in. -/
namespace Go.Proofs.YtaipljdpkgdheaaDoor
open Go Go.RowKit

theorem set_ne {w : World} {g p q : Nat} {v : Value} (h : p ≠ q) : (w.setCell ⟨g, p, none⟩ v).cell? ⟨g, q, none⟩ = w.cell? ⟨g, q, none⟩ :=
  World.cell?_setCell_other _ _ _ _ (by intro e; injection e with _ e _; exact h e)
def storeT (w : World) (g k : Nat) (x : Tok) : World := ((w.setCell ⟨g, k * 3, none⟩ (.int .i64 x.kind)).setCell ⟨g, k * 3 + 1, none⟩ (.string x.str)).setCell ⟨g, k * 3 + 2, none⟩ (.int .i64 x.pos)
theorem storeT_size (w : World) (g k : Nat) (x : Tok) : (storeT w g k x).heap.size = w.heap.size := by simp [storeT, World.setCell]
theorem storeT_below {B : Nat} {a w : World} {g k : Nat} {x : Tok} (hb : Below B a w) (h : B ≤ g) : Below B a (storeT w g k x) := ((hb.setCell h _).setCell h _).setCell h _
theorem storeT_other (w : World) (g k b : Nat) (x : Tok) (h : b ≠ g) : (storeT w g k x).heap[b]? = w.heap[b]? := by
  unfold storeT
  rw [heap_setCell_other _ _ _ _ h, heap_setCell_other _ _ _ _ h, heap_setCell_other _ _ _ _ h]
/-- A row of tokens of the law's own, all of its room in sight; what some of them are. -/
structure HRow (w : World) (B g cap : Nat) (P : Nat → Prop) (F : Nat → Tok) : Prop where
  whole : ∃ cur : Array Value, w.heap[g]? = some (.cells cur 28 (0, 0)) ∧ cur.size = cap * 3
  c : ∀ i, P i → w.cell? ⟨g, i * 3, none⟩ = some (.int .i64 (F i).kind) ∧ w.cell? ⟨g, i * 3 + 1, none⟩ = some (.string (F i).str) ∧ w.cell? ⟨g, i * 3 + 2, none⟩ = some (.int .i64 (F i).pos)
  lo : B ≤ g
  le : cap ≤ maxLen
theorem HRow.lt {w : World} {B g cap : Nat} {P : Nat → Prop} {F : Nat → Tok} (h : HRow w B g cap P F) : g < w.heap.size := by
  obtain ⟨cur, hc, _⟩ := h.whole
  exact (Array.getElem?_eq_some_iff.1 hc).1
theorem HRow.free {w : World} {B g cap : Nat} {P : Nat → Prop} {F : Nat → Tok} (h : HRow w B g cap P F) (j : Nat) : w.frozen? ⟨g, j, none⟩ = false := by
  obtain ⟨cur, hc, _⟩ := h.whole
  exact frozen_of_row w g j cur _ hc
theorem HRow.some' {w : World} {B g cap : Nat} {P : Nat → Prop} {F : Nat → Tok} (h : HRow w B g cap P F) (j : Nat) (hj : j < cap * 3) : ∃ v, w.cell? ⟨g, j, none⟩ = some v := by
  obtain ⟨cur, hc, hs⟩ := h.whole
  rw [cell_of_row w g j cur _ _ hc]
  exact ⟨cur[j]'(by omega), Array.getElem?_eq_getElem (by omega)⟩
theorem HRow.keep {w w' : World} {B g cap : Nat} {P : Nat → Prop} {F : Nat → Tok} (h : HRow w B g cap P F) (hk : w'.heap[g]? = w.heap[g]?) : HRow w' B g cap P F := by
  have e : ∀ j : Nat, w'.cell? ⟨g, j, none⟩ = w.cell? ⟨g, j, none⟩ := fun j => World.cell?_of_block (w := w) hk
  obtain ⟨cur, hc, hs⟩ := h.whole
  exact ⟨⟨cur, hk.trans hc, hs⟩, fun i hi => by rw [e, e, e]; exact h.c i hi, h.lo, h.le⟩
theorem HRow.below {w w' : World} {B g cap : Nat} {P : Nat → Prop} {F : Nat → Tok} (h : HRow w B g cap P F) (hb : Below w.heap.size w w') : HRow w' B g cap P F := h.keep (hb.block g h.lt)
theorem HRow.weak {w : World} {B g cap : Nat} {P Q : Nat → Prop} {F G : Nat → Tok} (h : HRow w B g cap P F) (hq : ∀ i, Q i → P i ∧ G i = F i) : HRow w B g cap Q G :=
  ⟨h.whole, fun i hi => by rw [(hq i hi).2]; exact h.c i (hq i hi).1, h.lo, h.le⟩
theorem HRow.set {w : World} {B g cap : Nat} {P Q : Nat → Prop} {F G : Nat → Tok} (h : HRow w B g cap P F) (i : Nat) (hi : i < cap) (x : Tok) (hq : ∀ j, Q j → (j = i ∧ G j = x) ∨ (j ≠ i ∧ P j ∧ G j = F j)) : HRow (storeT w g i x) B g cap Q G := by
  obtain ⟨cur, hc, hs⟩ := h.whole
  obtain ⟨y0, k0⟩ := h.some' (i * 3) (by omega)
  obtain ⟨y1, k1⟩ := h.some' (i * 3 + 1) (by omega)
  obtain ⟨y2, k2⟩ := h.some' (i * 3 + 2) (by omega)
  refine ⟨?_, fun j hj => ?_, h.lo, h.le⟩
  · unfold storeT
    have e1 := heap_setCell_same w g (i * 3) cur _ (.int .i64 x.kind) hc
    have e2 := heap_setCell_same _ g (i * 3 + 1) _ _ (.string x.str) e1
    have e3 := heap_setCell_same _ g (i * 3 + 2) _ _ (.int .i64 x.pos) e2
    exact ⟨_, e3, by simp [hs]⟩
  · unfold storeT
    rcases hq j hj with ⟨e, hg⟩ | ⟨e, hp, hg⟩
    · subst e
      rw [hg]
      refine ⟨?_, ?_, ?_⟩
      · rw [set_ne (by omega), set_ne (by omega)]
        exact World.cell?_setCell_same _ _ _ k0
      · rw [set_ne (by omega)]
        exact World.cell?_setCell_same _ _ _ ((set_ne (by omega)).trans k1)
      · exact World.cell?_setCell_same _ _ _ ((set_ne (by omega)).trans ((set_ne (by omega)).trans k2))
    · obtain ⟨i0, i1, i2⟩ := h.c j hp
      rw [hg]
      refine ⟨?_, ?_, ?_⟩
      · rw [set_ne (by omega), set_ne (by omega), set_ne (by omega)]; exact i0
      · rw [set_ne (by omega), set_ne (by omega), set_ne (by omega)]; exact i1
      · rw [set_ne (by omega), set_ne (by omega), set_ne (by omega)]; exact i2
/-- The i-th token of the memory that is handed in. -/
def markT (i : Nat) : Tok := ⟨wrap64 (77 + (i : Int)), ⟨#[]⟩, 0⟩
def handF (l : List Tok) (i : Nat) : Tok := if h : i < l.length then l[i] else markT i
def tokC (l : List Tok) : List Value := l.flatMap Tok.cells
theorem tokC_length (l : List Tok) : (tokC l).length = l.length * 3 := by
  induction l with
  | nil => rfl
  | cons a r ih =>
    simp only [tokC, List.flatMap_cons, List.length_append, List.length_cons, Tok.cells, List.length_nil] at ih ⊢
    omega
theorem tokC_get (l : List Tok) (i : Nat) (h : i < l.length) : (tokC l)[i * 3]? = some (.int .i64 l[i].kind) ∧ (tokC l)[i * 3 + 1]? = some (.string l[i].str) ∧ (tokC l)[i * 3 + 2]? = some (.int .i64 l[i].pos) := by
  induction l generalizing i with
  | nil => simp at h
  | cons a r ih =>
    cases i with
    | zero => simp [tokC, Tok.cells]
    | succ i =>
      have := ih i (by simpa using h)
      have e1 : (i + 1) * 3 = i * 3 + 3 := by omega
      rw [e1]
      simp only [tokC, Tok.cells, List.flatMap_cons, List.cons_append, List.nil_append, List.getElem_cons_succ] at this ⊢
      exact ⟨this.1, this.2.1, this.2.2⟩
theorem tokC_one (l : List Tok) : ∀ u ∈ tokC l, u.oneCell' = true := by
  intro u hu
  unfold tokC at hu
  obtain ⟨x, _, hx⟩ := List.mem_flatMap.1 hu
  simp only [Tok.cells, List.mem_cons, List.not_mem_nil, or_false] at hx
  rcases hx with rfl | rfl | rfl <;> rfl
/-- The row of an owned slice, its room and all. -/
theorem hrow_of {w : World} {B n : Nat} {v : Value} {l : List Tok} {ys : List Value} (h : w.ownsRow B 28 3 v n (tokC l ++ ys)) (hn : 0 < n) : ∃ g cap, v = .slice (some ⟨g, 0, none⟩) n cap ∧ n ≤ cap ∧ HRow w B g cap (fun i => i < l.length) (handF l) := by
  rcases h.2 with ⟨_, h0⟩ | ⟨g, cap, cur, hv, hb, hg, hnc, hcm, hs, ht⟩
  · omega
  · refine ⟨g, cap, hv, hnc, ⟨cur, hg, hs⟩, fun i hi => ?_, hb, hcm⟩
    have hl := congrArg List.length ht
    rw [List.length_take, List.length_append, tokC_length, Array.length_toList] at hl
    have at_ : ∀ (j : Nat) (u : Value), j < l.length * 3 → (tokC l)[j]? = some u → w.cell? ⟨g, j, none⟩ = some u := by
      intro j u hj hu
      rw [cell_of_row w g j cur _ _ hg, ← Array.getElem?_toList]
      have h2 := congrArg (fun x : List Value => x[j]?) ht
      simp only [List.getElem?_take] at h2
      rw [if_pos (by omega), List.getElem?_append_left (by rw [tokC_length]; exact hj)] at h2
      exact h2.trans hu
    obtain ⟨a0, a1, a2⟩ := tokC_get l i hi
    unfold handF
    rw [dif_pos hi]
    exact ⟨at_ _ _ (by omega) a0, at_ _ _ (by omega) a1, at_ _ _ (by omega) a2⟩
theorem HRow.own {w : World} {B g cap : Nat} {P : Nat → Prop} {F : Nat → Tok} (h : HRow w B g cap P F) : w.ownsRow B 28 3 (.slice (some ⟨g, 0, none⟩) 0 cap) 0 [] := by
  obtain ⟨cur, hc, hs⟩ := h.whole
  exact ⟨rfl, Or.inr ⟨g, cap, cur, rfl, h.lo, hc, Nat.zero_le _, h.le, hs, by simp⟩⟩
/-- The tokens that an argument leads to, as append reads them. -/
def ToksArg (w : World) (ao : Option Addr) (cap : Nat) (l : List Tok) : Prop :=
  (ao = none ∧ cap = 0 ∧ l = []) ∨ ∃ ad, ao = some ad ∧ ∀ j u, (tokC l)[j]? = some u → w.cell? (ad.add j) = some u
theorem toks_arg {w : World} {ao : Option Addr} {cap : Nat} {l : List Tok} (h : ToksAt w ao l) (hn : ao = none → cap = 0) : ToksArg w ao cap l := by
  cases ao with
  | none =>
    refine Or.inl ⟨rfl, hn rfl, ?_⟩
    rcases h with h | ⟨b, o, e, _⟩
    · exact h
    · cases e
  | some ad =>
    refine Or.inr ⟨ad, rfl, ?_⟩
    rcases h with h | ⟨b, o, e, h⟩
    · subst h
      intro j u hu
      simp [tokC] at hu
    · cases e
      intro j u hu
      have hj : j < (tokC l).length := (List.getElem?_eq_some_iff.1 hu).1
      rw [tokC_length] at hj
      have ea : (⟨b, o, none⟩ : Addr).add j = ⟨b, o + j, none⟩ := by
        unfold Addr.add
        split
        · rename_i e; rw [e]; rfl
        · rfl
      rw [ea]
      have hi : j / 3 < l.length := by omega
      obtain ⟨a0, a1, a2⟩ := tokC_get l (j / 3) hi
      obtain ⟨c0, c1, c2⟩ := h (j / 3) hi
      rcases (show j = j / 3 * 3 ∨ j = j / 3 * 3 + 1 ∨ j = j / 3 * 3 + 2 by omega) with e | e | e
      · have e' : o + j = o + j / 3 * 3 := by omega
        rw [e']
        rw [e, a0] at hu
        exact c0.trans hu
      · have e' : o + j = o + j / 3 * 3 + 1 := by omega
        rw [e']
        rw [e, a1] at hu
        exact c1.trans hu
      · have e' : o + j = o + j / 3 * 3 + 2 := by omega
        rw [e']
        rw [e, a2] at hu
        exact c2.trans hu
theorem wpList_append_toks {w : World} {ops : Array Oper} {rest : List Oper} {o : Oper} {a : Act} {Q : Exit → Act → World → Prop} (hgd : o.guard = none) (s x : Operand)
    (ho : o.op = .call { callee := .builtin .append, args := #[s, x], argTypes := #[23, 23] }) (B : Nat) (v : Value) (hs : a.eval s = v) (hown : w.ownsRow B 28 3 v 0 [])
    (ao : Option Addr) (cap n : Nat) (l : List Tok) (hn : l.length = n) (hx : a.eval x = .slice ao n cap) (harg : ToksArg w ao cap l) (hl : n ≤ 4398046511000) (hB : B ≤ w.heap.size)
    (h : ∀ v' w', w'.ownsRow B 28 3 v' n (tokC l) → w.grownBy w' v.ownBlock → (v'.ownBlock = v.ownBlock ∨ v'.ownBlock = some w.heap.size) → wpList Tryd.prog ops Q rest (a.put o.dst v') w') :
    wpList Tryd.prog ops Q (o :: rest) a w := by
  obtain ⟨i0, hi0, hz0, hz1, hz2⟩ := info_parts Tryd.infoTok
  subst hn
  rcases harg with ⟨rfl, rfl, rfl⟩ | ⟨ad, rfl, hc⟩
  · refine wpList_append_own_none hgd s x 23 ho B 28 i0 3 Tryd.underlying23 hi0 v 0 [] hs hown hx ?_
    exact h _ w hown ⟨rfl, rfl, rfl, Nat.le_refl _, fun _ _ _ => rfl⟩ (Or.inl rfl)
  · refine wpList_append_own_at w hgd s x 23 ho B 28 i0 _ 3 32 Tryd.underlying23 hi0 hz0 hz1 hz2 rfl (by omega) v 0 [] hs hown ad l.length cap (tokC l) hx (by rw [tokC_length]) hc (tokC_one _) (by unfold maxLen; omega) (by omega) hB ?_
    intro v' w' h1 h2 _ h4
    rw [Nat.zero_add] at h1
    exact h v' w' h1 h2 h4
end Go.Proofs.YtaipljdpkgdheaaDoor
