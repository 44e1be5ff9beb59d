/- The walk of the law of strings. -/
import Derived.Test.YtaipljdpkgdheaaDoorEnc
import Derived.Deep.CutRange
namespace Go.Proofs.YtaipljdpkgdheaaDoor
open Go Go.RowKit

def loS : ByteArray := ⟨#[48, 49, 50, 51, 52, 53, 54, 55, 56, 57, 97, 98, 99, 100, 101, 102]⟩
def upS : ByteArray := ⟨#[48, 49, 50, 51, 52, 53, 54, 55, 56, 57, 65, 66, 67, 68, 69, 70]⟩
theorem hexS_loS (p : Nat) (hp : p < 16) : hexU (loS[p]'hp) = some (UInt8.ofNat p) := hex_lo ⟨p, hp⟩
theorem hexS_upS (p : Nat) (hp : p < 16) : hexU (upS[p]'hp) = some (UInt8.ofNat p) := hex_up ⟨p, hp⟩
theorem u8_small16 : ∀ p : Fin 16, IntKind.u8.wrap (p.val : Int) = (p.val : Int) := by decide +kernel
theorem u8_small (p : Nat) (hp : p < 16) : IntKind.u8.wrap (p : Int) = (p : Int) := u8_small16 ⟨p, hp⟩
/-- The bytes that an address leads to. -/
def BytesAt (w : World) (ao : Option Addr) (l : List UInt8) : Prop :=
  l = [] ∨ ∃ b o, ao = some ⟨b, o, none⟩ ∧ ∀ i (h : i < l.length), w.cell? ⟨b, o + i, none⟩ = some (.int .u8 (l[i].toNat : Int))
theorem BytesAt.below {w w' : World} {ao : Option Addr} {l : List UInt8} (h : BytesAt w ao l) (hb : Below w.heap.size w w') : BytesAt w' ao l := by
  rcases h with h | ⟨b, o, rfl, h⟩
  · exact Or.inl h
  · exact Or.inr ⟨b, o, rfl, fun i hi => by
      have hl := World.block_lt_of_cell? w _ (h i hi)
      exact (hb.cell (p := ⟨b, o + i, none⟩) hl).trans (h i hi)⟩

theorem owned_caps {w : World} {base e size n cap : Nat} {va : Option Addr} {xs : List Value} (h : w.ownsRow base e size (.slice va n cap) n xs) : n ≤ cap ∧ cap ≤ maxLen := by
  rcases h.2 with ⟨e, h0⟩ | ⟨g, cap', cur, e, hg, hh, hn, hc, _⟩
  · cases e; exact ⟨Nat.le_refl _, by unfold maxLen; omega⟩
  · cases e; exact ⟨hn, hc⟩
theorem conv_two {w : World} {B cap n g : Nat} {m : List UInt8} (hn : n = m.length + 1) (h : w.ownsRow B 5 1 (.slice (some ⟨g, 0, none⟩) (n + 1) cap) (n + 1) (bytesC (34 :: m) ++ [.int .u8 34])) : (convert 22 9 (.slice (some ⟨g, 0, none⟩) (n + 1) cap)).run Tryd.prog w = .ok (.string ⟨(34 :: (m ++ [34])).toArray⟩) w := by
  subst hn
  have e : (34 :: (m ++ [34])).length = m.length + 1 + 1 := by simp
  have h2 := conv_owned (w := w) (B := B) (cap := cap) (va := some ⟨g, 0, none⟩) (c := 34 :: (m ++ [34])) (by rw [e, ← List.cons_append, bytesC_append]; exact h)
  rw [e] at h2
  exact h2

set_option maxHeartbeats 8000000 in
set_option maxRecDepth 100000 in
theorem string_any (s : ByteArray) (how : List UInt8) (ao : Option Addr) (cap : Nat) (w : World) (hT : Tabs w) (hb : BytesAt w ao how) :
    Calls Tryd.prog 3 #[.string s, .slice ao how.length cap] w fun e w' => e = .returned (.bool true) ∧ Below w.heap.size w w' := by
  obtain ⟨i0, hi0, iz0, iz1, iz2⟩ := info_parts Tryd.infoU8
  have HT := Lib.hid hT
  have HB := Lib.hid hb
  clear hT hb
  obtain ⟨x, hx⟩ : ∃ x, x = if 256 < s.size then s.extract 0 256 else s := ⟨_, rfl⟩
  have hxs : x.size ≤ 256 := by
    rw [hx]
    split
    · rw [ByteArray.size_extract]; omega
    · omega
  by_cases h256 : 256 < s.size
  all_goals
    first | rw [if_pos h256] at hx | rw [if_neg h256] at hx
    have HX := Lib.hid hx
    have h256i : (256 : Int) < (s.size : Int) ∨ ¬ (256 : Int) < (s.size : Int) := by omega
    first
      | (have k256 : (256 : Int) < (s.size : Int) := by omega)
      | (have k256 : ¬ (256 : Int) < (s.size : Int) := by omega)
    clear h256i h256 hx
    go_enter Tryd.func3, Tryd.ntmps3
    go_upto_region 3 with fail
    rw [← HX.out]
    go_wp2_with (at_builtin; go_must (refine wpList_append_lies _ (by rfl) _ _ _ (by rfl) w.heap.size 5 i0 _ 1 1 Tryd.underlying22 hi0 iz0 iz1 iz2 rfl (by omega) (.slice none 0 0) 0 (bytesC []) (by rfl) (World.ownsRow_nil _ _ _ _) ⟨_, 0, none⟩ 1 1 [.int .u8 34] (by rfl) (by rfl) (World.news_of_block (cs := #[.int .u8 34]) (t := 5) (fr := (0, 0)) (heap_alloc_new _ _)) (by simp [Value.oneCell']) (by omega) (by unfold maxLen; omega) (by omega) (by first | (simp; done) | (simp; omega)) _ rfl ?_; intro g2 cap2 w7 hown7 hgrow7 hat7 hlt7))
    have HO7 := Lib.hid (show w7.ownsRow w.heap.size 5 1 (.slice (some ⟨g2, 0, none⟩) 1 cap2) 1 (bytesC [34]) from hown7)
    have HB7 := Lib.hid (Below.grown (B := w.heap.size) ((Below.refl _ w).alloc (Nat.le_refl _) _) hgrow7 (by simp) (fun _ h => by cases h))
    clear hown7 hgrow7 hat7 hlt7
    go_loopw [5, 6] (fun v5 v6 wr => ∃ (i : Nat) (m : List UInt8) (va : Option Addr) (cp : Nat), i ≤ x.size ∧ v6 = .int .i64 (i : Int) ∧ v5 = .slice va (m.length + 1) cp ∧ wr.ownsRow w.heap.size 5 1 (.slice va (m.length + 1) cp) (m.length + 1) (bytesC (34 :: m)) ∧ Enc m (x.data.toList.take i) ∧ m.length ≤ 4 * i ∧ Below w.heap.size w wr) (fun _ v6 _ => x.size - (intOf v6).toNat)
    case atStart => exact ⟨0, [], some ⟨g2, 0, none⟩, cap2, Nat.zero_le _, rfl, rfl, HO7.out, Enc.nil, Nat.zero_le _, HB7.out⟩
    case round =>
      obtain ⟨i, m, va, cp, hi, rfl, rfl, hown, henc, hml, hbel⟩ := hrel
      obtain ⟨n, hn⟩ : ∃ n, n = m.length + 1 := ⟨_, rfl⟩
      rw [← hn] at hown ⊢
      have HN := Lib.hid hn
      have HO := Lib.hid hown
      have HENC := Lib.hid henc
      have HBE := Lib.hid hbel
      have hzw := hbel.size
      have hn1 : n ≤ 1 + 4 * i := by omega
      clear hn hown henc hbel hml
      by_cases hlt : i < x.size
      · have i0' : (0 : Int) ≤ (i : Int) := by omega
        have i1' : (i : Int) < (x.size : Int) := by omega
        have HTK := Lib.hid (show x.data.toList.take (i + 1) = x.data.toList.take i ++ [x[i]'hlt] by
          rw [List.take_add_one, Lib.data_getElem? x i hlt]
          rfl)
        go_upto_if 35 with fail
        go_cut [8] from 23 to 104 (fun s8 wx => (∃ k : Nat, k < 3 ∧ s8 = .int .i64 (k : Int)) ∧ wr = wx)
        case first =>
          by_cases hh : i < how.length
          · obtain ⟨b, o, rfl, hcell⟩ : ∃ b o, ao = some ⟨b, o, none⟩ ∧ ∀ j (h : j < how.length), wr.cell? ⟨b, o + j, none⟩ = some (.int .u8 (how[j].toNat : Int)) := by
              rcases HB.out.below (HBE.out) with h | h
              · rw [h] at hh; simp at hh
              · exact h
            have hck := hcell i hh
            have h1 : (i : Int) < (how.length : Int) := by omega
            have hu := (how[i]'hh).toNat_lt
            clear hcell
            go_wp2_with fail
            go_meet
            case rel => exact ⟨⟨(how[i]'hh).toNat % 3, by omega, by first | rfl | (congr 1; omega)⟩, rfl⟩
          · have h1 : ¬ (i : Int) < (how.length : Int) := by omega
            go_wp2_with fail
            go_meet
            case rel => exact ⟨⟨0, by omega, rfl⟩, rfl⟩
        case rest =>
          obtain ⟨⟨k, hk3, rfl⟩, rfl⟩ := hcut
          rcases (show k = 0 ∨ k = 1 ∨ k = 2 by omega) with rfl | rfl | rfl
          · by_cases h34 : x[i]'hlt = 34
            · have k34 : (((x[i]'hlt).toNat : Int) == 34) = true := by rw [h34]; rfl
              have HCK := Lib.hid (show Chunk [92, x[i]'hlt] (x[i]'hlt) from chunk_letter (by rw [h34]; simp))
              clear h34
              go_wp2_with (at_builtin; go_must (refine wpList_append_lies _ (by rfl) _ _ _ (by rfl) w.heap.size 5 i0 _ 1 1 Tryd.underlying22 hi0 iz0 iz1 iz2 rfl (by omega) (.slice va n cp) n (bytesC (34 :: m)) (by rfl) (HO.out.alloc _) ⟨_, 0, none⟩ 2 2 [.int .u8 92, .int .u8 ((x[i]'hlt).toNat : Int)] (by rfl) (by rfl) (World.news_of_block (cs := #[.int .u8 92, .int .u8 ((x[i]'hlt).toNat : Int)]) (t := 5) (fr := (0, 0)) (heap_alloc_new _ _)) (by simp [Value.oneCell']) (by omega) (by unfold maxLen; omega) (by omega) (by first | (simp; done) | (simp; omega)) _ rfl ?_; intro g3 cap3 w8 hown8 hgrow8 hat8 hlt8))
              have HE8 := Lib.hid (show Enc (m ++ [92, x[i]'hlt]) (x.data.toList.take (i + 1)) by rw [HTK.out]; exact HENC.out.snoc HCK.out)
              have HL8 := Lib.hid (show (m ++ [92, x[i]'hlt]).length + 1 = n + 2 by rw [HN.out, List.length_append]; first | (simp only [List.length_cons, List.length_nil]; done) | (simp only [List.length_cons, List.length_nil]; omega))
              have HO8 := Lib.hid (show w8.ownsRow w.heap.size 5 1 (.slice (some ⟨g3, 0, none⟩) (n + 2) cap3) (n + 2) (bytesC (34 :: (m ++ [92, x[i]'hlt]))) by
                rw [← List.cons_append, bytesC_append]
                exact hown8)
              have HB8 := Lib.hid (Below.grown (B := w.heap.size) (by first | exact HBE.out.alloc hzw _ | exact (HBE.out.alloc hzw _).drew) hgrow8 (by first | (simp; omega) | (show w.heap.size ≤ _; rw [World.size_alloc]; omega)) (ownBlock_lo HO.out))
              clear hown8 hgrow8 hat8 hlt8
              try go_wp2_with fail
              go_roundw
              case rel => exact ⟨i + 1, m ++ [92, x[i]'hlt], some ⟨g3, 0, none⟩, cap3, by omega, by go_num, by rw [HL8.out], by rw [HL8.out]; exact HO8.out, HE8.out, by have := HL8.out; omega, HB8.out⟩
              case measure => simp [intOf]; omega
            have k34 := u8_ne h34 (n := 34) rfl
            by_cases h92 : x[i]'hlt = 92
            · have k92 : (((x[i]'hlt).toNat : Int) == 92) = true := by rw [h92]; rfl
              have HCK := Lib.hid (show Chunk [92, x[i]'hlt] (x[i]'hlt) from chunk_letter (by rw [h92]; simp))
              clear h92 h34
              go_wp2_with (at_builtin; go_must (refine wpList_append_lies _ (by rfl) _ _ _ (by rfl) w.heap.size 5 i0 _ 1 1 Tryd.underlying22 hi0 iz0 iz1 iz2 rfl (by omega) (.slice va n cp) n (bytesC (34 :: m)) (by rfl) (HO.out.alloc _) ⟨_, 0, none⟩ 2 2 [.int .u8 92, .int .u8 ((x[i]'hlt).toNat : Int)] (by rfl) (by rfl) (World.news_of_block (cs := #[.int .u8 92, .int .u8 ((x[i]'hlt).toNat : Int)]) (t := 5) (fr := (0, 0)) (heap_alloc_new _ _)) (by simp [Value.oneCell']) (by omega) (by unfold maxLen; omega) (by omega) (by first | (simp; done) | (simp; omega)) _ rfl ?_; intro g3 cap3 w8 hown8 hgrow8 hat8 hlt8))
              have HE8 := Lib.hid (show Enc (m ++ [92, x[i]'hlt]) (x.data.toList.take (i + 1)) by rw [HTK.out]; exact HENC.out.snoc HCK.out)
              have HL8 := Lib.hid (show (m ++ [92, x[i]'hlt]).length + 1 = n + 2 by rw [HN.out, List.length_append]; first | (simp only [List.length_cons, List.length_nil]; done) | (simp only [List.length_cons, List.length_nil]; omega))
              have HO8 := Lib.hid (show w8.ownsRow w.heap.size 5 1 (.slice (some ⟨g3, 0, none⟩) (n + 2) cap3) (n + 2) (bytesC (34 :: (m ++ [92, x[i]'hlt]))) by
                rw [← List.cons_append, bytesC_append]
                exact hown8)
              have HB8 := Lib.hid (Below.grown (B := w.heap.size) (by first | exact HBE.out.alloc hzw _ | exact (HBE.out.alloc hzw _).drew) hgrow8 (by first | (simp; omega) | (show w.heap.size ≤ _; rw [World.size_alloc]; omega)) (ownBlock_lo HO.out))
              clear hown8 hgrow8 hat8 hlt8
              try go_wp2_with fail
              go_roundw
              case rel => exact ⟨i + 1, m ++ [92, x[i]'hlt], some ⟨g3, 0, none⟩, cap3, by omega, by go_num, by rw [HL8.out], by rw [HL8.out]; exact HO8.out, HE8.out, by have := HL8.out; omega, HB8.out⟩
              case measure => simp [intOf]; omega
            have k92 := u8_ne h92 (n := 92) rfl
            by_cases hlo : (x[i]'hlt).toNat < 32
            · have klo : ((x[i]'hlt).toNat : Int) < 32 := by omega
              clear h92 h34 hlo
              have hx1 : ((x[i]'hlt).toNat : Int) / 16 = ((x[i]'hlt).toNat / 16 : Nat) := by omega
              obtain ⟨p, hp⟩ : ∃ p, p = (x[i]'hlt).toNat / 16 := ⟨_, rfl⟩
              obtain ⟨q, hq⟩ : ∃ q, q = (x[i]'hlt).toNat % 16 := ⟨_, rfl⟩
              have hx2 := (x[i]'hlt).toNat_lt
              have hp2 : p < 16 := by omega
              have hq2 : q < 16 := by omega
              have HCK := Lib.hid (show Chunk [92, 120, upS[p]'hp2, loS[q]'hq2] (x[i]'hlt) from chunk_hex hp2 hq2 (hexS_upS p hp2) (hexS_loS q hq2) (by omega))
              have e1 : ((x[i]'hlt).toNat : Int) / 16 = (p : Int) := by omega
              have e2 : ((x[i]'hlt).toNat : Int).tmod 16 = (q : Int) := by rw [Int.tmod_eq_emod_of_nonneg (by omega)]; omega
              have p0 : (0 : Int) ≤ (p : Int) := by omega
              have p1 : (p : Int) < 16 := by omega
              have r0 : (0 : Int) ≤ (q : Int) := by omega
              have r1 : (q : Int) < 16 := by omega
              have w1 := u8_small p hp2
              have w2 := u8_small q hq2
              clear hp hq hx1 hx2
              go_wp2_with fail
              go_region_law (first
                | (refine step_append_lies _ (by rfl) _ _ _ (by rfl) w.heap.size 5 i0 _ 1 1 Tryd.underlying22 hi0 iz0 iz1 iz2 rfl (by omega) (.slice va n cp) n (bytesC (34 :: m)) (by rfl) (by first | exact HO.out.alloc _ | exact (HO.out.alloc _).drew) ⟨_, 0, none⟩ 4 4 [.int .u8 92, .int .u8 120, .int .u8 ((upS[p]'hp2).toNat : Int), .int .u8 ((loS[q]'hq2).toNat : Int)] (by rfl) (by rfl) (World.news_of_block (cs := #[.int .u8 92, .int .u8 120, .int .u8 ((upS[p]'hp2).toNat : Int), .int .u8 ((loS[q]'hq2).toNat : Int)]) (t := 5) (fr := (0, 0)) (heap_alloc_new _ _)) (by simp [Value.oneCell']) (by omega) (by unfold maxLen; omega) (by omega) (by first | (simp; done) | (simp; omega)) _ rfl ?_; intro g3 cap3 w8 hown8 hgrow8 hat8 hlt8))
              all_goals
                have HE8 := Lib.hid (show Enc (m ++ [92, 120, upS[p]'hp2, loS[q]'hq2]) (x.data.toList.take (i + 1)) by rw [HTK.out]; exact HENC.out.snoc HCK.out)
                have HL8 := Lib.hid (show (m ++ [92, 120, upS[p]'hp2, loS[q]'hq2]).length + 1 = n + 4 by rw [HN.out, List.length_append]; first | (simp only [List.length_cons, List.length_nil]; done) | (simp only [List.length_cons, List.length_nil]; omega))
                have HO8 := Lib.hid (show w8.ownsRow w.heap.size 5 1 (.slice (some ⟨g3, 0, none⟩) (n + 4) cap3) (n + 4) (bytesC (34 :: (m ++ [92, 120, upS[p]'hp2, loS[q]'hq2]))) by
                  rw [← List.cons_append, bytesC_append]
                  exact hown8)
                have HB8 := Lib.hid (Below.grown (B := w.heap.size) (by first | exact HBE.out.alloc hzw _ | exact (HBE.out.alloc hzw _).drew) hgrow8 (by first | (simp; omega) | (show w.heap.size ≤ _; rw [World.size_alloc]; omega)) (ownBlock_lo HO.out))
                clear hown8 hgrow8 hat8 hlt8
                try go_wp2_with fail
                go_roundw
                case rel => exact ⟨i + 1, m ++ [92, 120, upS[p]'hp2, loS[q]'hq2], some ⟨g3, 0, none⟩, cap3, by omega, by go_num, by rw [HL8.out], by rw [HL8.out]; exact HO8.out, HE8.out, by have := HL8.out; omega, HB8.out⟩
                case measure => simp [intOf]; omega
            have klo : ¬ ((x[i]'hlt).toNat : Int) < 32 := by omega
            by_cases hhi : 126 < (x[i]'hlt).toNat
            · have khi : (126 : Int) < ((x[i]'hlt).toNat : Int) := by omega
              clear h92 h34 hlo hhi
              have hx1 : ((x[i]'hlt).toNat : Int) / 16 = ((x[i]'hlt).toNat / 16 : Nat) := by omega
              obtain ⟨p, hp⟩ : ∃ p, p = (x[i]'hlt).toNat / 16 := ⟨_, rfl⟩
              obtain ⟨q, hq⟩ : ∃ q, q = (x[i]'hlt).toNat % 16 := ⟨_, rfl⟩
              have hx2 := (x[i]'hlt).toNat_lt
              have hp2 : p < 16 := by omega
              have hq2 : q < 16 := by omega
              have HCK := Lib.hid (show Chunk [92, 120, upS[p]'hp2, loS[q]'hq2] (x[i]'hlt) from chunk_hex hp2 hq2 (hexS_upS p hp2) (hexS_loS q hq2) (by omega))
              have e1 : ((x[i]'hlt).toNat : Int) / 16 = (p : Int) := by omega
              have e2 : ((x[i]'hlt).toNat : Int).tmod 16 = (q : Int) := by rw [Int.tmod_eq_emod_of_nonneg (by omega)]; omega
              have p0 : (0 : Int) ≤ (p : Int) := by omega
              have p1 : (p : Int) < 16 := by omega
              have r0 : (0 : Int) ≤ (q : Int) := by omega
              have r1 : (q : Int) < 16 := by omega
              have w1 := u8_small p hp2
              have w2 := u8_small q hq2
              clear hp hq hx1 hx2
              go_wp2_with fail
              go_region_law (first
                | (refine step_append_lies _ (by rfl) _ _ _ (by rfl) w.heap.size 5 i0 _ 1 1 Tryd.underlying22 hi0 iz0 iz1 iz2 rfl (by omega) (.slice va n cp) n (bytesC (34 :: m)) (by rfl) (by first | exact HO.out.alloc _ | exact (HO.out.alloc _).drew) ⟨_, 0, none⟩ 4 4 [.int .u8 92, .int .u8 120, .int .u8 ((upS[p]'hp2).toNat : Int), .int .u8 ((loS[q]'hq2).toNat : Int)] (by rfl) (by rfl) (World.news_of_block (cs := #[.int .u8 92, .int .u8 120, .int .u8 ((upS[p]'hp2).toNat : Int), .int .u8 ((loS[q]'hq2).toNat : Int)]) (t := 5) (fr := (0, 0)) (heap_alloc_new _ _)) (by simp [Value.oneCell']) (by omega) (by unfold maxLen; omega) (by omega) (by first | (simp; done) | (simp; omega)) _ rfl ?_; intro g3 cap3 w8 hown8 hgrow8 hat8 hlt8))
              all_goals
                have HE8 := Lib.hid (show Enc (m ++ [92, 120, upS[p]'hp2, loS[q]'hq2]) (x.data.toList.take (i + 1)) by rw [HTK.out]; exact HENC.out.snoc HCK.out)
                have HL8 := Lib.hid (show (m ++ [92, 120, upS[p]'hp2, loS[q]'hq2]).length + 1 = n + 4 by rw [HN.out, List.length_append]; first | (simp only [List.length_cons, List.length_nil]; done) | (simp only [List.length_cons, List.length_nil]; omega))
                have HO8 := Lib.hid (show w8.ownsRow w.heap.size 5 1 (.slice (some ⟨g3, 0, none⟩) (n + 4) cap3) (n + 4) (bytesC (34 :: (m ++ [92, 120, upS[p]'hp2, loS[q]'hq2]))) by
                  rw [← List.cons_append, bytesC_append]
                  exact hown8)
                have HB8 := Lib.hid (Below.grown (B := w.heap.size) (by first | exact HBE.out.alloc hzw _ | exact (HBE.out.alloc hzw _).drew) hgrow8 (by first | (simp; omega) | (show w.heap.size ≤ _; rw [World.size_alloc]; omega)) (ownBlock_lo HO.out))
                clear hown8 hgrow8 hat8 hlt8
                try go_wp2_with fail
                go_roundw
                case rel => exact ⟨i + 1, m ++ [92, 120, upS[p]'hp2, loS[q]'hq2], some ⟨g3, 0, none⟩, cap3, by omega, by go_num, by rw [HL8.out], by rw [HL8.out]; exact HO8.out, HE8.out, by have := HL8.out; omega, HB8.out⟩
                case measure => simp [intOf]; omega
            have khi : ¬ (126 : Int) < ((x[i]'hlt).toNat : Int) := by omega
            have HCK := Lib.hid (show Chunk [x[i]'hlt] (x[i]'hlt) from chunk_plain (by omega) (by omega) h34 h92)
            clear h92 h34 hlo hhi
            go_wp2_with (at_builtin; go_must (refine wpList_append_lies _ (by rfl) _ _ _ (by rfl) w.heap.size 5 i0 _ 1 1 Tryd.underlying22 hi0 iz0 iz1 iz2 rfl (by omega) (.slice va n cp) n (bytesC (34 :: m)) (by rfl) (HO.out.alloc _) ⟨_, 0, none⟩ 1 1 [.int .u8 ((x[i]'hlt).toNat : Int)] (by rfl) (by rfl) (World.news_of_block (cs := #[.int .u8 ((x[i]'hlt).toNat : Int)]) (t := 5) (fr := (0, 0)) (heap_alloc_new _ _)) (by simp [Value.oneCell']) (by omega) (by unfold maxLen; omega) (by omega) (by first | (simp; done) | (simp; omega)) _ rfl ?_; intro g3 cap3 w8 hown8 hgrow8 hat8 hlt8))
            have HE8 := Lib.hid (show Enc (m ++ [x[i]'hlt]) (x.data.toList.take (i + 1)) by rw [HTK.out]; exact HENC.out.snoc HCK.out)
            have HL8 := Lib.hid (show (m ++ [x[i]'hlt]).length + 1 = n + 1 by rw [HN.out, List.length_append]; first | (simp only [List.length_cons, List.length_nil]; done) | (simp only [List.length_cons, List.length_nil]; omega))
            have HO8 := Lib.hid (show w8.ownsRow w.heap.size 5 1 (.slice (some ⟨g3, 0, none⟩) (n + 1) cap3) (n + 1) (bytesC (34 :: (m ++ [x[i]'hlt]))) by
              rw [← List.cons_append, bytesC_append]
              exact hown8)
            have HB8 := Lib.hid (Below.grown (B := w.heap.size) (by first | exact HBE.out.alloc hzw _ | exact (HBE.out.alloc hzw _).drew) hgrow8 (by first | (simp; omega) | (show w.heap.size ≤ _; rw [World.size_alloc]; omega)) (ownBlock_lo HO.out))
            clear hown8 hgrow8 hat8 hlt8
            try go_wp2_with fail
            go_roundw
            case rel => exact ⟨i + 1, m ++ [x[i]'hlt], some ⟨g3, 0, none⟩, cap3, by omega, by go_num, by rw [HL8.out], by rw [HL8.out]; exact HO8.out, HE8.out, by have := HL8.out; omega, HB8.out⟩
            case measure => simp [intOf]; omega
          · have hx1 : ((x[i]'hlt).toNat : Int) / 16 = ((x[i]'hlt).toNat / 16 : Nat) := by omega
            obtain ⟨p, hp⟩ : ∃ p, p = (x[i]'hlt).toNat / 16 := ⟨_, rfl⟩
            obtain ⟨q, hq⟩ : ∃ q, q = (x[i]'hlt).toNat % 16 := ⟨_, rfl⟩
            have hx2 := (x[i]'hlt).toNat_lt
            have hp2 : p < 16 := by omega
            have hq2 : q < 16 := by omega
            have HCK := Lib.hid (show Chunk [92, 120, loS[p]'hp2, upS[q]'hq2] (x[i]'hlt) from chunk_hex hp2 hq2 (hexS_loS p hp2) (hexS_upS q hq2) (by omega))
            have e1 : ((x[i]'hlt).toNat : Int) / 16 = (p : Int) := by omega
            have e2 : ((x[i]'hlt).toNat : Int).tmod 16 = (q : Int) := by rw [Int.tmod_eq_emod_of_nonneg (by omega)]; omega
            have p0 : (0 : Int) ≤ (p : Int) := by omega
            have p1 : (p : Int) < 16 := by omega
            have r0 : (0 : Int) ≤ (q : Int) := by omega
            have r1 : (q : Int) < 16 := by omega
            have w1 := u8_small p hp2
            have w2 := u8_small q hq2
            clear hp hq hx1 hx2
            go_wp2_with fail
            go_region_law (first
              | (refine step_append_lies _ (by rfl) _ _ _ (by rfl) w.heap.size 5 i0 _ 1 1 Tryd.underlying22 hi0 iz0 iz1 iz2 rfl (by omega) (.slice va n cp) n (bytesC (34 :: m)) (by rfl) (by first | exact HO.out.alloc _ | exact (HO.out.alloc _).drew) ⟨_, 0, none⟩ 4 4 [.int .u8 92, .int .u8 120, .int .u8 ((loS[p]'hp2).toNat : Int), .int .u8 ((upS[q]'hq2).toNat : Int)] (by rfl) (by rfl) (World.news_of_block (cs := #[.int .u8 92, .int .u8 120, .int .u8 ((loS[p]'hp2).toNat : Int), .int .u8 ((upS[q]'hq2).toNat : Int)]) (t := 5) (fr := (0, 0)) (heap_alloc_new _ _)) (by simp [Value.oneCell']) (by omega) (by unfold maxLen; omega) (by omega) (by first | (simp; done) | (simp; omega)) _ rfl ?_; intro g3 cap3 w8 hown8 hgrow8 hat8 hlt8))
            all_goals
              have HE8 := Lib.hid (show Enc (m ++ [92, 120, loS[p]'hp2, upS[q]'hq2]) (x.data.toList.take (i + 1)) by rw [HTK.out]; exact HENC.out.snoc HCK.out)
              have HL8 := Lib.hid (show (m ++ [92, 120, loS[p]'hp2, upS[q]'hq2]).length + 1 = n + 4 by rw [HN.out, List.length_append]; first | (simp only [List.length_cons, List.length_nil]; done) | (simp only [List.length_cons, List.length_nil]; omega))
              have HO8 := Lib.hid (show w8.ownsRow w.heap.size 5 1 (.slice (some ⟨g3, 0, none⟩) (n + 4) cap3) (n + 4) (bytesC (34 :: (m ++ [92, 120, loS[p]'hp2, upS[q]'hq2]))) by
                rw [← List.cons_append, bytesC_append]
                exact hown8)
              have HB8 := Lib.hid (Below.grown (B := w.heap.size) (by first | exact HBE.out.alloc hzw _ | exact (HBE.out.alloc hzw _).drew) hgrow8 (by first | (simp; omega) | (show w.heap.size ≤ _; rw [World.size_alloc]; omega)) (ownBlock_lo HO.out))
              clear hown8 hgrow8 hat8 hlt8
              try go_wp2_with fail
              go_roundw
              case rel => exact ⟨i + 1, m ++ [92, 120, loS[p]'hp2, upS[q]'hq2], some ⟨g3, 0, none⟩, cap3, by omega, by go_num, by rw [HL8.out], by rw [HL8.out]; exact HO8.out, HE8.out, by have := HL8.out; omega, HB8.out⟩
              case measure => simp [intOf]; omega
          · by_cases h10 : x[i]'hlt = 10
            · have k10 : (((x[i]'hlt).toNat : Int) == 10) = true := by rw [h10]; rfl
              have HCK := Lib.hid (show Chunk [92, 110] (x[i]'hlt) from chunk_letter (by rw [h10]; simp))
              clear h10
              go_wp2_with (at_builtin; go_must (refine wpList_append_lies _ (by rfl) _ _ _ (by rfl) w.heap.size 5 i0 _ 1 1 Tryd.underlying22 hi0 iz0 iz1 iz2 rfl (by omega) (.slice va n cp) n (bytesC (34 :: m)) (by rfl) (HO.out.alloc _) ⟨_, 0, none⟩ 2 2 [.int .u8 92, .int .u8 110] (by rfl) (by rfl) (World.news_of_block (cs := #[.int .u8 92, .int .u8 110]) (t := 5) (fr := (0, 0)) (heap_alloc_new _ _)) (by simp [Value.oneCell']) (by omega) (by unfold maxLen; omega) (by omega) (by first | (simp; done) | (simp; omega)) _ rfl ?_; intro g3 cap3 w8 hown8 hgrow8 hat8 hlt8))
              have HE8 := Lib.hid (show Enc (m ++ [92, 110]) (x.data.toList.take (i + 1)) by rw [HTK.out]; exact HENC.out.snoc HCK.out)
              have HL8 := Lib.hid (show (m ++ [92, 110]).length + 1 = n + 2 by rw [HN.out, List.length_append]; first | (simp only [List.length_cons, List.length_nil]; done) | (simp only [List.length_cons, List.length_nil]; omega))
              have HO8 := Lib.hid (show w8.ownsRow w.heap.size 5 1 (.slice (some ⟨g3, 0, none⟩) (n + 2) cap3) (n + 2) (bytesC (34 :: (m ++ [92, 110]))) by
                rw [← List.cons_append, bytesC_append]
                exact hown8)
              have HB8 := Lib.hid (Below.grown (B := w.heap.size) (by first | exact HBE.out.alloc hzw _ | exact (HBE.out.alloc hzw _).drew) hgrow8 (by first | (simp; omega) | (show w.heap.size ≤ _; rw [World.size_alloc]; omega)) (ownBlock_lo HO.out))
              clear hown8 hgrow8 hat8 hlt8
              try go_wp2_with fail
              go_roundw
              case rel => exact ⟨i + 1, m ++ [92, 110], some ⟨g3, 0, none⟩, cap3, by omega, by go_num, by rw [HL8.out], by rw [HL8.out]; exact HO8.out, HE8.out, by have := HL8.out; omega, HB8.out⟩
              case measure => simp [intOf]; omega
            have k10 := u8_ne h10 (n := 10) rfl
            by_cases h9 : x[i]'hlt = 9
            · have k9 : (((x[i]'hlt).toNat : Int) == 9) = true := by rw [h9]; rfl
              have HCK := Lib.hid (show Chunk [92, 116] (x[i]'hlt) from chunk_letter (by rw [h9]; simp))
              clear h9 h10
              go_wp2_with (at_builtin; go_must (refine wpList_append_lies _ (by rfl) _ _ _ (by rfl) w.heap.size 5 i0 _ 1 1 Tryd.underlying22 hi0 iz0 iz1 iz2 rfl (by omega) (.slice va n cp) n (bytesC (34 :: m)) (by rfl) (HO.out.alloc _) ⟨_, 0, none⟩ 2 2 [.int .u8 92, .int .u8 116] (by rfl) (by rfl) (World.news_of_block (cs := #[.int .u8 92, .int .u8 116]) (t := 5) (fr := (0, 0)) (heap_alloc_new _ _)) (by simp [Value.oneCell']) (by omega) (by unfold maxLen; omega) (by omega) (by first | (simp; done) | (simp; omega)) _ rfl ?_; intro g3 cap3 w8 hown8 hgrow8 hat8 hlt8))
              have HE8 := Lib.hid (show Enc (m ++ [92, 116]) (x.data.toList.take (i + 1)) by rw [HTK.out]; exact HENC.out.snoc HCK.out)
              have HL8 := Lib.hid (show (m ++ [92, 116]).length + 1 = n + 2 by rw [HN.out, List.length_append]; first | (simp only [List.length_cons, List.length_nil]; done) | (simp only [List.length_cons, List.length_nil]; omega))
              have HO8 := Lib.hid (show w8.ownsRow w.heap.size 5 1 (.slice (some ⟨g3, 0, none⟩) (n + 2) cap3) (n + 2) (bytesC (34 :: (m ++ [92, 116]))) by
                rw [← List.cons_append, bytesC_append]
                exact hown8)
              have HB8 := Lib.hid (Below.grown (B := w.heap.size) (by first | exact HBE.out.alloc hzw _ | exact (HBE.out.alloc hzw _).drew) hgrow8 (by first | (simp; omega) | (show w.heap.size ≤ _; rw [World.size_alloc]; omega)) (ownBlock_lo HO.out))
              clear hown8 hgrow8 hat8 hlt8
              try go_wp2_with fail
              go_roundw
              case rel => exact ⟨i + 1, m ++ [92, 116], some ⟨g3, 0, none⟩, cap3, by omega, by go_num, by rw [HL8.out], by rw [HL8.out]; exact HO8.out, HE8.out, by have := HL8.out; omega, HB8.out⟩
              case measure => simp [intOf]; omega
            have k9 := u8_ne h9 (n := 9) rfl
            clear h9 h10
            by_cases h34 : x[i]'hlt = 34
            · have k34 : (((x[i]'hlt).toNat : Int) == 34) = true := by rw [h34]; rfl
              have HCK := Lib.hid (show Chunk [92, x[i]'hlt] (x[i]'hlt) from chunk_letter (by rw [h34]; simp))
              clear h34
              go_wp2_with (at_builtin; go_must (refine wpList_append_lies _ (by rfl) _ _ _ (by rfl) w.heap.size 5 i0 _ 1 1 Tryd.underlying22 hi0 iz0 iz1 iz2 rfl (by omega) (.slice va n cp) n (bytesC (34 :: m)) (by rfl) (HO.out.alloc _) ⟨_, 0, none⟩ 2 2 [.int .u8 92, .int .u8 ((x[i]'hlt).toNat : Int)] (by rfl) (by rfl) (World.news_of_block (cs := #[.int .u8 92, .int .u8 ((x[i]'hlt).toNat : Int)]) (t := 5) (fr := (0, 0)) (heap_alloc_new _ _)) (by simp [Value.oneCell']) (by omega) (by unfold maxLen; omega) (by omega) (by first | (simp; done) | (simp; omega)) _ rfl ?_; intro g3 cap3 w8 hown8 hgrow8 hat8 hlt8))
              have HE8 := Lib.hid (show Enc (m ++ [92, x[i]'hlt]) (x.data.toList.take (i + 1)) by rw [HTK.out]; exact HENC.out.snoc HCK.out)
              have HL8 := Lib.hid (show (m ++ [92, x[i]'hlt]).length + 1 = n + 2 by rw [HN.out, List.length_append]; first | (simp only [List.length_cons, List.length_nil]; done) | (simp only [List.length_cons, List.length_nil]; omega))
              have HO8 := Lib.hid (show w8.ownsRow w.heap.size 5 1 (.slice (some ⟨g3, 0, none⟩) (n + 2) cap3) (n + 2) (bytesC (34 :: (m ++ [92, x[i]'hlt]))) by
                rw [← List.cons_append, bytesC_append]
                exact hown8)
              have HB8 := Lib.hid (Below.grown (B := w.heap.size) (by first | exact HBE.out.alloc hzw _ | exact (HBE.out.alloc hzw _).drew) hgrow8 (by first | (simp; omega) | (show w.heap.size ≤ _; rw [World.size_alloc]; omega)) (ownBlock_lo HO.out))
              clear hown8 hgrow8 hat8 hlt8
              try go_wp2_with fail
              go_roundw
              case rel => exact ⟨i + 1, m ++ [92, x[i]'hlt], some ⟨g3, 0, none⟩, cap3, by omega, by go_num, by rw [HL8.out], by rw [HL8.out]; exact HO8.out, HE8.out, by have := HL8.out; omega, HB8.out⟩
              case measure => simp [intOf]; omega
            have k34 := u8_ne h34 (n := 34) rfl
            by_cases h92 : x[i]'hlt = 92
            · have k92 : (((x[i]'hlt).toNat : Int) == 92) = true := by rw [h92]; rfl
              have HCK := Lib.hid (show Chunk [92, x[i]'hlt] (x[i]'hlt) from chunk_letter (by rw [h92]; simp))
              clear h92 h34
              go_wp2_with (at_builtin; go_must (refine wpList_append_lies _ (by rfl) _ _ _ (by rfl) w.heap.size 5 i0 _ 1 1 Tryd.underlying22 hi0 iz0 iz1 iz2 rfl (by omega) (.slice va n cp) n (bytesC (34 :: m)) (by rfl) (HO.out.alloc _) ⟨_, 0, none⟩ 2 2 [.int .u8 92, .int .u8 ((x[i]'hlt).toNat : Int)] (by rfl) (by rfl) (World.news_of_block (cs := #[.int .u8 92, .int .u8 ((x[i]'hlt).toNat : Int)]) (t := 5) (fr := (0, 0)) (heap_alloc_new _ _)) (by simp [Value.oneCell']) (by omega) (by unfold maxLen; omega) (by omega) (by first | (simp; done) | (simp; omega)) _ rfl ?_; intro g3 cap3 w8 hown8 hgrow8 hat8 hlt8))
              have HE8 := Lib.hid (show Enc (m ++ [92, x[i]'hlt]) (x.data.toList.take (i + 1)) by rw [HTK.out]; exact HENC.out.snoc HCK.out)
              have HL8 := Lib.hid (show (m ++ [92, x[i]'hlt]).length + 1 = n + 2 by rw [HN.out, List.length_append]; first | (simp only [List.length_cons, List.length_nil]; done) | (simp only [List.length_cons, List.length_nil]; omega))
              have HO8 := Lib.hid (show w8.ownsRow w.heap.size 5 1 (.slice (some ⟨g3, 0, none⟩) (n + 2) cap3) (n + 2) (bytesC (34 :: (m ++ [92, x[i]'hlt]))) by
                rw [← List.cons_append, bytesC_append]
                exact hown8)
              have HB8 := Lib.hid (Below.grown (B := w.heap.size) (by first | exact HBE.out.alloc hzw _ | exact (HBE.out.alloc hzw _).drew) hgrow8 (by first | (simp; omega) | (show w.heap.size ≤ _; rw [World.size_alloc]; omega)) (ownBlock_lo HO.out))
              clear hown8 hgrow8 hat8 hlt8
              try go_wp2_with fail
              go_roundw
              case rel => exact ⟨i + 1, m ++ [92, x[i]'hlt], some ⟨g3, 0, none⟩, cap3, by omega, by go_num, by rw [HL8.out], by rw [HL8.out]; exact HO8.out, HE8.out, by have := HL8.out; omega, HB8.out⟩
              case measure => simp [intOf]; omega
            have k92 := u8_ne h92 (n := 92) rfl
            by_cases hlo : (x[i]'hlt).toNat < 32
            · have klo : ((x[i]'hlt).toNat : Int) < 32 := by omega
              clear h92 h34 hlo
              have hx1 : ((x[i]'hlt).toNat : Int) / 16 = ((x[i]'hlt).toNat / 16 : Nat) := by omega
              obtain ⟨p, hp⟩ : ∃ p, p = (x[i]'hlt).toNat / 16 := ⟨_, rfl⟩
              obtain ⟨q, hq⟩ : ∃ q, q = (x[i]'hlt).toNat % 16 := ⟨_, rfl⟩
              have hx2 := (x[i]'hlt).toNat_lt
              have hp2 : p < 16 := by omega
              have hq2 : q < 16 := by omega
              have HCK := Lib.hid (show Chunk [92, 120, upS[p]'hp2, loS[q]'hq2] (x[i]'hlt) from chunk_hex hp2 hq2 (hexS_upS p hp2) (hexS_loS q hq2) (by omega))
              have e1 : ((x[i]'hlt).toNat : Int) / 16 = (p : Int) := by omega
              have e2 : ((x[i]'hlt).toNat : Int).tmod 16 = (q : Int) := by rw [Int.tmod_eq_emod_of_nonneg (by omega)]; omega
              have p0 : (0 : Int) ≤ (p : Int) := by omega
              have p1 : (p : Int) < 16 := by omega
              have r0 : (0 : Int) ≤ (q : Int) := by omega
              have r1 : (q : Int) < 16 := by omega
              have w1 := u8_small p hp2
              have w2 := u8_small q hq2
              clear hp hq hx1 hx2
              go_wp2_with fail
              go_region_law (first
                | (refine step_append_lies _ (by rfl) _ _ _ (by rfl) w.heap.size 5 i0 _ 1 1 Tryd.underlying22 hi0 iz0 iz1 iz2 rfl (by omega) (.slice va n cp) n (bytesC (34 :: m)) (by rfl) (by first | exact HO.out.alloc _ | exact (HO.out.alloc _).drew) ⟨_, 0, none⟩ 4 4 [.int .u8 92, .int .u8 120, .int .u8 ((upS[p]'hp2).toNat : Int), .int .u8 ((loS[q]'hq2).toNat : Int)] (by rfl) (by rfl) (World.news_of_block (cs := #[.int .u8 92, .int .u8 120, .int .u8 ((upS[p]'hp2).toNat : Int), .int .u8 ((loS[q]'hq2).toNat : Int)]) (t := 5) (fr := (0, 0)) (heap_alloc_new _ _)) (by simp [Value.oneCell']) (by omega) (by unfold maxLen; omega) (by omega) (by first | (simp; done) | (simp; omega)) _ rfl ?_; intro g3 cap3 w8 hown8 hgrow8 hat8 hlt8))
              all_goals
                have HE8 := Lib.hid (show Enc (m ++ [92, 120, upS[p]'hp2, loS[q]'hq2]) (x.data.toList.take (i + 1)) by rw [HTK.out]; exact HENC.out.snoc HCK.out)
                have HL8 := Lib.hid (show (m ++ [92, 120, upS[p]'hp2, loS[q]'hq2]).length + 1 = n + 4 by rw [HN.out, List.length_append]; first | (simp only [List.length_cons, List.length_nil]; done) | (simp only [List.length_cons, List.length_nil]; omega))
                have HO8 := Lib.hid (show w8.ownsRow w.heap.size 5 1 (.slice (some ⟨g3, 0, none⟩) (n + 4) cap3) (n + 4) (bytesC (34 :: (m ++ [92, 120, upS[p]'hp2, loS[q]'hq2]))) by
                  rw [← List.cons_append, bytesC_append]
                  exact hown8)
                have HB8 := Lib.hid (Below.grown (B := w.heap.size) (by first | exact HBE.out.alloc hzw _ | exact (HBE.out.alloc hzw _).drew) hgrow8 (by first | (simp; omega) | (show w.heap.size ≤ _; rw [World.size_alloc]; omega)) (ownBlock_lo HO.out))
                clear hown8 hgrow8 hat8 hlt8
                try go_wp2_with fail
                go_roundw
                case rel => exact ⟨i + 1, m ++ [92, 120, upS[p]'hp2, loS[q]'hq2], some ⟨g3, 0, none⟩, cap3, by omega, by go_num, by rw [HL8.out], by rw [HL8.out]; exact HO8.out, HE8.out, by have := HL8.out; omega, HB8.out⟩
                case measure => simp [intOf]; omega
            have klo : ¬ ((x[i]'hlt).toNat : Int) < 32 := by omega
            by_cases hhi : 126 < (x[i]'hlt).toNat
            · have khi : (126 : Int) < ((x[i]'hlt).toNat : Int) := by omega
              clear h92 h34 hlo hhi
              have hx1 : ((x[i]'hlt).toNat : Int) / 16 = ((x[i]'hlt).toNat / 16 : Nat) := by omega
              obtain ⟨p, hp⟩ : ∃ p, p = (x[i]'hlt).toNat / 16 := ⟨_, rfl⟩
              obtain ⟨q, hq⟩ : ∃ q, q = (x[i]'hlt).toNat % 16 := ⟨_, rfl⟩
              have hx2 := (x[i]'hlt).toNat_lt
              have hp2 : p < 16 := by omega
              have hq2 : q < 16 := by omega
              have HCK := Lib.hid (show Chunk [92, 120, upS[p]'hp2, loS[q]'hq2] (x[i]'hlt) from chunk_hex hp2 hq2 (hexS_upS p hp2) (hexS_loS q hq2) (by omega))
              have e1 : ((x[i]'hlt).toNat : Int) / 16 = (p : Int) := by omega
              have e2 : ((x[i]'hlt).toNat : Int).tmod 16 = (q : Int) := by rw [Int.tmod_eq_emod_of_nonneg (by omega)]; omega
              have p0 : (0 : Int) ≤ (p : Int) := by omega
              have p1 : (p : Int) < 16 := by omega
              have r0 : (0 : Int) ≤ (q : Int) := by omega
              have r1 : (q : Int) < 16 := by omega
              have w1 := u8_small p hp2
              have w2 := u8_small q hq2
              clear hp hq hx1 hx2
              go_wp2_with fail
              go_region_law (first
                | (refine step_append_lies _ (by rfl) _ _ _ (by rfl) w.heap.size 5 i0 _ 1 1 Tryd.underlying22 hi0 iz0 iz1 iz2 rfl (by omega) (.slice va n cp) n (bytesC (34 :: m)) (by rfl) (by first | exact HO.out.alloc _ | exact (HO.out.alloc _).drew) ⟨_, 0, none⟩ 4 4 [.int .u8 92, .int .u8 120, .int .u8 ((upS[p]'hp2).toNat : Int), .int .u8 ((loS[q]'hq2).toNat : Int)] (by rfl) (by rfl) (World.news_of_block (cs := #[.int .u8 92, .int .u8 120, .int .u8 ((upS[p]'hp2).toNat : Int), .int .u8 ((loS[q]'hq2).toNat : Int)]) (t := 5) (fr := (0, 0)) (heap_alloc_new _ _)) (by simp [Value.oneCell']) (by omega) (by unfold maxLen; omega) (by omega) (by first | (simp; done) | (simp; omega)) _ rfl ?_; intro g3 cap3 w8 hown8 hgrow8 hat8 hlt8))
              all_goals
                have HE8 := Lib.hid (show Enc (m ++ [92, 120, upS[p]'hp2, loS[q]'hq2]) (x.data.toList.take (i + 1)) by rw [HTK.out]; exact HENC.out.snoc HCK.out)
                have HL8 := Lib.hid (show (m ++ [92, 120, upS[p]'hp2, loS[q]'hq2]).length + 1 = n + 4 by rw [HN.out, List.length_append]; first | (simp only [List.length_cons, List.length_nil]; done) | (simp only [List.length_cons, List.length_nil]; omega))
                have HO8 := Lib.hid (show w8.ownsRow w.heap.size 5 1 (.slice (some ⟨g3, 0, none⟩) (n + 4) cap3) (n + 4) (bytesC (34 :: (m ++ [92, 120, upS[p]'hp2, loS[q]'hq2]))) by
                  rw [← List.cons_append, bytesC_append]
                  exact hown8)
                have HB8 := Lib.hid (Below.grown (B := w.heap.size) (by first | exact HBE.out.alloc hzw _ | exact (HBE.out.alloc hzw _).drew) hgrow8 (by first | (simp; omega) | (show w.heap.size ≤ _; rw [World.size_alloc]; omega)) (ownBlock_lo HO.out))
                clear hown8 hgrow8 hat8 hlt8
                try go_wp2_with fail
                go_roundw
                case rel => exact ⟨i + 1, m ++ [92, 120, upS[p]'hp2, loS[q]'hq2], some ⟨g3, 0, none⟩, cap3, by omega, by go_num, by rw [HL8.out], by rw [HL8.out]; exact HO8.out, HE8.out, by have := HL8.out; omega, HB8.out⟩
                case measure => simp [intOf]; omega
            have khi : ¬ (126 : Int) < ((x[i]'hlt).toNat : Int) := by omega
            have HCK := Lib.hid (show Chunk [x[i]'hlt] (x[i]'hlt) from chunk_plain (by omega) (by omega) h34 h92)
            clear h92 h34 hlo hhi
            go_wp2_with (at_builtin; go_must (refine wpList_append_lies _ (by rfl) _ _ _ (by rfl) w.heap.size 5 i0 _ 1 1 Tryd.underlying22 hi0 iz0 iz1 iz2 rfl (by omega) (.slice va n cp) n (bytesC (34 :: m)) (by rfl) (HO.out.alloc _) ⟨_, 0, none⟩ 1 1 [.int .u8 ((x[i]'hlt).toNat : Int)] (by rfl) (by rfl) (World.news_of_block (cs := #[.int .u8 ((x[i]'hlt).toNat : Int)]) (t := 5) (fr := (0, 0)) (heap_alloc_new _ _)) (by simp [Value.oneCell']) (by omega) (by unfold maxLen; omega) (by omega) (by first | (simp; done) | (simp; omega)) _ rfl ?_; intro g3 cap3 w8 hown8 hgrow8 hat8 hlt8))
            have HE8 := Lib.hid (show Enc (m ++ [x[i]'hlt]) (x.data.toList.take (i + 1)) by rw [HTK.out]; exact HENC.out.snoc HCK.out)
            have HL8 := Lib.hid (show (m ++ [x[i]'hlt]).length + 1 = n + 1 by rw [HN.out, List.length_append]; first | (simp only [List.length_cons, List.length_nil]; done) | (simp only [List.length_cons, List.length_nil]; omega))
            have HO8 := Lib.hid (show w8.ownsRow w.heap.size 5 1 (.slice (some ⟨g3, 0, none⟩) (n + 1) cap3) (n + 1) (bytesC (34 :: (m ++ [x[i]'hlt]))) by
              rw [← List.cons_append, bytesC_append]
              exact hown8)
            have HB8 := Lib.hid (Below.grown (B := w.heap.size) (by first | exact HBE.out.alloc hzw _ | exact (HBE.out.alloc hzw _).drew) hgrow8 (by first | (simp; omega) | (show w.heap.size ≤ _; rw [World.size_alloc]; omega)) (ownBlock_lo HO.out))
            clear hown8 hgrow8 hat8 hlt8
            try go_wp2_with fail
            go_roundw
            case rel => exact ⟨i + 1, m ++ [x[i]'hlt], some ⟨g3, 0, none⟩, cap3, by omega, by go_num, by rw [HL8.out], by rw [HL8.out]; exact HO8.out, HE8.out, by have := HL8.out; omega, HB8.out⟩
            case measure => simp [intOf]; omega
      · have hfin : x.data.toList.take i = x.data.toList := List.take_of_length_le (show x.size ≤ i by omega)
        have hen := HENC.out
        rw [hfin] at hen
        have HEN := Lib.hid hen
        have hk : ¬ (i : Int) < (x.size : Int) := by omega
        have hn2 : n ≤ 1025 := by omega
        obtain ⟨t1, ht1⟩ : ∃ t1 : ByteArray, t1 = ⟨(34 :: m).toArray⟩ := ⟨_, rfl⟩
        have hcv : (convert 22 9 (.slice va n cp)).run Tryd.prog wr = .ok (.string t1) wr := by
          rw [ht1, HN.out]
          have h := HO.out
          rw [HN.out] at h
          exact conv_owned (c := 34 :: m) h
        have HS1 := Lib.hid (show ∀ W, Tabs W → Calls Tryd.prog 9 #[.string t1] W fun e w' => (∃ (va : Option Addr) (cap : Nat), e = .returned (.tuple #[.slice va 0 cap, .int .i64 0, .int .i64 52])) ∧ Below W.heap.size W w' from fun W hW => by
          have hs : t1.size = n := by rw [ht1, HN.out]; rfl
          have hl : t1.data.toList = 34 :: m := by rw [ht1]
          have h := scan_any t1 W (by omega) hW
          rw [hl, scan_open HEN.out hxs] at h
          refine h.mono ?_
          rintro e w' ⟨⟨va, ca, h1, _⟩, h2⟩
          refine ⟨⟨va, ca, ?_⟩, h2⟩
          rw [h1]
          have h3 : scanAt t1.size ([], 34 :: m, 52) = 0 := by
            rw [scanAt, if_neg (show ¬ (52 : Int) = 0 by decide), hs, HN.out]
            simp
          rw [h3]
          rfl)
        obtain ⟨t2, ht2⟩ : ∃ t2 : ByteArray, t2 = ⟨(34 :: (m ++ [34])).toArray⟩ := ⟨_, rfl⟩
        have HS2 := Lib.hid (show ∀ W, Tabs W → Calls Tryd.prog 9 #[.string t2] W fun e w' => (∃ (g cap : Nat), e = .returned (.tuple #[.slice (some ⟨g, 0, none⟩) 2 cap, .int .i64 0, .int .i64 0]) ∧ 2 ≤ cap ∧ cap ≤ maxLen ∧ w'.cell? ⟨g, 0, none⟩ = some (.int .i64 3) ∧ w'.cell? ⟨g, 1, none⟩ = some (.string x) ∧ w'.cell? ⟨g, 2, none⟩ = some (.int .i64 0) ∧ w'.cell? ⟨g, 3, none⟩ = some (.int .i64 5) ∧ w'.cell? ⟨g, 4, none⟩ = some (.string ⟨#[]⟩) ∧ w'.cell? ⟨g, 5, none⟩ = some (.int .i64 ((n + 1 : Nat) : Int))) ∧ Below W.heap.size W w' from fun W hW => by
          have hs : t2.size = m.length + 2 := by rw [ht2]; show (34 :: (m ++ [34])).length = m.length + 2; simp
          have hl : t2.data.toList = 34 :: (m ++ [34]) := by rw [ht2]
          have h := scan_any t2 W (by have := HN.out; omega) hW
          rw [hl, hs, scan_string HEN.out hxs] at h
          refine h.mono ?_
          rintro e w' ⟨⟨va, ca, h1, h3⟩, h2⟩
          rcases owned_case h3 with ⟨h0, _, _⟩ | ⟨g, rfl⟩
          · cases h0
          · have hc := owned_caps h3
            refine ⟨⟨g, ca, h1, hc.1, hc.2, ?_⟩, h2⟩
            have hxe : (⟨x.data.toList.toArray⟩ : ByteArray) = x := rfl
            have e0 := h3.cells (g := g) rfl 0 (.int .i64 3) rfl
            have e1 := h3.cells (g := g) rfl 1 (.string ⟨x.data.toList.toArray⟩) rfl
            have e2 := h3.cells (g := g) rfl 2 (.int .i64 0) rfl
            have e3 := h3.cells (g := g) rfl 3 (.int .i64 5) rfl
            have e4 := h3.cells (g := g) rfl 4 (.string ⟨#[]⟩) rfl
            have e5 := h3.cells (g := g) rfl 5 (.int .i64 ((m.length + 2 : Nat) : Int)) rfl
            exact ⟨e0, e1, e2, e3, e4, by rw [HN.out]; exact e5⟩)
        clear hen hfin ht1
        go_wp2_with fail
        refine (HS1.out _ (HT.out.below HBE.out)).mono ?_; rintro e w3 ⟨⟨vb, cb, rfl⟩, hb3⟩
        have HB3 := Lib.hid (HBE.out.trans (hb3.mono hzw))
        have HO3 := Lib.hid (owns_below HO.out hb3)
        clear hb3
        go_wp2_with (at_builtin; go_must (refine wpList_append_lies _ (by rfl) _ _ _ (by rfl) w.heap.size 5 i0 _ 1 1 Tryd.underlying22 hi0 iz0 iz1 iz2 rfl (by omega) (.slice va n cp) n (bytesC (34 :: m)) (by rfl) (HO3.out.alloc _) ⟨_, 0, none⟩ 1 1 [.int .u8 34] (by rfl) (by rfl) (World.news_of_block (cs := #[.int .u8 34]) (t := 5) (fr := (0, 0)) (heap_alloc_new _ _)) (by simp [Value.oneCell']) (by omega) (by unfold maxLen; omega) (by have := HB3.out.size; omega) (by first | (simp; done) | (have := HB3.out.size; simp; omega)) _ rfl ?_; intro g3 cap3 w8 hown8 hgrow8 hat8 hlt8; have hcv8 := conv_two HN.out hown8))
        have HB8 := Lib.hid (Below.grown (B := w.heap.size) (HB3.out.alloc HB3.out.size _) hgrow8 (by have := HB3.out.size; simp; omega) (ownBlock_lo HO3.out))
        clear hown8 hgrow8 hat8 hlt8
        rw [← ht2]
        refine (HS2.out _ (HT.out.below HB8.out)).mono ?_; rintro e w9 ⟨⟨g, cb9, rfl, hc1, hc2, e0, e1, e2, e3, e4, e5⟩, hb9⟩
        have HB9 := Lib.hid (HB8.out.trans (hb9.mono HB8.out.size))
        unfold maxLen at hc2
        clear hb9 ht2 hcv hcv8
        go_wp2_with fail
        go_ret
        exact ⟨rfl, HB9.out⟩
end Go.Proofs.YtaipljdpkgdheaaDoor
