/- Package value: a text in quotes, for every text that may be a value: what is written. -/
import Derived.Test.YtaipljdpkgdheaaDoorShown
namespace Go.Proofs.YtaipljdpkgdheaaDoor
open Go Go.RowKit

def hexD (n : Nat) : UInt8 := ([48, 49, 50, 51, 52, 53, 54, 55, 56, 57, 97, 98, 99, 100, 101, 102] : List UInt8).getD n 0
/-- A byte as it stands in quotes. -/
def escB (c : UInt8) : List UInt8 :=
  if c = 34 then [92, 34] else if c = 92 then [92, 92] else if c = 10 then [92, 110] else if c = 9 then [92, 116]
  else if 32 ≤ c.toNat ∧ c.toNat ≤ 126 then [c] else [92, 120, hexD (c.toNat / 16), hexD (c.toNat % 16)]
theorem hexD_S16 : ∀ p : Fin 16, hexD p.val = hexS[p.val]'p.isLt := by decide +kernel
theorem hexD_S {p : Nat} (h : p < 16) : hexD p = hexS[p]'h := hexD_S16 ⟨p, h⟩
theorem esc_other {c : UInt8} (h1 : c ≠ 34) (h2 : c ≠ 92) (h3 : c ≠ 10) (h4 : c ≠ 9) : escB c = if 32 ≤ c.toNat ∧ c.toNat ≤ 126 then [c] else [92, 120, hexS[c.toNat / 16]'(by have := c.toNat_lt; show _ < 16; omega), hexS[c.toNat % 16]'(by show _ < 16; omega)] := by
  have := c.toNat_lt
  unfold escB
  rw [if_neg h1, if_neg h2, if_neg h3, if_neg h4, hexD_S (p := c.toNat / 16) (by omega), hexD_S (p := c.toNat % 16) (by omega)]
  rfl
theorem esc_len (c : UInt8) : (escB c).length ≤ 4 := by
  unfold escB
  split
  · decide
  split
  · decide
  split
  · decide
  split
  · decide
  split
  · exact Nat.le_of_ble_eq_true rfl
  · exact Nat.le_of_ble_eq_true rfl
theorem escs_len (l : List UInt8) : (l.flatMap escB).length ≤ 4 * l.length := by
  induction l with
  | nil => simp
  | cons a r ih =>
    have := esc_len a
    simp only [List.flatMap_cons, List.length_append, List.length_cons]
    omega
set_option maxHeartbeats 8000000 in
set_option maxRecDepth 100000 in
theorem appendX_plain (B : Nat) (l : List UInt8) (va : Option Addr) (cap : Nat) (c : UInt8) (w : World) (ho : w.ownsRow B 5 1 (.slice va l.length cap) l.length (bytesC l)) (hl : l.length ≤ 100000) (hB : B ≤ w.heap.size) (h1 : c ≠ 34) (h2 : c ≠ 92) (h3 : c ≠ 10) (h4 : c ≠ 9) :
    Calls Tryd.prog 75 #[.slice va l.length cap, .int .u8 (c.toNat : Int)] w fun e w' => ∃ (m : List UInt8) (va' : Option Addr) (cap' : Nat), e = .returned (.slice va' m.length cap') ∧ w'.ownsRow B 5 1 (.slice va' m.length cap') m.length (bytesC m) ∧ m = l ++ escB c ∧ Below B w w' := by
  obtain ⟨i0, hi0, iz0, iz1, iz2⟩ := info_parts Tryd.infoU8
  obtain ⟨n, hn⟩ : ∃ n, n = l.length := ⟨_, rfl⟩
  have HN := Lib.hid hn
  rw [← hn] at ho hl ⊢
  have HO := Lib.hid ho
  have HI := Lib.hid (idx_none c h1 h2 h3 h4)
  have HES := Lib.hid (show escB c = if 32 ≤ c.toNat ∧ c.toNat ≤ 126 then [c] else [92, 120, hexS[c.toNat / 16]'(by have := c.toNat_lt; show _ < 16; omega), hexS[c.toNat % 16]'(by show _ < 16; omega)] from esc_other h1 h2 h3 h4)
  have hc := c.toNat_lt
  clear hn ho h1 h2 h3 h4
  by_cases hr : 32 ≤ c.toNat ∧ c.toNat ≤ 126
  · have r1 : (32 : Int) ≤ (c.toNat : Int) := by omega
    have r2 : (c.toNat : Int) ≤ 126 := by omega
    have HEP := Lib.hid (show escB c = [c] by rw [HES.out, if_pos hr])
    clear hr
    go_enter Tryd.func75, Tryd.ntmps75
    go_wp2_with fail
    refine (idx_any c w).mono ?_; rintro e w1 ⟨rfl, hw1⟩
    subst hw1
    rw [HI.out]
    go_wp2_with (at_builtin; go_must (refine wpList_append_lies _ (by rfl) _ _ _ (by rfl) B 5 i0 _ 1 1 Tryd.underlying22 hi0 iz0 iz1 iz2 rfl (by omega) (.slice va n cap) n (bytesC l) (by rfl) (HO.out.alloc _) ⟨_, 0, none⟩ 1 1 [.int .u8 (c.toNat : Int)] (by rfl) (by rfl) (World.news_of_block (cs := #[.int .u8 (c.toNat : Int)]) (t := 5) (fr := (0, 0)) (heap_alloc_new _ _)) (by simp [Value.oneCell']) (by omega) (by unfold maxLen; omega) (by omega) (by simp; omega) _ rfl ?_; intro g2 cap2 w7 hown7 hgrow7 hat7 hlt7))
    go_ret
    refine ⟨l ++ [c], some ⟨g2, 0, none⟩, cap2, ?_, ?_, by rw [HEP.out], ((Below.refl B w1).alloc hB _).grown hgrow7 (by simp; omega) (ownBlock_lo HO.out)⟩
    · rw [List.length_append, ← HN.out]; rfl
    · rw [List.length_append, ← HN.out, bytesC_append]; exact hown7
  · obtain ⟨p, hp⟩ : ∃ p, p = c.toNat / 16 := ⟨_, rfl⟩
    obtain ⟨q, hq⟩ : ∃ q, q = c.toNat % 16 := ⟨_, rfl⟩
    have hp2 : p < 16 := by omega
    have hq2 : q < 16 := by omega
    have e1 : (c.toNat : Int) / 16 = (p : Int) := by omega
    have e2 : bits BinOp.and IntKind.u8 (c.toNat : Int) 15 = (q : Int) := by rw [and15_u8, hq]
    have p0 : (0 : Int) ≤ (p : Int) := by omega
    have p1 : (p : Int) < 16 := by omega
    have q0 : (0 : Int) ≤ (q : Int) := by omega
    have q1 : (q : Int) < 16 := by omega
    have HEP := Lib.hid (show escB c = [92, 120, hexS[p]'hp2, hexS[q]'hq2] by rw [HES.out, if_neg hr]; subst hp; subst hq; rfl)
    clear hp hq
    rcases (show c.toNat < 32 ∨ 126 < c.toNat by omega) with r2 | r2
    · have r3 : ¬ (32 : Int) ≤ (c.toNat : Int) := by omega
      clear hr
      go_enter Tryd.func75, Tryd.ntmps75
      go_wp2_with fail
      refine (idx_any c w).mono ?_; rintro e w1 ⟨rfl, hw1⟩
      subst hw1
      rw [HI.out]
      go_wp2_with fail
      go_region_law (first
        | (refine step_append_lies _ (by rfl) _ _ _ (by rfl) B 5 i0 _ 1 1 Tryd.underlying22 hi0 iz0 iz1 iz2 rfl (by omega) (.slice va n cap) n (bytesC l) (by rfl) (by first | exact HO.out.alloc _ | exact (HO.out.alloc _).drew) ⟨_, 0, none⟩ 4 4 [.int .u8 92, .int .u8 120, .int .u8 ((hexS[p]'hp2).toNat : Int), .int .u8 ((hexS[q]'hq2).toNat : Int)] (by rfl) (by rfl) (World.news_of_block (cs := #[.int .u8 92, .int .u8 120, .int .u8 ((hexS[p]'hp2).toNat : Int), .int .u8 ((hexS[q]'hq2).toNat : Int)]) (t := 5) (fr := (0, 0)) (heap_alloc_new _ _)) (by simp [Value.oneCell']) (by omega) (by unfold maxLen; omega) (by omega) (by simp; omega) _ rfl ?_; intro g2 cap2 w7 hown7 hgrow7 hat7 hlt7))
      all_goals
        go_wp2_with fail
        go_ret
        refine ⟨l ++ [92, 120, hexS[p]'hp2, hexS[q]'hq2], some ⟨g2, 0, none⟩, cap2, ?_, ?_, by rw [HEP.out], Below.grown (by first | exact (Below.refl B w1).alloc hB _ | exact ((Below.refl B w1).alloc hB _).drew) hgrow7 (by first | (simp; omega) | (show B ≤ _; rw [World.size_alloc]; omega)) (ownBlock_lo HO.out)⟩
        · rw [List.length_append, ← HN.out]; rfl
        · rw [List.length_append, ← HN.out, bytesC_append]; exact hown7
    · have r3 : (32 : Int) ≤ (c.toNat : Int) := by omega
      have r4 : ¬ (c.toNat : Int) ≤ 126 := by omega
      clear hr
      go_enter Tryd.func75, Tryd.ntmps75
      go_wp2_with fail
      refine (idx_any c w).mono ?_; rintro e w1 ⟨rfl, hw1⟩
      subst hw1
      rw [HI.out]
      go_wp2_with fail
      go_region_law (first
        | (refine step_append_lies _ (by rfl) _ _ _ (by rfl) B 5 i0 _ 1 1 Tryd.underlying22 hi0 iz0 iz1 iz2 rfl (by omega) (.slice va n cap) n (bytesC l) (by rfl) (by first | exact HO.out.alloc _ | exact (HO.out.alloc _).drew) ⟨_, 0, none⟩ 4 4 [.int .u8 92, .int .u8 120, .int .u8 ((hexS[p]'hp2).toNat : Int), .int .u8 ((hexS[q]'hq2).toNat : Int)] (by rfl) (by rfl) (World.news_of_block (cs := #[.int .u8 92, .int .u8 120, .int .u8 ((hexS[p]'hp2).toNat : Int), .int .u8 ((hexS[q]'hq2).toNat : Int)]) (t := 5) (fr := (0, 0)) (heap_alloc_new _ _)) (by simp [Value.oneCell']) (by omega) (by unfold maxLen; omega) (by omega) (by simp; omega) _ rfl ?_; intro g2 cap2 w7 hown7 hgrow7 hat7 hlt7))
      all_goals
        go_wp2_with fail
        go_ret
        refine ⟨l ++ [92, 120, hexS[p]'hp2, hexS[q]'hq2], some ⟨g2, 0, none⟩, cap2, ?_, ?_, by rw [HEP.out], Below.grown (by first | exact (Below.refl B w1).alloc hB _ | exact ((Below.refl B w1).alloc hB _).drew) hgrow7 (by first | (simp; omega) | (show B ≤ _; rw [World.size_alloc]; omega)) (ownBlock_lo HO.out)⟩
        · rw [List.length_append, ← HN.out]; rfl
        · rw [List.length_append, ← HN.out, bytesC_append]; exact hown7
set_option maxHeartbeats 8000000 in
set_option maxRecDepth 100000 in
theorem appendX_letter (B : Nat) (l : List UInt8) (va : Option Addr) (cap : Nat) (c d : UInt8) (i : Nat) (w : World) (ho : w.ownsRow B 5 1 (.slice va l.length cap) l.length (bytesC l)) (hl : l.length ≤ 100000) (hB : B ≤ w.heap.size) (h : Lib.indexByte escS.data.toList c = (i : Int)) (hd : (i = 0 ∧ d = 34) ∨ (i = 1 ∧ d = 92) ∨ (i = 2 ∧ d = 110) ∨ (i = 3 ∧ d = 116)) (hesc : escB c = [92, d]) :
    Calls Tryd.prog 75 #[.slice va l.length cap, .int .u8 (c.toNat : Int)] w fun e w' => ∃ (m : List UInt8) (va' : Option Addr) (cap' : Nat), e = .returned (.slice va' m.length cap') ∧ w'.ownsRow B 5 1 (.slice va' m.length cap') m.length (bytesC m) ∧ m = l ++ escB c ∧ Below B w w' := by
  obtain ⟨i0, hi0, iz0, iz1, iz2⟩ := info_parts Tryd.infoU8
  obtain ⟨n, hn⟩ : ∃ n, n = l.length := ⟨_, rfl⟩
  have HN := Lib.hid hn
  rw [← hn] at ho hl ⊢
  have HO := Lib.hid ho
  have HI := Lib.hid h
  have hc := c.toNat_lt
  have HESC := Lib.hid hesc
  clear hn ho h hesc
  rcases hd with ⟨rfl, rfl⟩ | ⟨rfl, rfl⟩ | ⟨rfl, rfl⟩ | ⟨rfl, rfl⟩
  · go_enter Tryd.func75, Tryd.ntmps75
    go_wp2_with fail
    refine (idx_any c w).mono ?_; rintro e w1 ⟨rfl, hw1⟩
    subst hw1
    rw [HI.out]
    go_wp2_with (at_builtin; go_must (refine wpList_append_lies _ (by rfl) _ _ _ (by rfl) B 5 i0 _ 1 1 Tryd.underlying22 hi0 iz0 iz1 iz2 rfl (by omega) (.slice va n cap) n (bytesC l) (by rfl) (HO.out.alloc _) ⟨_, 0, none⟩ 2 2 [.int .u8 92, .int .u8 (((34 : UInt8).toNat : Nat) : Int)] (by rfl) (by rfl) (World.news_of_block (cs := #[.int .u8 92, .int .u8 (((34 : UInt8).toNat : Nat) : Int)]) (t := 5) (fr := (0, 0)) (heap_alloc_new _ _)) (by simp [Value.oneCell']) (by omega) (by unfold maxLen; omega) (by omega) (by simp; omega) _ rfl ?_; intro g2 cap2 w7 hown7 hgrow7 hat7 hlt7))
    go_ret
    refine ⟨l ++ [92, 34], some ⟨g2, 0, none⟩, cap2, ?_, ?_, by rw [HESC.out], ((Below.refl B w1).alloc hB _).grown hgrow7 (by simp; omega) (ownBlock_lo HO.out)⟩
    · rw [List.length_append, ← HN.out]; rfl
    · rw [List.length_append, ← HN.out, bytesC_append]; exact hown7
  · go_enter Tryd.func75, Tryd.ntmps75
    go_wp2_with fail
    refine (idx_any c w).mono ?_; rintro e w1 ⟨rfl, hw1⟩
    subst hw1
    rw [HI.out]
    go_wp2_with (at_builtin; go_must (refine wpList_append_lies _ (by rfl) _ _ _ (by rfl) B 5 i0 _ 1 1 Tryd.underlying22 hi0 iz0 iz1 iz2 rfl (by omega) (.slice va n cap) n (bytesC l) (by rfl) (HO.out.alloc _) ⟨_, 0, none⟩ 2 2 [.int .u8 92, .int .u8 (((92 : UInt8).toNat : Nat) : Int)] (by rfl) (by rfl) (World.news_of_block (cs := #[.int .u8 92, .int .u8 (((92 : UInt8).toNat : Nat) : Int)]) (t := 5) (fr := (0, 0)) (heap_alloc_new _ _)) (by simp [Value.oneCell']) (by omega) (by unfold maxLen; omega) (by omega) (by simp; omega) _ rfl ?_; intro g2 cap2 w7 hown7 hgrow7 hat7 hlt7))
    go_ret
    refine ⟨l ++ [92, 92], some ⟨g2, 0, none⟩, cap2, ?_, ?_, by rw [HESC.out], ((Below.refl B w1).alloc hB _).grown hgrow7 (by simp; omega) (ownBlock_lo HO.out)⟩
    · rw [List.length_append, ← HN.out]; rfl
    · rw [List.length_append, ← HN.out, bytesC_append]; exact hown7
  · go_enter Tryd.func75, Tryd.ntmps75
    go_wp2_with fail
    refine (idx_any c w).mono ?_; rintro e w1 ⟨rfl, hw1⟩
    subst hw1
    rw [HI.out]
    go_wp2_with (at_builtin; go_must (refine wpList_append_lies _ (by rfl) _ _ _ (by rfl) B 5 i0 _ 1 1 Tryd.underlying22 hi0 iz0 iz1 iz2 rfl (by omega) (.slice va n cap) n (bytesC l) (by rfl) (HO.out.alloc _) ⟨_, 0, none⟩ 2 2 [.int .u8 92, .int .u8 (((110 : UInt8).toNat : Nat) : Int)] (by rfl) (by rfl) (World.news_of_block (cs := #[.int .u8 92, .int .u8 (((110 : UInt8).toNat : Nat) : Int)]) (t := 5) (fr := (0, 0)) (heap_alloc_new _ _)) (by simp [Value.oneCell']) (by omega) (by unfold maxLen; omega) (by omega) (by simp; omega) _ rfl ?_; intro g2 cap2 w7 hown7 hgrow7 hat7 hlt7))
    go_ret
    refine ⟨l ++ [92, 110], some ⟨g2, 0, none⟩, cap2, ?_, ?_, by rw [HESC.out], ((Below.refl B w1).alloc hB _).grown hgrow7 (by simp; omega) (ownBlock_lo HO.out)⟩
    · rw [List.length_append, ← HN.out]; rfl
    · rw [List.length_append, ← HN.out, bytesC_append]; exact hown7
  · go_enter Tryd.func75, Tryd.ntmps75
    go_wp2_with fail
    refine (idx_any c w).mono ?_; rintro e w1 ⟨rfl, hw1⟩
    subst hw1
    rw [HI.out]
    go_wp2_with (at_builtin; go_must (refine wpList_append_lies _ (by rfl) _ _ _ (by rfl) B 5 i0 _ 1 1 Tryd.underlying22 hi0 iz0 iz1 iz2 rfl (by omega) (.slice va n cap) n (bytesC l) (by rfl) (HO.out.alloc _) ⟨_, 0, none⟩ 2 2 [.int .u8 92, .int .u8 (((116 : UInt8).toNat : Nat) : Int)] (by rfl) (by rfl) (World.news_of_block (cs := #[.int .u8 92, .int .u8 (((116 : UInt8).toNat : Nat) : Int)]) (t := 5) (fr := (0, 0)) (heap_alloc_new _ _)) (by simp [Value.oneCell']) (by omega) (by unfold maxLen; omega) (by omega) (by simp; omega) _ rfl ?_; intro g2 cap2 w7 hown7 hgrow7 hat7 hlt7))
    go_ret
    refine ⟨l ++ [92, 116], some ⟨g2, 0, none⟩, cap2, ?_, ?_, by rw [HESC.out], ((Below.refl B w1).alloc hB _).grown hgrow7 (by simp; omega) (ownBlock_lo HO.out)⟩
    · rw [List.length_append, ← HN.out]; rfl
    · rw [List.length_append, ← HN.out, bytesC_append]; exact hown7
/-- A byte in quotes, written behind the call's own bytes. -/
theorem appendX_any (B : Nat) (l : List UInt8) (va : Option Addr) (cap : Nat) (c : UInt8) (w : World) (ho : w.ownsRow B 5 1 (.slice va l.length cap) l.length (bytesC l)) (hl : l.length ≤ 100000) (hB : B ≤ w.heap.size) :
    Calls Tryd.prog 75 #[.slice va l.length cap, .int .u8 (c.toNat : Int)] w fun e w' => ∃ (m : List UInt8) (va' : Option Addr) (cap' : Nat), e = .returned (.slice va' m.length cap') ∧ w'.ownsRow B 5 1 (.slice va' m.length cap') m.length (bytesC m) ∧ m = l ++ escB c ∧ Below B w w' := by
  by_cases h1 : c = 34
  · subst h1; exact appendX_letter B l va cap 34 34 0 w ho hl hB (by decide) (by simp) rfl
  by_cases h2 : c = 92
  · subst h2; exact appendX_letter B l va cap 92 92 1 w ho hl hB (by decide) (by simp) rfl
  by_cases h3 : c = 10
  · subst h3; exact appendX_letter B l va cap 10 110 2 w ho hl hB (by decide) (by simp) rfl
  by_cases h4 : c = 9
  · subst h4; exact appendX_letter B l va cap 9 116 3 w ho hl hB (by decide) (by simp) rfl
  exact appendX_plain B l va cap c w ho hl hB h1 h2 h3 h4
set_option maxHeartbeats 8000000 in
set_option maxRecDepth 100000 in
theorem quoteX_any (s : ByteArray) (w : World) (hs : s.size ≤ 256) :
    Calls Tryd.prog 61 #[.string s] w fun e w' => e = .returned (.string ⟨(34 :: (s.data.toList.flatMap escB ++ [34])).toArray⟩) ∧ Below w.heap.size w w' := by
  obtain ⟨i0, hi0, iz0, iz1, iz2⟩ := info_parts Tryd.infoU8
  have HO := Lib.hid (show (w.alloc (Obj.cells #[.int .u8 34] 5)).ownsRow w.heap.size 5 1 (.slice (some ⟨w.heap.size, 0, none⟩) 1 1) 1 (bytesC [34]) from
    ⟨by simp [bytesC], .inr ⟨w.heap.size, 1, #[.int .u8 34], rfl, Nat.le_refl _, heap_alloc_new w _, Nat.le_refl _, (show 1 ≤ maxLen by unfold maxLen; omega), by simp, by simp [bytesC]⟩⟩)
  go_enter Tryd.func61, Tryd.ntmps61
  go_wp2_with fail
  go_loopw [3, 8] (fun v i wr => ∃ (k : Nat) (m : List UInt8) (va : Option Addr) (cap : Nat), k ≤ s.size ∧ i = .int .i64 k ∧ v = .slice va m.length cap ∧ wr.ownsRow w.heap.size 5 1 (.slice va m.length cap) m.length (bytesC m) ∧ m = 34 :: (s.data.toList.take k).flatMap escB ∧ Below w.heap.size w wr) (fun _ i _ => s.size - (intOf i).toNat)
  case atStart => exact ⟨0, [34], _, 1, Nat.zero_le _, rfl, rfl, HO.out, rfl, (Below.refl _ _).alloc (Nat.le_refl _) _⟩
  case round =>
    obtain ⟨k, m, va, cap, hk, rfl, rfl, hown, hm, hbel⟩ := hrel
    have HW := Lib.hid hown
    have HBE := Lib.hid hbel
    have hzw := hbel.size
    obtain ⟨n, hn⟩ : ∃ n, n = m.length := ⟨_, rfl⟩
    have HN := Lib.hid hn
    have HM := Lib.hid hm
    have hmb : m.length ≤ 1 + 4 * k := by
      rw [hm]
      have h1 := escs_len (s.data.toList.take k)
      rw [List.length_take] at h1
      simp only [List.length_cons]
      omega
    have hnb : n ≤ 1 + 4 * k := by omega
    have hmb : m.length ≤ 100000 := by omega
    rw [← hn] at hown ⊢
    have HWN := Lib.hid hown
    clear hown hbel hm hn
    by_cases hlt : k < s.size
    · have k0 : (0 : Int) ≤ (k : Int) := by omega
      have k1 : (k : Int) < (s.size : Int) := by omega
      have HC := Lib.hid (appendX_any w.heap.size m va cap (s[k]'hlt) wr HW.out hmb hzw)
      rw [← HN.out] at HC
      clear hmb
      go_wp2_with fail
      refine HC.out.mono ?_; rintro e w2 ⟨m2, va2, cap2, rfl, hown2, hm2, hb2⟩
      have HW2 := Lib.hid hown2
      have HB2 := Lib.hid (HBE.out.trans hb2)
      have HM2 := Lib.hid (show m2 = 34 :: (s.data.toList.take (k + 1)).flatMap escB by
        have hg := Lib.data_getElem? s k hlt
        rw [hm2, HM.out, List.take_add_one, hg]
        simp [List.flatMap_append])
      clear hown2 hm2 hb2
      go_wp2_with fail
      go_roundw
      case rel => exact ⟨k + 1, m2, va2, cap2, by omega, by go_num, rfl, HW2.out, HM2.out, HB2.out⟩
      case measure => simp [intOf]; omega
    · go_wp2_with (at_builtin; go_must (refine wpList_append_lies _ (by rfl) _ _ _ (by rfl) w.heap.size 5 i0 _ 1 1 Tryd.underlying22 hi0 iz0 iz1 iz2 rfl (by omega) (.slice va n cap) n (bytesC m) (by rfl) (HWN.out.alloc _) ⟨_, 0, none⟩ 1 1 [.int .u8 34] (by rfl) (by rfl) (World.news_of_block (cs := #[.int .u8 34]) (t := 5) (fr := (0, 0)) (heap_alloc_new _ _)) (by simp [Value.oneCell']) (by omega) (by unfold maxLen; omega) (by omega) (by simp; omega) _ rfl ?_; intro g2 cap2 w7 hown7 hgrow7 hat7 hlt7; have hcv := conv_quoted HN.out hown7))
      go_ret
      refine ⟨?_, Below.grown (HBE.out.alloc (by omega) _) hgrow7 (by rw [World.size_alloc]; omega) (ownBlock_lo HWN.out)⟩
      have hk2 : s.data.toList.take k = s.data.toList := List.take_of_length_le (show s.size ≤ k by omega)
      have hm2 := HM.out
      rw [hk2] at hm2
      show Ending.returned (Value.string ⟨(m ++ [34]).toArray⟩) = _
      rw [hm2]
      rfl
end Go.Proofs.YtaipljdpkgdheaaDoor
