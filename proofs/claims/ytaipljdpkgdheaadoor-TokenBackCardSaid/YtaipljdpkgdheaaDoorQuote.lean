/- Package value: a byte in quotes, a text in quotes (what they are not longer than). -/
import Derived.Test.YtaipljdpkgdheaaDoorTokV
import Derived.Deep.RegionLaw
namespace Go.Proofs.YtaipljdpkgdheaaDoor
open Go Go.RowKit

/-- The bytes that the call owns, some of them behind others. -/
def Bytes (B : Nat) (w : World) (v : Value) (l : List UInt8) : Prop := w.ownsRow B 5 1 v l.length (bytesC l)
def escS : ByteArray := ⟨#[34, 92, 10, 9]⟩
theorem idx_none (c : UInt8) (h1 : c ≠ 34) (h2 : c ≠ 92) (h3 : c ≠ 10) (h4 : c ≠ 9) : Lib.indexByte escS.data.toList c = -1 := by
  have e1 : ((34 : UInt8) == c) = false := beq_eq_false_iff_ne.2 (Ne.symm h1)
  have e2 : ((92 : UInt8) == c) = false := beq_eq_false_iff_ne.2 (Ne.symm h2)
  have e3 : ((10 : UInt8) == c) = false := beq_eq_false_iff_ne.2 (Ne.symm h3)
  have e4 : ((9 : UInt8) == c) = false := beq_eq_false_iff_ne.2 (Ne.symm h4)
  simp [escS, Lib.indexByte, e1, e2, e3, e4]

def hexS : ByteArray := ⟨#[48, 49, 50, 51, 52, 53, 54, 55, 56, 57, 97, 98, 99, 100, 101, 102]⟩
theorem and15 : ∀ x : Fin 256, bits BinOp.and IntKind.u8 (x.val : Int) 15 = ((x.val % 16 : Nat) : Int) := by decide +kernel
theorem and15_u8 (x : UInt8) : bits BinOp.and IntKind.u8 (x.toNat : Int) 15 = ((x.toNat % 16 : Nat) : Int) := and15 ⟨x.toNat, x.toNat_lt⟩

theorem idx_any (c : UInt8) (w : World) : Calls Tryd.prog 54 #[.string escS, .int .u8 (c.toNat : Int)] w fun e w' => e = .returned (.int .i64 (Lib.indexByte escS.data.toList c)) ∧ w' = w := by
  have h := Tryd.strings_IndexByte escS (c.toNat : Int) w
  rw [byte_back] at h
  exact h
set_option maxHeartbeats 8000000 in
set_option maxRecDepth 100000 in
theorem appendByte_plain (B : Nat) (l : List UInt8) (va : Option Addr) (cap : Nat) (c : UInt8) (w : World) (ho : w.ownsRow B 5 1 (.slice va l.length cap) l.length (bytesC l)) (hl : l.length ≤ 100000) (hB : B ≤ w.heap.size) (h1 : c ≠ 34) (h2 : c ≠ 92) (h3 : c ≠ 10) (h4 : c ≠ 9) :
    Calls Tryd.prog 75 #[.slice va l.length cap, .int .u8 (c.toNat : Int)] w fun e w' => ∃ (m : List UInt8) (va' : Option Addr) (cap' : Nat), e = .returned (.slice va' m.length cap') ∧ w'.ownsRow B 5 1 (.slice va' m.length cap') m.length (bytesC m) ∧ m.length ≤ l.length + 4 ∧ Below B w w' := by
  obtain ⟨i0, hi0, iz0, iz1, iz2⟩ := info_parts Tryd.infoU8
  obtain ⟨n, hn⟩ : ∃ n, n = l.length := ⟨_, rfl⟩
  have HN := Lib.hid hn
  rw [← hn] at ho hl ⊢
  have HO := Lib.hid ho
  have HI := Lib.hid (idx_none c h1 h2 h3 h4)
  have hc := c.toNat_lt
  clear hn ho h1 h2 h3 h4
  by_cases hr : 32 ≤ c.toNat ∧ c.toNat ≤ 126
  · have r1 : (32 : Int) ≤ (c.toNat : Int) := by omega
    have r2 : (c.toNat : Int) ≤ 126 := by omega
    clear hr
    go_enter Tryd.func75, Tryd.ntmps75
    go_wp2_with fail
    refine (idx_any c w).mono ?_; rintro e w1 ⟨rfl, hw1⟩
    subst hw1
    rw [HI.out]
    go_wp2_with (at_builtin; go_must (refine wpList_append_lies _ (by rfl) _ _ _ (by rfl) B 5 i0 _ 1 1 Tryd.underlying22 hi0 iz0 iz1 iz2 rfl (by omega) (.slice va n cap) n (bytesC l) (by rfl) (HO.out.alloc _) ⟨_, 0, none⟩ 1 1 [.int .u8 (c.toNat : Int)] (by rfl) (by rfl) (World.news_of_block (cs := #[.int .u8 (c.toNat : Int)]) (t := 5) (fr := (0, 0)) (heap_alloc_new _ _)) (by simp [Value.oneCell']) (by omega) (by unfold maxLen; omega) (by omega) (by simp; omega) _ rfl ?_; intro g2 cap2 w7 hown7 hgrow7 hat7 hlt7))
    go_ret
    refine ⟨l ++ [c], some ⟨g2, 0, none⟩, cap2, ?_, ?_, by rw [List.length_append, HN.out]; simp, ((Below.refl B w1).alloc hB _).grown hgrow7 (by simp; omega) (ownBlock_lo HO.out)⟩
    · rw [List.length_append, ← HN.out]; rfl
    · rw [List.length_append, ← HN.out, bytesC_append]; exact hown7
  · obtain ⟨p, hp⟩ : ∃ p, p = c.toNat / 16 := ⟨_, rfl⟩
    obtain ⟨q, hq⟩ : ∃ q, q = c.toNat % 16 := ⟨_, rfl⟩
    have hp2 : p < 16 := by omega
    have hq2 : q < 16 := by omega
    have e1 : (c.toNat : Int) / 16 = (p : Int) := by omega
    have e2 : bits BinOp.and IntKind.u8 (c.toNat : Int) 15 = (q : Int) := by rw [and15_u8, hq]
    have p0 : (0 : Int) ≤ (p : Int) := by omega
    have p1 : (p : Int) < 16 := by omega
    have q0 : (0 : Int) ≤ (q : Int) := by omega
    have q1 : (q : Int) < 16 := by omega
    clear hp hq
    rcases (show c.toNat < 32 ∨ 126 < c.toNat by omega) with r2 | r2
    · have r3 : ¬ (32 : Int) ≤ (c.toNat : Int) := by omega
      clear hr
      go_enter Tryd.func75, Tryd.ntmps75
      go_wp2_with fail
      refine (idx_any c w).mono ?_; rintro e w1 ⟨rfl, hw1⟩
      subst hw1
      rw [HI.out]
      go_wp2_with fail
      go_region_law (first
        | (refine step_append_lies _ (by rfl) _ _ _ (by rfl) B 5 i0 _ 1 1 Tryd.underlying22 hi0 iz0 iz1 iz2 rfl (by omega) (.slice va n cap) n (bytesC l) (by rfl) (by first | exact HO.out.alloc _ | exact (HO.out.alloc _).drew) ⟨_, 0, none⟩ 4 4 [.int .u8 92, .int .u8 120, .int .u8 ((hexS[p]'hp2).toNat : Int), .int .u8 ((hexS[q]'hq2).toNat : Int)] (by rfl) (by rfl) (World.news_of_block (cs := #[.int .u8 92, .int .u8 120, .int .u8 ((hexS[p]'hp2).toNat : Int), .int .u8 ((hexS[q]'hq2).toNat : Int)]) (t := 5) (fr := (0, 0)) (heap_alloc_new _ _)) (by simp [Value.oneCell']) (by omega) (by unfold maxLen; omega) (by omega) (by simp; omega) _ rfl ?_; intro g2 cap2 w7 hown7 hgrow7 hat7 hlt7))
      all_goals
        go_wp2_with fail
        go_ret
        refine ⟨l ++ [92, 120, hexS[p]'hp2, hexS[q]'hq2], some ⟨g2, 0, none⟩, cap2, ?_, ?_, by rw [List.length_append, HN.out]; simp, Below.grown (by first | exact (Below.refl B w1).alloc hB _ | exact ((Below.refl B w1).alloc hB _).drew) hgrow7 (by first | (simp; omega) | (show B ≤ _; rw [World.size_alloc]; omega)) (ownBlock_lo HO.out)⟩
        · rw [List.length_append, ← HN.out]; rfl
        · rw [List.length_append, ← HN.out, bytesC_append]; exact hown7
    · have r3 : (32 : Int) ≤ (c.toNat : Int) := by omega
      have r4 : ¬ (c.toNat : Int) ≤ 126 := by omega
      clear hr
      go_enter Tryd.func75, Tryd.ntmps75
      go_wp2_with fail
      refine (idx_any c w).mono ?_; rintro e w1 ⟨rfl, hw1⟩
      subst hw1
      rw [HI.out]
      go_wp2_with fail
      go_region_law (first
        | (refine step_append_lies _ (by rfl) _ _ _ (by rfl) B 5 i0 _ 1 1 Tryd.underlying22 hi0 iz0 iz1 iz2 rfl (by omega) (.slice va n cap) n (bytesC l) (by rfl) (by first | exact HO.out.alloc _ | exact (HO.out.alloc _).drew) ⟨_, 0, none⟩ 4 4 [.int .u8 92, .int .u8 120, .int .u8 ((hexS[p]'hp2).toNat : Int), .int .u8 ((hexS[q]'hq2).toNat : Int)] (by rfl) (by rfl) (World.news_of_block (cs := #[.int .u8 92, .int .u8 120, .int .u8 ((hexS[p]'hp2).toNat : Int), .int .u8 ((hexS[q]'hq2).toNat : Int)]) (t := 5) (fr := (0, 0)) (heap_alloc_new _ _)) (by simp [Value.oneCell']) (by omega) (by unfold maxLen; omega) (by omega) (by simp; omega) _ rfl ?_; intro g2 cap2 w7 hown7 hgrow7 hat7 hlt7))
      all_goals
        go_wp2_with fail
        go_ret
        refine ⟨l ++ [92, 120, hexS[p]'hp2, hexS[q]'hq2], some ⟨g2, 0, none⟩, cap2, ?_, ?_, by rw [List.length_append, HN.out]; simp, Below.grown (by first | exact (Below.refl B w1).alloc hB _ | exact ((Below.refl B w1).alloc hB _).drew) hgrow7 (by first | (simp; omega) | (show B ≤ _; rw [World.size_alloc]; omega)) (ownBlock_lo HO.out)⟩
        · rw [List.length_append, ← HN.out]; rfl
        · rw [List.length_append, ← HN.out, bytesC_append]; exact hown7
set_option maxHeartbeats 8000000 in
set_option maxRecDepth 100000 in
theorem appendByte_letter (B : Nat) (l : List UInt8) (va : Option Addr) (cap : Nat) (c d : UInt8) (i : Nat) (w : World) (ho : w.ownsRow B 5 1 (.slice va l.length cap) l.length (bytesC l)) (hl : l.length ≤ 100000) (hB : B ≤ w.heap.size) (h : Lib.indexByte escS.data.toList c = (i : Int)) (hd : (i = 0 ∧ d = 34) ∨ (i = 1 ∧ d = 92) ∨ (i = 2 ∧ d = 110) ∨ (i = 3 ∧ d = 116)) :
    Calls Tryd.prog 75 #[.slice va l.length cap, .int .u8 (c.toNat : Int)] w fun e w' => ∃ (m : List UInt8) (va' : Option Addr) (cap' : Nat), e = .returned (.slice va' m.length cap') ∧ w'.ownsRow B 5 1 (.slice va' m.length cap') m.length (bytesC m) ∧ m.length ≤ l.length + 4 ∧ Below B w w' := by
  obtain ⟨i0, hi0, iz0, iz1, iz2⟩ := info_parts Tryd.infoU8
  obtain ⟨n, hn⟩ : ∃ n, n = l.length := ⟨_, rfl⟩
  have HN := Lib.hid hn
  rw [← hn] at ho hl ⊢
  have HO := Lib.hid ho
  have HI := Lib.hid h
  have hc := c.toNat_lt
  clear hn ho h
  rcases hd with ⟨rfl, rfl⟩ | ⟨rfl, rfl⟩ | ⟨rfl, rfl⟩ | ⟨rfl, rfl⟩
  · go_enter Tryd.func75, Tryd.ntmps75
    go_wp2_with fail
    refine (idx_any c w).mono ?_; rintro e w1 ⟨rfl, hw1⟩
    subst hw1
    rw [HI.out]
    go_wp2_with (at_builtin; go_must (refine wpList_append_lies _ (by rfl) _ _ _ (by rfl) B 5 i0 _ 1 1 Tryd.underlying22 hi0 iz0 iz1 iz2 rfl (by omega) (.slice va n cap) n (bytesC l) (by rfl) (HO.out.alloc _) ⟨_, 0, none⟩ 2 2 [.int .u8 92, .int .u8 (((34 : UInt8).toNat : Nat) : Int)] (by rfl) (by rfl) (World.news_of_block (cs := #[.int .u8 92, .int .u8 (((34 : UInt8).toNat : Nat) : Int)]) (t := 5) (fr := (0, 0)) (heap_alloc_new _ _)) (by simp [Value.oneCell']) (by omega) (by unfold maxLen; omega) (by omega) (by simp; omega) _ rfl ?_; intro g2 cap2 w7 hown7 hgrow7 hat7 hlt7))
    go_ret
    refine ⟨l ++ [92, 34], some ⟨g2, 0, none⟩, cap2, ?_, ?_, by rw [List.length_append, HN.out]; simp, ((Below.refl B w1).alloc hB _).grown hgrow7 (by simp; omega) (ownBlock_lo HO.out)⟩
    · rw [List.length_append, ← HN.out]; rfl
    · rw [List.length_append, ← HN.out, bytesC_append]; exact hown7
  · go_enter Tryd.func75, Tryd.ntmps75
    go_wp2_with fail
    refine (idx_any c w).mono ?_; rintro e w1 ⟨rfl, hw1⟩
    subst hw1
    rw [HI.out]
    go_wp2_with (at_builtin; go_must (refine wpList_append_lies _ (by rfl) _ _ _ (by rfl) B 5 i0 _ 1 1 Tryd.underlying22 hi0 iz0 iz1 iz2 rfl (by omega) (.slice va n cap) n (bytesC l) (by rfl) (HO.out.alloc _) ⟨_, 0, none⟩ 2 2 [.int .u8 92, .int .u8 (((92 : UInt8).toNat : Nat) : Int)] (by rfl) (by rfl) (World.news_of_block (cs := #[.int .u8 92, .int .u8 (((92 : UInt8).toNat : Nat) : Int)]) (t := 5) (fr := (0, 0)) (heap_alloc_new _ _)) (by simp [Value.oneCell']) (by omega) (by unfold maxLen; omega) (by omega) (by simp; omega) _ rfl ?_; intro g2 cap2 w7 hown7 hgrow7 hat7 hlt7))
    go_ret
    refine ⟨l ++ [92, 92], some ⟨g2, 0, none⟩, cap2, ?_, ?_, by rw [List.length_append, HN.out]; simp, ((Below.refl B w1).alloc hB _).grown hgrow7 (by simp; omega) (ownBlock_lo HO.out)⟩
    · rw [List.length_append, ← HN.out]; rfl
    · rw [List.length_append, ← HN.out, bytesC_append]; exact hown7
  · go_enter Tryd.func75, Tryd.ntmps75
    go_wp2_with fail
    refine (idx_any c w).mono ?_; rintro e w1 ⟨rfl, hw1⟩
    subst hw1
    rw [HI.out]
    go_wp2_with (at_builtin; go_must (refine wpList_append_lies _ (by rfl) _ _ _ (by rfl) B 5 i0 _ 1 1 Tryd.underlying22 hi0 iz0 iz1 iz2 rfl (by omega) (.slice va n cap) n (bytesC l) (by rfl) (HO.out.alloc _) ⟨_, 0, none⟩ 2 2 [.int .u8 92, .int .u8 (((110 : UInt8).toNat : Nat) : Int)] (by rfl) (by rfl) (World.news_of_block (cs := #[.int .u8 92, .int .u8 (((110 : UInt8).toNat : Nat) : Int)]) (t := 5) (fr := (0, 0)) (heap_alloc_new _ _)) (by simp [Value.oneCell']) (by omega) (by unfold maxLen; omega) (by omega) (by simp; omega) _ rfl ?_; intro g2 cap2 w7 hown7 hgrow7 hat7 hlt7))
    go_ret
    refine ⟨l ++ [92, 110], some ⟨g2, 0, none⟩, cap2, ?_, ?_, by rw [List.length_append, HN.out]; simp, ((Below.refl B w1).alloc hB _).grown hgrow7 (by simp; omega) (ownBlock_lo HO.out)⟩
    · rw [List.length_append, ← HN.out]; rfl
    · rw [List.length_append, ← HN.out, bytesC_append]; exact hown7
  · go_enter Tryd.func75, Tryd.ntmps75
    go_wp2_with fail
    refine (idx_any c w).mono ?_; rintro e w1 ⟨rfl, hw1⟩
    subst hw1
    rw [HI.out]
    go_wp2_with (at_builtin; go_must (refine wpList_append_lies _ (by rfl) _ _ _ (by rfl) B 5 i0 _ 1 1 Tryd.underlying22 hi0 iz0 iz1 iz2 rfl (by omega) (.slice va n cap) n (bytesC l) (by rfl) (HO.out.alloc _) ⟨_, 0, none⟩ 2 2 [.int .u8 92, .int .u8 (((116 : UInt8).toNat : Nat) : Int)] (by rfl) (by rfl) (World.news_of_block (cs := #[.int .u8 92, .int .u8 (((116 : UInt8).toNat : Nat) : Int)]) (t := 5) (fr := (0, 0)) (heap_alloc_new _ _)) (by simp [Value.oneCell']) (by omega) (by unfold maxLen; omega) (by omega) (by simp; omega) _ rfl ?_; intro g2 cap2 w7 hown7 hgrow7 hat7 hlt7))
    go_ret
    refine ⟨l ++ [92, 116], some ⟨g2, 0, none⟩, cap2, ?_, ?_, by rw [List.length_append, HN.out]; simp, ((Below.refl B w1).alloc hB _).grown hgrow7 (by simp; omega) (ownBlock_lo HO.out)⟩
    · rw [List.length_append, ← HN.out]; rfl
    · rw [List.length_append, ← HN.out, bytesC_append]; exact hown7
/-- A byte in quotes, written behind the call's own bytes. -/
theorem appendByte_any (B : Nat) (l : List UInt8) (va : Option Addr) (cap : Nat) (c : UInt8) (w : World) (ho : w.ownsRow B 5 1 (.slice va l.length cap) l.length (bytesC l)) (hl : l.length ≤ 100000) (hB : B ≤ w.heap.size) :
    Calls Tryd.prog 75 #[.slice va l.length cap, .int .u8 (c.toNat : Int)] w fun e w' => ∃ (m : List UInt8) (va' : Option Addr) (cap' : Nat), e = .returned (.slice va' m.length cap') ∧ w'.ownsRow B 5 1 (.slice va' m.length cap') m.length (bytesC m) ∧ m.length ≤ l.length + 4 ∧ Below B w w' := by
  by_cases h1 : c = 34
  · subst h1; exact appendByte_letter B l va cap 34 34 0 w ho hl hB (by decide) (by simp)
  by_cases h2 : c = 92
  · subst h2; exact appendByte_letter B l va cap 92 92 1 w ho hl hB (by decide) (by simp)
  by_cases h3 : c = 10
  · subst h3; exact appendByte_letter B l va cap 10 110 2 w ho hl hB (by decide) (by simp)
  by_cases h4 : c = 9
  · subst h4; exact appendByte_letter B l va cap 9 116 3 w ho hl hB (by decide) (by simp)
  exact appendByte_plain B l va cap c w ho hl hB h1 h2 h3 h4
end Go.Proofs.YtaipljdpkgdheaaDoor
