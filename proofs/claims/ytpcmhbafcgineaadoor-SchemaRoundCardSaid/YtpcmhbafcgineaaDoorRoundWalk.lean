/- The walk of the law on declarations. -/
import Derived.Test.YtpcmhbafcgineaaDoorParseW
import Derived.Test.YtpcmhbafcgineaaDoorEqType
namespace Go.Proofs.YtpcmhbafcgineaaDoor
open Go Go.RowKit

/-- A type in memory of the law's own: its block, and what its cells hold. -/
structure TyAt (w : World) (T : Nat) (n : ByteArray) (va : Option Addr) (cp : Nat) (l : List Attr) : Prop where
  lt : T < w.heap.size
  c0 : w.cell? ⟨T, 0, none⟩ = some (.string n)
  c1 : w.cell? ⟨T, 1, none⟩ = some (.slice va l.length cp)
  at' : AttrsAt w va l
  cap : l.length ≤ cp
theorem TyAt.below {w w' : World} {T : Nat} {n : ByteArray} {va : Option Addr} {cp : Nat} {l : List Attr} (h : TyAt w T n va cp l) (hb : Below w.heap.size w w') : TyAt w' T n va cp l :=
  ⟨Nat.lt_of_lt_of_le h.lt hb.size, (hb.cell (p := ⟨T, 0, none⟩) h.lt).trans h.c0, (hb.cell (p := ⟨T, 1, none⟩) h.lt).trans h.c1, h.at'.below' hb, h.cap⟩
theorem TyAt.made {w : World} {n : ByteArray} {va : Option Addr} {cp : Nat} {l : List Attr} (ha : AttrsAt w va l) (hc : l.length ≤ cp) : TyAt (w.alloc (Obj.cells #[.string n, .slice va l.length cp] 27)) w.heap.size n va cp l :=
  ⟨by simp, by simp, by simp, ha.below' ((Below.refl _ _).alloc (Nat.le_refl _) _), hc⟩

/-- Two texts joined: a name for what comes of it. -/
theorem addS (a b : ByteArray) (m : Nat) (h : a.size + b.size ≤ m) (hm : m ≤ 100000) : ∃ c : ByteArray, Hid (c.data.toList = a.data.toList ++ b.data.toList) ∧ c.size ≤ m ∧ ∀ w : World, (Op.stringOp .add a b).run Tryd.prog w = .ok (.string c) w :=
  ⟨a ++ b, Lib.hid (by rw [ByteArray.data_append, Array.toList_append]), by rw [ByteArray.size_append]; exact h, fun w => run_string_add_sum w a b (by omega)⟩
theorem gapB_size (sp : List UInt8) (k : Nat) (b : Bool) : (gapB sp k b).size ≤ 3 := (lawF_ok sp).short k b

theorem gap_at (sp : List UInt8) (so : Option Addr) (sc k : Nat) (K : Int) (hK : K = k) (sm : Bool) (w : World) (hs : BytesAt w so sp) :
    Calls Tryd.prog 15 #[.slice so sp.length sc, .int .i64 K, .bool sm] w fun e w' => e = .returned (.string (gapB sp k sm)) ∧ Below w.heap.size w w' := by
  subst hK
  exact gap_any sp so sc k sm w hs

set_option maxHeartbeats 16000000 in
set_option maxRecDepth 100000 in
theorem round_walk (n : ByteArray) (ss : List ByteArray) (zs : List Int) (sp : List UInt8) (na ka so : Option Addr) (nc kc sc : Nat) (w : World) (hr : ResAt w) (hk : KindAt w) (hs : StrsAt w na ss) (hz : IntsAt w ka zs) (hsp : BytesAt w so sp) (hzl : zs.length ≤ 9223372036854775807) :
    Calls Tryd.prog 4 #[.string n, .slice na ss.length nc, .slice ka zs.length kc, .slice so sp.length sc] w fun e w' => e = .returned (.bool true) ∧ Below w.heap.size w w' := by
  have HR := Lib.hid hr
  have HK := Lib.hid hk
  have HSP := Lib.hid hsp
  have HTY := Lib.hid (typed_any n ss zs na ka nc kc w hr hs hz hzl)
  obtain ⟨n', hn'⟩ : ∃ n', n' = if nameB n = true then n else ⟨#[84]⟩ := ⟨_, rfl⟩
  have HN := Lib.hid (show nameB n' = true by
    rw [hn']
    split
    · assumption
    · decide +kernel)
  rw [← hn'] at HTY
  clear hr hk hs hz hsp hn'
  go_enter Tryd.func4, Tryd.ntmps4
  go_wp2_with fail
  refine HTY.out.mono ?_; rintro e w1 ⟨⟨va, m, cp, hm16, hm, rfl, hown⟩, hb1⟩
  clear HTY
  obtain ⟨l, hl⟩ : ∃ l, l = typedL ss zs m := ⟨_, rfl⟩
  have hlm : l.length = m := by rw [hl, typedL_length]
  have HA := Lib.hid (show ∀ a ∈ l, attrNameB a.1 = true ∧ 1 ≤ a.2 ∧ a.2 ≤ 3 by rw [hl]; exact typed_attrs ss zs m hm16)
  have HNEW := Lib.hid (show ∀ k (h : k < l.length), hasB (l.take k) (l[k]).1 = false by subst hl; exact typed_new ss zs m hm16)
  have HF := Lib.hid (show faultB n' l = 0 by rw [hl]; exact typed_ok n' ss zs m hm16 HN.out)
  rw [← hl] at hown
  subst hlm
  have hoa := owned_attrs rfl hown
  have HTA := Lib.hid (TyAt.made (n := n') hoa.1 hoa.2)
  have HB1 := Lib.hid hb1
  clear hl hown hoa hm hb1
  have hn32 : n'.size ≤ 32 := name_size HN.out
  have HLS := Lib.hid (show ∀ a ∈ l, a.1.size ≤ 32 from fun a h => name_size (attr_name (HA.out a h).1))
  obtain ⟨T, hT⟩ : ∃ T, T = w1.heap.size := ⟨_, rfl⟩
  obtain ⟨W2, hW2⟩ : ∃ W2, W2 = w1.alloc (Obj.cells #[.string n', .slice va l.length cp] 27) := ⟨_, rfl⟩
  have HB2 := Lib.hid (show Below w.heap.size w W2 by rw [hW2]; exact HB1.out.alloc HB1.out.size _)
  have HW2 := Lib.hid hW2
  rw [← hW2, ← hT] at HTA
  have HT := Lib.hid hT
  clear hT hW2
  go_upto_region 2 with fail
  rw [← HW2.out, ← HT.out]
  have t0 := HTA.out.c0
  have t1 := HTA.out.c1
  go_wp2_with fail
  clear t0 t1
  refine (print_ok n' l va cp W2 (HR.out.below HB2.out) (HK.out.below HB2.out (Nat.le_refl _)) HTA.out.cap HTA.out.at' HF.out hn32 hm16 HLS.out).mono ?_; rintro e w3 ⟨rfl, hb3⟩
  obtain ⟨s, hs⟩ : ∃ s, s = printB n' l := ⟨_, rfl⟩
  rw [← hs]
  have HS := Lib.hid hs
  have HB3 := Lib.hid (HB2.out.trans (hb3.mono HB2.out.size))
  have HTA3 := Lib.hid (HTA.out.below hb3)
  clear hs hb3
  go_wp2_with fail
  refine (parse_whole (printF l.length) (printF_ok _) s n' l _ (HR.out.below HB3.out) (HK.out.below HB3.out (Nat.le_refl _)) hm16 HN.out HA.out HNEW.out (by rw [HS.out]; exact print_whole n' l)).mono ?_; rintro e w4 ⟨⟨g4, c4, rfl, hown4⟩, hb4⟩
  have hoa4 := owned_attrs rfl hown4
  have HU := Lib.hid (TyAt.made (n := n') hoa4.1 hoa4.2)
  have HB4 := Lib.hid (HB3.out.trans (hb4.mono HB3.out.size))
  have HTA4 := Lib.hid (HTA3.out.below hb4)
  clear hoa4 hown4 hb4
  obtain ⟨U, hU⟩ : ∃ U, U = w4.heap.size := ⟨_, rfl⟩
  obtain ⟨W5, hW5⟩ : ∃ W5, W5 = w4.alloc (Obj.cells #[.string n', .slice (some ⟨g4, 0, none⟩) l.length c4] 27) := ⟨_, rfl⟩
  have hb45 : Below w4.heap.size w4 W5 := by rw [hW5]; exact (Below.refl _ _).alloc (Nat.le_refl _) _
  have HB5 := Lib.hid (HB4.out.trans (hb45.mono HB4.out.size))
  have HTA5 := Lib.hid (HTA4.out.below hb45)
  have HW5 := Lib.hid hW5
  rw [← hW5, ← hU] at HU
  have HUE := Lib.hid hU
  clear hU hW5 hb45
  have t0 := HTA5.out.c0
  have t1 := HTA5.out.c1
  have u0 := HU.out.c0
  have u1 := HU.out.c1
  go_upto_region 4 with fail
  rw [← HW5.out, ← HUE.out]
  go_wp2_with fail
  refine (eqType_same n' l va (some ⟨g4, 0, none⟩) cp c4 W5 hm16 HTA5.out.at' HU.out.at').mono ?_; rintro e w6 ⟨rfl, hb6⟩
  have HB6 := Lib.hid (HB5.out.trans (hb6.mono HB5.out.size))
  have HTA6 := Lib.hid (HTA5.out.below hb6)
  clear t0 t1 u0 u1 hb6
  obtain ⟨V, hV⟩ : ∃ V, V = w6.heap.size := ⟨_, rfl⟩
  obtain ⟨W7, hW7⟩ : ∃ W7, W7 = w6.alloc (Obj.cells #[.string ⟨#[]⟩, .string ⟨#[73, 78, 84]⟩, .string ⟨#[83, 84, 82]⟩, .string ⟨#[66, 79, 79, 76]⟩] 49) := ⟨_, rfl⟩
  have hb67 : Below w6.heap.size w6 W7 := by rw [hW7]; exact (Below.refl _ _).alloc (Nat.le_refl _) _
  have HB7 := Lib.hid (HB6.out.trans (hb67.mono HB6.out.size))
  have HTA7 := Lib.hid (HTA6.out.below hb67)
  have HV7 := Lib.hid (show W7.heap[V]? = some (Obj.cells #[.string ⟨#[]⟩, .string ⟨#[73, 78, 84]⟩, .string ⟨#[83, 84, 82]⟩, .string ⟨#[66, 79, 79, 76]⟩] 49 (0, 0)) by rw [hW7, hV]; exact heap_alloc_new _ _)
  have HW7 := Lib.hid hW7
  have HVE := Lib.hid hV
  clear hV hW7 hb67
  go_upto_region 7 with fail
  rw [← HW7.out, ← HVE.out]
  have z0 := gapB_size sp 0 false
  have z1 := gapB_size sp 1 true
  have z2 := gapB_size sp 2 false
  have z3 := gapB_size sp 3 false
  have s1 : (⟨#[84, 89, 80, 69]⟩ : ByteArray).size ≤ 4 := Nat.le_refl _
  have s2 : (⟨#[40]⟩ : ByteArray).size ≤ 1 := Nat.le_refl _
  obtain ⟨P1, L1, y1, j1⟩ := addS (gapB sp 0 false) ⟨#[84, 89, 80, 69]⟩ 7 (by omega) (by omega)
  obtain ⟨P2, L2, y2, j2⟩ := addS P1 (gapB sp 1 true) 10 (by omega) (by omega)
  obtain ⟨P3, L3, y3, j3⟩ := addS P2 n' 42 (by omega) (by omega)
  obtain ⟨P4, L4, y4, j4⟩ := addS P3 (gapB sp 2 false) 45 (by omega) (by omega)
  obtain ⟨P5, L5, y5, j5⟩ := addS P4 ⟨#[40]⟩ 46 (by omega) (by omega)
  obtain ⟨P6, L6, y6, j6⟩ := addS P5 (gapB sp 3 false) 49 (by omega) (by omega)
  have HP6 := Lib.hid (show P6.data.toList = preL (lawF sp) n' by
    rw [L6.out, L5.out, L4.out, L3.out, L2.out, L1.out]
    simp only [preL, lawF, List.append_assoc])
  clear L1 L2 L3 L4 L5 L6 y1 y2 y3 y4 y5 z0 z1 z2 z3 s1 s2
  have t0 := HTA7.out.c0
  have HSP7 := Lib.hid (HSP.out.below HB7.out)
  have HBx := Lib.hid (Below.refl W7.heap.size W7)
  have htl := HTA7.out.lt
  go_region_held3 (fun w' => w'.cell? ⟨T, 0, none⟩ = some (.string n'))
    (first
      | go_keep
      | exact r0)
    ((first
      | (go_at_call 15; (with_reducible refine (gap_at sp so sc 0 0 rfl false _ (HSP7.out.below (by first | exact HBx.out.drew | exact HBx.out))).mono ?_); rintro e w8 ⟨rfl, hb8⟩; have HBx := Lib.hid ((show Below W7.heap.size W7 _ by first | exact HBx.out.drew | exact HBx.out).trans (hb8.mono (HBx.out.size))); have r0 := (HBx.out.cell (p := ⟨T, 0, none⟩) htl).trans t0)
      | (go_at_call 15; (with_reducible refine (gap_at sp so sc 1 1 rfl true _ (HSP7.out.below (by first | exact HBx.out.drew | exact HBx.out))).mono ?_); rintro e w8 ⟨rfl, hb8⟩; have HBx := Lib.hid ((show Below W7.heap.size W7 _ by first | exact HBx.out.drew | exact HBx.out).trans (hb8.mono (HBx.out.size))); have r0 := (HBx.out.cell (p := ⟨T, 0, none⟩) htl).trans t0)
      | (go_at_call 15; (with_reducible refine (gap_at sp so sc 2 2 rfl false _ (HSP7.out.below (by first | exact HBx.out.drew | exact HBx.out))).mono ?_); rintro e w8 ⟨rfl, hb8⟩; have HBx := Lib.hid ((show Below W7.heap.size W7 _ by first | exact HBx.out.drew | exact HBx.out).trans (hb8.mono (HBx.out.size))); have r0 := (HBx.out.cell (p := ⟨T, 0, none⟩) htl).trans t0)
      | (go_at_call 15; (with_reducible refine (gap_at sp so sc 3 3 rfl false _ (HSP7.out.below (by first | exact HBx.out.drew | exact HBx.out))).mono ?_); rintro e w8 ⟨rfl, hb8⟩; have HBx := Lib.hid ((show Below W7.heap.size W7 _ by first | exact HBx.out.drew | exact HBx.out).trans (hb8.mono (HBx.out.size))); have r0 := (HBx.out.cell (p := ⟨T, 0, none⟩) htl).trans t0)))
  have HB8 := Lib.hid (HB7.out.trans (HBx.out.mono HB7.out.size))
  have HTA8 := Lib.hid (HTA7.out.below HBx.out)
  have HSP8 := Lib.hid (HSP7.out.below HBx.out)
  have hVlt : V < W7.heap.size := (Array.getElem?_eq_some_iff.1 HV7.out).1
  have HV8 := Lib.hid ((HBx.out.block V hVlt).trans HV7.out)
  have z78 := HBx.out.size
  have hTl : T < w8.heap.size := by omega
  have hVl : V < w8.heap.size := by omega
  clear j1 j2 j3 j4 j5 j6 t0 r0
  go_wp2_with fail
  go_loopw [16, 17, 18] (fun x q i wr => ∃ (k Q : Nat) (y : ByteArray), k ≤ l.length ∧ i = .int .i64 k ∧ q = .int .i64 Q ∧ x = .string y ∧ Q = 3 * k + 4 ∧ y.data.toList = preL (lawF sp) n' ++ itemsL (lawF sp) 0 (l.take k) ∧ Below w8.heap.size w8 wr) (fun _ _ i _ => l.length - (intOf i).toNat)
  case atStart => exact ⟨0, 4, P6, Nat.zero_le _, rfl, rfl, rfl, rfl, by rw [HP6.out]; simp [itemsL], Below.refl _ _⟩
  case round =>
    obtain ⟨k, Q, y, hk, rfl, rfl, rfl, hQ, hy, hbel⟩ := hrel
    have HQ := Lib.hid hQ
    have HY := Lib.hid hy
    have HB := Lib.hid hbel
    have hQ4 : Q = 3 * k + 4 := hQ
    have hQb : Q ≤ 52 := by omega
    have hzr := hbel.size
    have HTAr := Lib.hid (HTA8.out.below hbel)
    have HSPr := Lib.hid (HSP8.out.below hbel)
    have HVr := Lib.hid ((hbel.block V hVl).trans HV8.out)
    have hyl : y.size ≤ 49 + 46 * k := by
      have h1 := pre_len (lawF sp) (lawF_ok sp) n' hn32
      have h2 := items_len (lawF sp) (lawF_ok sp) (l.take k) 0 (fun a ha => HLS.out a (List.mem_of_mem_take ha))
      have h3 : y.size = y.data.toList.length := rfl
      rw [h3, hy, List.length_append]
      rw [List.length_take] at h2
      omega
    clear hQ hy hbel hQ4
    have t1 := HTAr.out.c1
    by_cases hlt : k < l.length
    · go_upto_if 79 with fail
      go_cut [16] (fun s16 wx => ∃ x : ByteArray, s16 = .string x ∧ x.data.toList = (preL (lawF sp) n' ++ itemsL (lawF sp) 0 (l.take k)) ++ (if 0 < k then lawF sp (3 * k + 4) false ++ ([44] ++ lawF sp (3 * k + 5) false) else []) ∧ x.size ≤ y.size + 7 ∧ Below wr.heap.size wr wx)
      case first =>
        by_cases hk0 : 0 < k
        · have z0 := gapB_size sp (3 * k + 4) false
          have z1 := gapB_size sp (3 * k + 5) false
          have s1 : (⟨#[44]⟩ : ByteArray).size ≤ 1 := Nat.le_refl _
          obtain ⟨P1, L1, y1, j1⟩ := addS y (gapB sp (3 * k + 4) false) (y.size + 3) (by omega) (by omega)
          obtain ⟨P2, L2, y2, j2⟩ := addS P1 ⟨#[44]⟩ (y.size + 4) (by omega) (by omega)
          obtain ⟨P3, L3, y3, j3⟩ := addS P2 (gapB sp (3 * k + 5) false) (y.size + 7) (by omega) (by omega)
          clear z0 z1 s1
          go_wp2_with fail
          (with_reducible refine (gap_at sp so sc (3 * k + 4) _ (by rw [HQ.out]) false _ HSPr.out).mono ?_); rintro e w9 ⟨rfl, hb9⟩
          have HSP9 := Lib.hid (HSPr.out.below hb9)
          have HB9 := Lib.hid hb9
          clear hb9
          go_wp2_with fail
          (with_reducible refine (gap_at sp so sc (3 * k + 5) _ (by have := HQ.out; omega) false _ HSP9.out).mono ?_); rintro e w10 ⟨rfl, hb10⟩
          have HB10 := Lib.hid (HB9.out.trans (hb10.mono HB9.out.size))
          clear hb10
          go_wp2_with fail
          go_meet
          exact ⟨P3, rfl, by rw [L3.out, L2.out, L1.out, if_pos hk0, HY.out]; simp only [lawF, List.append_assoc], y3, HB10.out⟩
        · go_wp2_with fail
          go_meet
          exact ⟨y, rfl, by rw [if_neg hk0, HY.out, List.append_nil], by omega, Below.refl _ _⟩
      case rest =>
        obtain ⟨x, rfl, hx, hxs, hbx⟩ := hcut
        obtain ⟨W9, hW9⟩ : ∃ W9, W9 = wc := ⟨_, rfl⟩
        rw [← hW9] at hbx ⊢
        clear hW9
        have HX := Lib.hid hx
        have HTA9 := Lib.hid (HTAr.out.below hbx)
        have HSP9 := Lib.hid (HSPr.out.below hbx)
        have HV9 := Lib.hid ((hbx.block V (by omega)).trans HVr.out)
        have HB9 := Lib.hid hbx
        have hz9 := hbx.size
        clear hx hbx t1
        have t1 := HTA9.out.c1
        obtain ⟨b, o, rfl, hcell⟩ : ∃ b o, va = some ⟨b, o, none⟩ ∧ ∀ i (h : i < l.length), W9.cell? ⟨b, o + i * 2, none⟩ = some (.string l[i].1) ∧ W9.cell? ⟨b, o + i * 2 + 1, none⟩ = some (.int .i64 l[i].2) := by
          rcases HTA9.out.at' with h | h
          · rw [h] at hlt; simp at hlt
          · exact h
        obtain ⟨g1, g2⟩ := hcell k hlt
        have hbl := World.block_lt_of_cell? W9 _ g1
        simp only at hbl
        have hak := (HA.out l[k] (List.getElem_mem hlt)).2
        have hms := HLS.out l[k] (List.getElem_mem hlt)
        have HIT := Lib.hid (items_take (lawF sp) l k hlt)
        obtain ⟨⟨nm, kd⟩, ha⟩ : ∃ a : Attr, a = l[k] := ⟨_, rfl⟩
        rw [← ha] at g1 g2 hak hms HIT
        simp only at g1 g2 hak hms
        obtain ⟨K, rfl⟩ : ∃ K : Nat, kd = (K : Int) := ⟨kd.toNat, by omega⟩
        have hK1 : 1 ≤ K := by omega
        have hK3 : K ≤ 3 := by omega
        have g3 : W9.cell? ⟨V, K, none⟩ = some (.string (kindWordB (K : Int))) := by
          have h' : K = 1 ∨ K = 2 ∨ K = 3 := by omega
          rcases h' with rfl | rfl | rfl <;> simp [World.cell?, HV9.out] <;> rfl
        clear hcell ha hak
        have b1 : (0 : Int) ≤ (k : Int) := by omega
        have b2 : (k : Int) < (l.length : Int) := by omega
        have b3 : (0 : Int) ≤ (K : Int) := by omega
        have b4 : (K : Int) < 4 := by omega
        have q2 : IntKind.i64.wrap ((Q : Int) + 2) = (Q : Int) + 2 := IntWalk.i64_in _ (by omega)
        have z2 := gapB_size sp (3 * k + 6) true
        have z3 := kw_size (K : Int)
        obtain ⟨P1, L1, y1, j1⟩ := addS x nm (y.size + 39) (by omega) (by omega)
        obtain ⟨P2, L2, y2, j2⟩ := addS P1 (gapB sp (3 * k + 6) true) (y.size + 42) (by omega) (by omega)
        obtain ⟨P3, L3, y3, j3⟩ := addS P2 (kindWordB (K : Int)) (y.size + 46) (by omega) (by omega)
        clear z2 z3
        go_upto_region 14 with fail
        go_region_held3 (fun w' => w'.cell? ⟨T, 1, none⟩ = some (.slice (some ⟨b, o, none⟩) l.length cp) ∧ w'.cell? ⟨b, o + k * 2, none⟩ = some (.string nm) ∧ w'.cell? ⟨b, o + k * 2 + 1, none⟩ = some (.int .i64 (K : Int)) ∧ w'.cell? ⟨V, K, none⟩ = some (.string (kindWordB (K : Int))))
          (first
            | go_keep
            | exact ⟨r1, r2, r3, r4⟩)
          ((first
            | (go_at_call 15; (with_reducible refine (gap_at sp so sc (3 * k + 6) _ (by have := HQ.out; omega) true _ (HSP9.out.below (Below.refl _ W9).drew)).mono ?_); rintro e w10 ⟨rfl, hb10⟩; have hbD := (Below.refl W9.heap.size W9).drew.trans hb10; have r1 := (hbD.cell (p := ⟨T, 1, none⟩) (by simp; omega)).trans t1; have r2 := (hbD.cell (p := ⟨b, o + k * 2, none⟩) (by simp; omega)).trans g1; have r3 := (hbD.cell (p := ⟨b, o + k * 2 + 1, none⟩) (by simp; omega)).trans g2; have r4 := (hbD.cell (p := ⟨V, K, none⟩) (by simp; omega)).trans g3)))
        go_wp2_with fail
        go_roundw
        case rel =>
          refine ⟨k + 1, Q + 3, P3, by omega, by go_num, by go_num, rfl, by have := HQ.out; omega, ?_, HB.out.trans ((HB9.out.trans (hbD.mono hz9)).mono hzr)⟩
          rw [L3.out, L2.out, L1.out, HX.out, HIT.out]
          simp only [itemT, lawF, List.append_assoc]
        case measure => simp [intOf]; omega
    · obtain rfl : k = l.length := by omega
      have z0 := gapB_size sp (3 * l.length + 4) false
      have z1 := gapB_size sp (3 * l.length + 5) false
      have s1 : (⟨#[41]⟩ : ByteArray).size ≤ 1 := Nat.le_refl _
      obtain ⟨P1, L1, y1, j1⟩ := addS y (gapB sp (3 * l.length + 4) false) (y.size + 3) (by omega) (by omega)
      obtain ⟨P2, L2, y2, j2⟩ := addS P1 ⟨#[41]⟩ (y.size + 4) (by omega) (by omega)
      obtain ⟨P3, L3, y3, j3⟩ := addS P2 (gapB sp (3 * l.length + 5) false) (y.size + 7) (by omega) (by omega)
      have HW := Lib.hid (show P3.data.toList = wholeL (lawF sp) n' l by
        rw [L3.out, L2.out, L1.out, HY.out, List.take_of_length_le (Nat.le_refl _)]
        simp only [wholeL, lawF, List.append_assoc])
      clear z0 z1 s1
      go_wp2_with fail
      (with_reducible refine (gap_at sp so sc (3 * l.length + 4) _ (by rw [HQ.out]) false _ HSPr.out).mono ?_); rintro e w9 ⟨rfl, hb9⟩
      have HSP9 := Lib.hid (HSPr.out.below hb9)
      have HB9 := Lib.hid hb9
      clear hb9 t1
      go_wp2_with fail
      (with_reducible refine (gap_at sp so sc (3 * l.length + 5) _ (by have := HQ.out; omega) false _ HSP9.out).mono ?_); rintro e w10 ⟨rfl, hb10⟩
      have HB10 := Lib.hid (HB9.out.trans (hb10.mono HB9.out.size))
      have HB10w := Lib.hid (HB8.out.trans ((HB.out.trans (HB10.out.mono hzr)).mono HB8.out.size))
      have HTA10 := Lib.hid (HTAr.out.below HB10.out)
      clear hb10
      go_wp2_with fail
      refine (parse_whole (lawF sp) (lawF_ok sp) P3 n' l _ (HR.out.below HB10w.out) (HK.out.below HB10w.out (Nat.le_refl _)) hm16 HN.out HA.out HNEW.out HW.out).mono ?_; rintro e w11 ⟨⟨g11, c11, rfl, hown11⟩, hb11⟩
      have hoa11 := owned_attrs rfl hown11
      have HV11 := Lib.hid (TyAt.made (n := n') hoa11.1 hoa11.2)
      have HB11 := Lib.hid (HB10w.out.trans (hb11.mono HB10w.out.size))
      have HTA11 := Lib.hid (HTA10.out.below hb11)
      clear hoa11 hown11 hb11
      obtain ⟨X, hX⟩ : ∃ X, X = w11.heap.size := ⟨_, rfl⟩
      obtain ⟨W12, hW12⟩ : ∃ W12, W12 = w11.alloc (Obj.cells #[.string n', .slice (some ⟨g11, 0, none⟩) l.length c11] 27) := ⟨_, rfl⟩
      have hb12 : Below w11.heap.size w11 W12 := by rw [hW12]; exact (Below.refl _ _).alloc (Nat.le_refl _) _
      have HB12 := Lib.hid (HB11.out.trans (hb12.mono HB11.out.size))
      have HTA12 := Lib.hid (HTA11.out.below hb12)
      have HW12 := Lib.hid hW12
      rw [← hW12, ← hX] at HV11
      have HXE := Lib.hid hX
      clear hX hW12 hb12
      go_upto_region 18 with fail
      rw [← HW12.out, ← HXE.out]
      have v0 := HV11.out.c0
      have v1 := HV11.out.c1
      go_wp2_with fail
      refine (print_ok n' l (some ⟨g11, 0, none⟩) c11 W12 (HR.out.below HB12.out) (HK.out.below HB12.out (Nat.le_refl _)) HV11.out.cap HV11.out.at' HF.out hn32 hm16 HLS.out).mono ?_; rintro e w13 ⟨rfl, hb13⟩
      have HB13 := Lib.hid (HB12.out.trans (hb13.mono HB12.out.size))
      have HTA13 := Lib.hid (HTA12.out.below hb13)
      have HV13 := Lib.hid (HV11.out.below hb13)
      rw [← HS.out]
      clear v0 v1 hb13
      have t0 := HTA13.out.c0
      have t1 := HTA13.out.c1
      have v0 := HV13.out.c0
      have v1 := HV13.out.c1
      have qs : (s.toList == s.toList) = true := by simp
      go_wp2_with fail
      refine (eqType_same n' l va (some ⟨g11, 0, none⟩) cp c11 _ hm16 HTA13.out.at' HV13.out.at').mono ?_; rintro e w14 ⟨rfl, hb14⟩
      go_wp2_with fail
      go_ret
      exact ⟨rfl, HB13.out.trans (hb14.mono HB13.out.size)⟩
end Go.Proofs.YtpcmhbafcgineaaDoor
