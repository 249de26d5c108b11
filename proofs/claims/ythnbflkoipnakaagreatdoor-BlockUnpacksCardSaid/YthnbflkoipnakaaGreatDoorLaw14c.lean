/-
  LAW 14: BlockUnpacks. No conditions (but that the tables lie as the program's text lays them).
-/
import Derived.Test.YthnbflkoipnakaaGreatDoorLaw14a
import Derived.Test.YthnbflkoipnakaaGreatDoorMcl
namespace Go.Proofs.YthnbflkoipnakaaGreatDoor
open Go.RowKit
set_option maxRecDepth 1000000
set_option linter.unusedVariables false

theorem agL_nzB {M d z : Nat} : ∀ (k : Nat) {o : List F}, agL M d k o = .error z → z ≠ 0 := by
  intro k
  induction k with
  | zero => intro o h; cases h
  | succ k ih =>
    intro o h
    change (if o.length < M then agL M d k (o ++ [gt o (o.length - d)]) else .error 6) = _ at h
    split at h
    · exact ih h
    · injection h with h; omega
theorem exF_nzB {M z : Nat} : ∀ {T : List Tok} {o : List F}, exF M T o = .error z → z ≠ 0 := by
  intro T
  induction T with
  | nil => intro o h; cases h
  | cons t r ih =>
    intro o h
    change bndL (tkF M t o) (exF M r) = _ at h
    cases e : tkF M t o with
    | ok x => rw [e] at h; exact ih h
    | error y =>
      rw [e] at h
      injection h with h
      subst h
      unfold tkF at e
      split at e
      · split at e
        · cases e
        · injection e with e; omega
      · split at e
        · split at e
          · injection e with e; omega
          · exact agL_nzB _ e
        · injection e with e; omega
theorem okF_ex {M : Nat} {T : List Tok} {o o2 : List F} (h : exF M T o = .ok o2) : okF T = T.length := by
  refine okF_is (fun i hi => ?_) (.inl rfl)
  have h1 := (exF_len h).2
  have e : tg T i = T[i] := by unfold tg; rw [List.getD_eq_getElem?_getD, List.getElem?_eq_getElem hi]; rfl
  rw [e]
  exact h1 _ (List.getElem_mem hi)
theorem un_one14 {M : Nat} {T : List Tok} {o : List F} {Y : List Bool} (h : exF M T [] = .ok o) (hY : DynY T true Y) : unpF (pack Y) M = .ok ⟨Y.length, o⟩ := by
  have h1 := (UpTo.nil M).done (BkS.dyn (X := []) h hY)
  simpa using h1
theorem un_two14 {M K : Nat} {T : List Tok} {o : List F} {Y : List Bool} (h : exF M T [] = .ok o) (hK : M + o.length ≤ K) (hY : DynY T true Y) : unpF (pack (fixB T false ++ Y)) K = .ok ⟨(fixB T false ++ Y).length, o ++ o⟩ := by
  have h0 := (UpTo.nil K).next (BkS.fixed (last := false) (X := []) (exF_room (K := K) (by omega) h))
  have h2 : exF K T o = .ok (o ++ o) := by
    have := exF_pre (K := K) o hK h
    simpa using this
  have h1 := h0.done (BkS.dyn h2 hY)
  simpa using h1
/-- a row of tokens, and the tables, while calls run -/
structure OneE (w : World) (A : Option Addr) (n : Nat) (T : List Tok) (W : World) : Prop where
  bel : Below w.heap.size w W
  tab : Tabs W
  a : TRow W A n T
theorem OneE.go {w W W' : World} {A : Option Addr} {n : Nat} {T : List Tok} (h : OneE w A n T W) (hb : Below W.heap.size W W') : OneE w A n T W' := ⟨h.bel.trans (hb.mono h.bel.size), h.tab.below hb, h.a.below hb⟩
theorem Row.pre {w : World} {A : Option Addr} {n m : Nat} {a b : List F} (h : Row w A n (a ++ b)) (hm : m = a.length) : Row w A m a := by
  have hl := h.len
  rw [List.length_append] at hl
  subst hm
  refine ⟨rfl, by have := h.2.1; omega, fun h0 => ?_⟩
  obtain ⟨x, off, e, hb, hc⟩ := h.2.2 (by omega)
  refine ⟨x, off, e, hb, fun i hi => ?_⟩
  have h1 := hc i (by omega)
  rwa [gt_append, if_pos hi] at h1
/-- two new writers -/
structure New2 (w : World) (W : World) : Prop where
  bel : Below w.heap.size w W
  f1 : Wr W w.heap.size none 0 0 0 []
  f2 : Wr W (w.heap.size + 1) none 0 0 0 []
  sz : w.heap.size + 1 + 1 ≤ W.heap.size
theorem New2.new (w : World) : New2 w ((w.alloc (.cells #[.slice none 0 0, .int .i64 0] 48)).alloc (.cells #[.slice none 0 0, .int .i64 0] 48)) := by
  have k1 := Wr.fresh w #[.slice none 0 0, .int .i64 0] rfl
  have k2 := Wr.fresh (w.alloc (.cells #[.slice none 0 0, .int .i64 0] 48)) #[.slice none 0 0, .int .i64 0] rfl
  rw [World.size_alloc] at k2
  exact ⟨((Below.refl w.heap.size w).alloc (Nat.le_refl _) _).alloc (by simp) _, k1.below ((Below.refl _ _).alloc (Nat.le_refl _) _), k2, by simp⟩
theorem dynB_y {w0 w : World} {p : Nat} {A : Option Addr} {len cap m : Nat} {X : List Bool} (h : Wr w p A len cap m X) (hb : Below w0.heap.size w0 w) (hp : w0.heap.size ≤ p) (htb : Tabs w0)
    (C : Option Addr) (N c : Nat) (T : List Tok) (hT : TRow w0 C N T) (hN : N ≤ 1000) (hok : okF T = N) (last : Bool) (hroom : m + 128 * N + 40000 ≤ 1000000) :
    Calls Tryz.prog 20 #[.pointer (some ⟨p, 0, none⟩), .slice C N c, .bool last] w fun e w' => e = .returned (.int .i64 0) ∧ ∃ A' len' cap' m' Y, DynY T last Y ∧ Wr w' p A' len' cap' m' (X ++ Y) ∧ WOut p (Value.slice A len cap).ownBlock (Value.slice A' len' cap').ownBlock w w' :=
  (DynamicB_c h hb hp htb C N c T hT hN hok last hroom).mono fun e w' ⟨he, A', len', cap', m', LL, LD, R, LA, h1, h2, h3, h4, hW, hO⟩ => ⟨he, A', len', cap', m', _, ⟨LL, LD, LA, R, h1, h2, h3, h4, rfl⟩, hW, hO⟩
set_option maxHeartbeats 16000000 in
theorem unpacks_main (w : World) (ht : Tabs w) (A : Option Addr) (n ca : Nat) (T : List Tok) (hT : TRow w A n T) (hna : n ≤ ca) (hca : ca ≤ 9223372036854775807) (hn : n ≤ 60) :
    Calls Tryz.prog 4 #[.slice A n ca] w fun e w' => e = .returned (.bool true) ∧ Below w.heap.size w w' := by
  have HLT := Lib.hid hT.len
  have E0 : Hid (OneE w A n T w) := ⟨Below.refl _ _, ht, hT⟩
  have hn6 : ¬ (60 : Int) < (n : Int) := by omega
  clear ht hT
  go_enter Tryz.func4, Tryz.ntmps4
  go_wp2_with fail
  refine (alive14_c w E0.out.tab).mono ?_
  rintro e w1 ⟨rfl, hb⟩
  have E1 := Lib.hid (E0.out.go hb)
  clear hb E0
  go_wp2_with fail
  refine (Count_c A n ca T w1 E1.out.a (by omega) E1.out.tab).mono ?_
  rintro e w2 ⟨gx, gy, rfl, -, -, -, hox, hoy, hb⟩
  have E2 := Lib.hid (E1.out.go hb)
  have RX : Hid (IRow w2 (some ⟨gx, 0, none⟩) 286 .i64 (fR 286 (lF T))) := fR_row hox (fun s => by have := lF_le T s; rw [HLT.out] at this; omega) (by omega)
  have RY : Hid (IRow w2 (some ⟨gy, 0, none⟩) 30 .i64 (fR 30 (dF T))) := fR_row hoy (fun s => by have := dF_le T s; rw [HLT.out] at this; omega) (by omega)
  clear hb E1 hox hoy
  go_wp2_with fail
  refine (RCount_c A n ca T w2 E2.out.a (by omega) hna hca).mono ?_
  rintro e w3 ⟨gu, gv, rfl, -, -, -, hou, hov, hb⟩
  rw [lF_first] at hou
  have E3 := Lib.hid (E2.out.go hb)
  have RX3 := Lib.hid (RX.out.below hb)
  have RY3 := Lib.hid (RY.out.below hb)
  have RU : Hid (IRow w3 (some ⟨gu, 0, none⟩) 286 .i64 (fR 286 (lF T))) := fR_row hou (fun s => by have := lF_le T s; rw [HLT.out] at this; omega) (by omega)
  have RV : Hid (IRow w3 (some ⟨gv, 0, none⟩) 30 .i64 (fR 30 (dF T))) := fR_row hov (fun s => by have := dF_le T s; rw [HLT.out] at this; omega) (by omega)
  clear hb E2 hou hov RX RY
  go_wp2_with fail
  refine (SameI_c _ _ 286 286 286 286 _ _ w3 RX3.out RU.out).mono ?_
  rintro e w4 ⟨rfl, q, rfl⟩
  rw [decide_eq_true (rfl : fR 286 (lF T) = fR 286 (lF T))]
  have E4 := Lib.hid (E3.out.go (below_drewN (Below.refl _ w3) q))
  have RY4 := Lib.hid (RY3.out.drewN q)
  have RV4 := Lib.hid (RV.out.drewN q)
  generalize w3.drewN q = w4 at *
  clear E3 RX3 RU RY3 RV
  go_wp2_with fail
  refine (SameI_c _ _ 30 30 30 30 _ _ w4 RY4.out RV4.out).mono ?_
  rintro e w5 ⟨rfl, q2, rfl⟩
  rw [decide_eq_true (rfl : fR 30 (dF T) = fR 30 (dF T))]
  have E5 := Lib.hid (E4.out.go (below_drewN (Below.refl _ w4) q2))
  generalize w4.drewN q2 = w5 at *
  clear E4 RY4 RV4
  go_wp2_with fail
  refine (RExp_c A n ca T w5 E5.out.a (by omega) 3000 3000 rfl (by omega)).mono ?_
  rintro e w6 (⟨z, g1, rfl, hb⟩ | ⟨o, A6, n6, c6, g1, g2, rfl, hown6, hb⟩)
  · have hz := exF_nzB g1
    have hz1 : ((z : Int) != 0) = true := by rw [bne_iff_ne]; omega
    have E6 := Lib.hid (E5.out.go hb)
    clear g1 hz hb
    go_wp2
    go_ret
    exact ⟨rfl, E6.out.bel⟩
  · have E6 := Lib.hid (E5.out.go hb)
    have HEX := Lib.hid g1
    have ho3 : n6 ≤ 3000 := by rw [g2]; exact exF_le g1 (by simp)
    have HN6 := Lib.hid g2
    have HOK : Hid (okF T = n) := by unfold Hid; rw [okF_ex g1]; exact HLT.out
    have RO := Lib.hid (Row.of_own hown6)
    clear g1 g2 hb hown6 E5
    have N0 := Lib.hid (New2.new w6)
    go_wp2_with fail
    generalize (w6.alloc (.cells #[.slice none 0 0, .int .i64 0] 48)).alloc (.cells #[.slice none 0 0, .int .i64 0] 48) = W0 at *
    refine (dynB_y N0.out.f1 N0.out.bel (Nat.le_refl _) E6.out.tab A n ca T E6.out.a (by omega) HOK.out true (by omega)).mono ?_
    rintro e W1 ⟨rfl, A1, len1, cap1, m1, Y1, hY1, hW1, hO1⟩
    rw [List.nil_append] at hW1
    have HW1 := Lib.hid hW1
    have HF1 := Lib.hid (N0.out.f2.woutO hO1 (by omega) (none_ne _) (fun g hg => (none_no hg).elim))
    have B1 := Lib.hid (N0.out.f1.keeps hO1 N0.out.bel (Nat.le_refl _))
    have HL1 : Hid (∀ g, (Value.slice A1 len1 cap1).ownBlock = some g → w6.heap.size + 1 + 1 ≤ g ∧ g < W1.heap.size) := fun g hg => ⟨hO1.lo N0.out.sz g hg, (hW1.own.lt g hg).2⟩
    have HS1 : Hid (w6.heap.size + 1 + 1 ≤ W1.heap.size) := Nat.le_trans N0.out.sz hO1.size
    have HY1 := Lib.hid hY1
    clear hY1 hW1 hO1 N0
    go_wp2_with fail
    refine (FixedB_c HF1.out B1.out (by omega) E6.out.tab A n ca T E6.out.a (by omega) HOK.out false (by omega)).mono ?_
    rintro e W2 ⟨rfl, A2, len2, cap2, m2, hW2, hO2⟩
    rw [List.nil_append] at hW2
    have HW12 := Lib.hid (HW1.out.woutO hO2 (by omega) (none_ne _) (fun g hg => ⟨by have := (HL1.out g hg).1; omega, none_ne _⟩))
    have HL2 : Hid (∀ g, (Value.slice A2 len2 cap2).ownBlock = some g → W1.heap.size ≤ g) := fun g hg => hO2.lo (Nat.le_refl _) g hg
    have B2 := Lib.hid (HF1.out.keeps hO2 B1.out (by omega))
    have hm2 : m2 ≤ 10 + 48 * n := by
      have h1 := hW2.hn.out
      have h2 := fixB_le T false
      rw [HLT.out] at h2
      omega
    have HW2 := Lib.hid hW2
    clear hW2 hO2 HW1 HF1 B1
    go_wp2_with fail
    refine (dynB_y HW2.out B2.out (by omega) E6.out.tab A n ca T E6.out.a (by omega) HOK.out true (by omega)).mono ?_
    rintro e W3 ⟨rfl, A3, len3, cap3, m3, Y3, hY3, hW3, hO3⟩
    have HW13 := Lib.hid (HW12.out.woutO hO3 (by omega) (fun e => by have := HL2.out _ e; have := HS1.out; omega) (fun g hg => ⟨by have := (HL1.out g hg).1; omega, fun e => by have := HL2.out _ e; have := (HL1.out g hg).2; omega⟩))
    have B3 := Lib.hid (HW2.out.keeps hO3 B2.out (by omega))
    have HW3 := Lib.hid hW3
    have HY3 := Lib.hid hY3
    have RO3 := Lib.hid (RO.out.below B3.out)
    have HB3 := Lib.hid (E6.out.bel.trans (B3.out.mono E6.out.bel.size))
    clear hW3 hO3 hY3 HW12 HW2 B2 HL1 HL2 HS1 RO E6 B3
    have hl1 : len1 = (Y1.length + 7) / 8 := HW13.out.hl.out
    have hl3 : len3 = ((fixB T false ++ Y3).length + 7) / 8 := HW3.out.hl.out
    have hk1 : len1 ≤ 10000 := by have := HY1.out.le; rw [HLT.out] at this; omega
    have hk3 : len3 ≤ 10000 := by
      have h1 := HY3.out.le
      have h2 := fixB_le T false
      rw [HLT.out] at h1 h2
      rw [List.length_append] at hl3
      omega
    have HX1 := Lib.hid (un_one14 HEX.out HY1.out)
    have HX3 := Lib.hid (un_two14 (K := 6000) HEX.out (by have := HN6.out; omega) HY3.out)
    have HLA := Lib.hid hl1
    have HLC := Lib.hid hl3
    clear hl1 hl3
    go_wp2_with fail
    refine (DoneB_c HW13.out).mono ?_
    rintro e W4 ⟨A4, c4, rfl, hown4, hb4⟩
    have B4 := Lib.hid (HB3.out.trans (hb4.mono HB3.out.size))
    have HW14 := Lib.hid (HW13.out.below hb4)
    have HW34 := Lib.hid (HW3.out.below hb4)
    have RO4 := Lib.hid (RO3.out.below hb4)
    have HU4 := Lib.hid (RefUnpack_c W4 A4 len1 c4 (pack Y1) (own_in hown4) hk1 3000 3000 rfl (by omega))
    clear hown4 hb4 HB3 HW13 HW3 RO3
    go_wp2_with fail
    refine HU4.out.mono ?_
    rintro e W5 hU
    rw [HX1.out] at hU
    rcases hU with ⟨z, h1, _⟩ | ⟨u, A5, n5, c5, h1, rfl, hown5, hb5⟩
    · cases h1
    injection h1 with h1
    subst h1
    have hn5 : n5 = n6 := by have := own_len hown5; have := HN6.out; simp at *; omega
    subst hn5
    have B5 := Lib.hid (B4.out.trans (hb5.mono B4.out.size))
    have HW15 := Lib.hid (HW14.out.below hb5)
    have HW35 := Lib.hid (HW34.out.below hb5)
    have RO5 := Lib.hid (RO4.out.below hb5)
    have RA5 := Lib.hid (Row.of_own hown5)
    clear hown5 hb5 B4 HW14 HW34 RO4 HU4
    dsimp only at RA5 ⊢
    rw [← HLA.out]
    go_wp2_with fail
    refine (DoneB_c HW35.out).mono ?_
    rintro e W6 ⟨A7, c7, rfl, hown7, hb7⟩
    have B6 := Lib.hid (B5.out.trans (hb7.mono B5.out.size))
    have HW16 := Lib.hid (HW15.out.below hb7)
    have HW36 := Lib.hid (HW35.out.below hb7)
    have RO6 := Lib.hid (RO5.out.below hb7)
    have RA6 := Lib.hid (RA5.out.below hb7)
    have HU6 := Lib.hid (RefUnpack_c W6 A7 len3 c7 (pack (fixB T false ++ Y3)) (own_in hown7) hk3 6000 6000 rfl (by omega))
    clear hown7 hb7 B5 HW15 HW35 RO5 RA5
    go_wp2_with fail
    refine HU6.out.mono ?_
    rintro e W7 hU
    rw [HX3.out] at hU
    rcases hU with ⟨z, h1, _⟩ | ⟨u, A8, n8, c8, h1, rfl, hown8, hb8⟩
    · cases h1
    injection h1 with h1
    subst h1
    have hn8 : n8 = n5 + n5 := by have := own_len hown8; have := HN6.out; simp at *; omega
    have hn8i : 2 * (n5 : Int) = (n8 : Int) := by omega
    have HN8 := Lib.hid hn8
    have B7 := Lib.hid (B6.out.trans (hb8.mono B6.out.size))
    have HW17 := Lib.hid (HW16.out.below hb8)
    have HW37 := Lib.hid (HW36.out.below hb8)
    have RO7 := Lib.hid (RO6.out.below hb8)
    have RA7 := Lib.hid (RA6.out.below hb8)
    have hcap : (n5 : Int) ≤ (c8 : Int) := by
      obtain ⟨A9, c9, e, h1, _⟩ := own_shape hown8
      injection e with _ _ e
      omega
    have RC7 : Hid (Row W7 A8 n5 o) := (Row.of_own hown8).pre HN6.out
    clear hn8
    clear hown8 hb8 B6 HW16 HW36 RO6 RA6 HU6
    rw [← HLC.out]
    go_wp2_with fail
    refine (Same_c _ _ n5 _ _ o o W7 RA7.out RO7.out rfl).mono ?_
    rintro e _ ⟨rfl, q7, rfl⟩
    have B8 := Lib.hid (below_drewN B7.out q7)
    have HW18 := Lib.hid (HW17.out.drewN q7)
    have HW38 := Lib.hid (HW37.out.drewN q7)
    have RO8 := Lib.hid (RO7.out.drewN q7)
    have RC8 := Lib.hid (RC7.out.drewN q7)
    generalize W7.drewN q7 = W8 at *
    clear B7 HW17 HW37 RO7 RC7 RA7
    go_wp2_with fail
    refine (DoneB_c HW18.out).mono ?_
    rintro e W9 ⟨A9, c9, rfl, hown9, hb9⟩
    have B9 := Lib.hid (B8.out.trans (hb9.mono B8.out.size))
    have HW39 := Lib.hid (HW38.out.below hb9)
    have RO9 := Lib.hid (RO8.out.below hb9)
    have RC9 := Lib.hid (RC8.out.below hb9)
    have hll : ((len1 : Int) != (len1 : Int)) = false := by simp
    clear hown9 hb9 B8 HW18 HW38 RO8 RC8
    go_wp2_with fail
    refine (Same_c _ _ n5 _ _ o o W9 RC9.out RO9.out rfl).mono ?_
    rintro e _ ⟨rfl, q9, rfl⟩
    have B10 := Lib.hid (below_drewN B9.out q9)
    have HW310 := Lib.hid (HW39.out.drewN q9)
    generalize W9.drewN q9 = W10 at *
    clear B9 HW39 RO9 RC9
    go_wp2_with fail
    refine (DoneB_c HW310.out).mono ?_
    rintro e W11 ⟨A11, c11, rfl, hown11, hb11⟩
    have B11 := Lib.hid (B10.out.trans (hb11.mono B10.out.size))
    clear hown11 hb11 B10 HW310
    go_wp2
    go_ret
    exact ⟨rfl, B11.out⟩
theorem walk_BlockUnpacks (w : World) (ht : Tabs w) (A : Option Addr) (n ca : Nat) (T : List Tok) (hT : TRow w A n T) (hna : n ≤ ca) (hca : ca ≤ 9223372036854775807) :
    Calls Tryz.prog 4 #[.slice A n ca] w fun e w' => e = .returned (.bool true) ∧ Below w.heap.size w w' := by
  by_cases hn : n ≤ 60
  · exact unpacks_main w ht A n ca T hT hna hca hn
  · have hn2 : (60 : Int) < (n : Int) := by omega
    have HT := Lib.hid ht
    clear ht hT
    go_enter Tryz.func4, Tryz.ntmps4
    go_wp2_with fail
    refine (alive14_c w HT.out).mono ?_
    rintro e w1 ⟨rfl, hb⟩
    go_wp2
    go_ret
    exact ⟨rfl, hb⟩
end Go.Proofs.YthnbflkoipnakaaGreatDoor
