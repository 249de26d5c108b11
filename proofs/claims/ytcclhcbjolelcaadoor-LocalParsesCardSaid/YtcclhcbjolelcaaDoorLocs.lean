/-
  LOCAL HEADERS: the document's Parse of what has bytes enough (WRITTEN by wip/gen18q.py). No conditions (but for how many bytes there are).
-/
import Derived.Test.YtcclhcbjolelcaaDoorLocp
namespace Go.Proofs.YtcclhcbjolelcaaDoor
open Go.RowKit
set_option maxRecDepth 100000
set_option linter.unusedVariables false
set_option linter.unusedSimpArgs false

set_option maxHeartbeats 4000000 in
theorem RParse_c30 (A : Option Addr) (n c : Nat) (l : List F) (w : World) (h : RowIn w A n c l) (hn : n ≤ 1000000) (h1 : (lnV l).2 = 0) (hc : c = 30) :
    Calls Tryd.prog 15 #[.slice A n c] w fun e w' => e = .returned (.tuple #[hdV (prV l).1, .int .i64 ((prV l).2.1 : Nat), .int .i64 (prV l).2.2]) ∧ Below w.heap.size w w' := by
  subst hc
  obtain ⟨P, hP⟩ : ∃ P, P = prV l := ⟨_, rfl⟩
  rw [← hP]
  obtain ⟨hN1, hN2, hN3, hN4⟩ := lnV_le h1
  have hPV : P = if hdB (rdH l) (atL l 12 2) (atL l 10 2) ≠ l.take (lnV l).1 then (hd0, 0, 21) else if mthE (rdH l).m ≠ 0 then (hd0, 0, 43) else if ¬ okP (unSt (atL l 12 2) (atL l 10 2)) then (hd0, 0, 41) else if nokE (rdH l).nm ≠ 0 then (hd0, 0, nokE (rdH l).nm) else (mkT (rdH l) (unSt (atL l 12 2) (atL l 10 2)), (lnV l).1, 0) := by
    rw [hP]
    unfold prV
    rw [if_neg (fun e => e h1)]
  have hbeh : hdB (rdH l) (atL l 12 2) (atL l 10 2) = l.take (lnV l).1 → atL l 28 2 = 0 ∨ atL l 28 2 = 20 := hdB_beh (rdH l) _ _ hN2
  have hmix : ∀ d t, mixL (hdB (rdH l) d t) l 14 = hdB (rdH l) (atL l 12 2) (atL l 10 2) := fun d t => mix_hdB (rdH l) d t l (by show ((atL l 8 2 : Nat) : Int).toNat = _; omega) (by omega)
  have hR : rdH l = ⟨(atL l 8 2 : Nat), st0, atL l 14 4, if atL l 28 2 = 20 then atL l (42 + atL l 26 2) 8 else atL l 18 4, if atL l 28 2 = 20 then atL l (34 + atL l 26 2) 8 else atL l 22 4, nmOf ((l.drop 30).take (atL l 26 2))⟩ := rfl
  have hW := rdH_wf l st0 ⟨by decide, by decide, by decide, by decide, by decide, by decide⟩
  have hnmL : (nmOf ((l.drop 30).take (atL l 26 2))).length = atL l 26 2 := by
    have ht : tolN l = 30 + atL l 26 2 + atL l 28 2 := rfl
    show ((l.drop 30).take (atL l 26 2)).length = _
    rw [List.length_take, List.length_drop]
    omega
  have hlen : l.length = n := h.row.len
  have hle := h.le
  have ht : (lnV l).1 = 30 + atL l 26 2 + atL l 28 2 := hN3
  obtain ⟨b, o, rfl, hbl, _⟩ := h.row.at_ (k := 0) (by omega)
  have hslc := h.slice (a := 30) (M := 30 + atL l 26 2) (by omega) (by omega)
  rw [show 30 + atL l 26 2 - 30 = atL l 26 2 by omega] at hslc
  have H := Lib.hid h
  have Ha0 : Hid (∀ W, RowIn W (some ⟨b, o, none⟩) n 30 l → Calls Tryd.prog 29 #[.slice (some ⟨b, o, none⟩) n 30, .int .i64 0, .int .i64 4] W fun e w' => e = .returned (.int .u64 (atL l 0 4 : Nat)) ∧ W = w') := fun W h => RAt_z _ n 30 l W h 0 4 _ _ rfl rfl (by omega) hn
  have Ha8 : Hid (∀ W, RowIn W (some ⟨b, o, none⟩) n 30 l → Calls Tryd.prog 29 #[.slice (some ⟨b, o, none⟩) n 30, .int .i64 8, .int .i64 2] W fun e w' => e = .returned (.int .u64 (atL l 8 2 : Nat)) ∧ W = w') := fun W h => RAt_z _ n 30 l W h 8 2 _ _ rfl rfl (by omega) hn
  have Ha10 : Hid (∀ W, RowIn W (some ⟨b, o, none⟩) n 30 l → Calls Tryd.prog 29 #[.slice (some ⟨b, o, none⟩) n 30, .int .i64 10, .int .i64 2] W fun e w' => e = .returned (.int .u64 (atL l 10 2 : Nat)) ∧ W = w') := fun W h => RAt_z _ n 30 l W h 10 2 _ _ rfl rfl (by omega) hn
  have Ha12 : Hid (∀ W, RowIn W (some ⟨b, o, none⟩) n 30 l → Calls Tryd.prog 29 #[.slice (some ⟨b, o, none⟩) n 30, .int .i64 12, .int .i64 2] W fun e w' => e = .returned (.int .u64 (atL l 12 2 : Nat)) ∧ W = w') := fun W h => RAt_z _ n 30 l W h 12 2 _ _ rfl rfl (by omega) hn
  have Ha14 : Hid (∀ W, RowIn W (some ⟨b, o, none⟩) n 30 l → Calls Tryd.prog 29 #[.slice (some ⟨b, o, none⟩) n 30, .int .i64 14, .int .i64 4] W fun e w' => e = .returned (.int .u64 (atL l 14 4 : Nat)) ∧ W = w') := fun W h => RAt_z _ n 30 l W h 14 4 _ _ rfl rfl (by omega) hn
  have Ha18 : Hid (∀ W, RowIn W (some ⟨b, o, none⟩) n 30 l → Calls Tryd.prog 29 #[.slice (some ⟨b, o, none⟩) n 30, .int .i64 18, .int .i64 4] W fun e w' => e = .returned (.int .u64 (atL l 18 4 : Nat)) ∧ W = w') := fun W h => RAt_z _ n 30 l W h 18 4 _ _ rfl rfl (by omega) hn
  have Ha22 : Hid (∀ W, RowIn W (some ⟨b, o, none⟩) n 30 l → Calls Tryd.prog 29 #[.slice (some ⟨b, o, none⟩) n 30, .int .i64 22, .int .i64 4] W fun e w' => e = .returned (.int .u64 (atL l 22 4 : Nat)) ∧ W = w') := fun W h => RAt_z _ n 30 l W h 22 4 _ _ rfl rfl (by omega) hn
  have Hk1 : Hid (∀ W, RowIn W (some ⟨b, o, none⟩) n 30 l → Calls Tryd.prog 29 #[.slice (some ⟨b, o, none⟩) n 30, .int .i64 26, .int .i64 2] W fun e w' => e = .returned (.int .u64 (atL l 26 2 : Nat)) ∧ W = w') := fun W h => RAt_z _ n 30 l W h 26 2 _ _ rfl rfl (by omega) hn
  have Hk2 : Hid (∀ W, RowIn W (some ⟨b, o, none⟩) n 30 l → Calls Tryd.prog 29 #[.slice (some ⟨b, o, none⟩) n 30, .int .i64 28, .int .i64 2] W fun e w' => e = .returned (.int .u64 (atL l 28 2 : Nat)) ∧ W = w') := fun W h => RAt_z _ n 30 l W h 28 2 _ _ rfl rfl (by omega) hn
  have bm := atL_lt2 l 8
  have bt := atL_lt2 l 10
  have bd := atL_lt2 l 12
  have bs := atL_lt4 l 14
  have bk1 := atL_lt2 l 26
  have bk2 := atL_lt2 l 28
  have b0 : (((atL l 0 4 : Nat) : Int) != 67324752) = false := by rw [hN4]; rfl
  have HPV := Lib.hid hPV
  have HBEH := Lib.hid hbeh
  have HMIX := Lib.hid hmix
  have HRR := Lib.hid hR
  have HWW := Lib.hid hW
  have HNML := Lib.hid hnmL
  have HSLC := Lib.hid hslc
  clear hPV hbeh hmix hR hW hnmL hslc h hP hN4 hN3 h1
  generalize Fa0 : atL l 0 4 = a0 at *
  have Ea0 := Lib.hid Fa0
  clear Fa0
  generalize Fa8 : atL l 8 2 = a8 at *
  have Ea8 := Lib.hid Fa8
  clear Fa8
  generalize Fa10 : atL l 10 2 = a10 at *
  have Ea10 := Lib.hid Fa10
  clear Fa10
  generalize Fa12 : atL l 12 2 = a12 at *
  have Ea12 := Lib.hid Fa12
  clear Fa12
  generalize Fa14 : atL l 14 4 = a14 at *
  have Ea14 := Lib.hid Fa14
  clear Fa14
  generalize Fa18 : atL l 18 4 = a18 at *
  have Ea18 := Lib.hid Fa18
  clear Fa18
  generalize Fa22 : atL l 22 4 = a22 at *
  have Ea22 := Lib.hid Fa22
  clear Fa22
  generalize Fk1 : atL l 26 2 = k1 at *
  have Ek1 := Lib.hid Fk1
  clear Fk1
  generalize Fk2 : atL l 28 2 = k2 at *
  have Ek2 := Lib.hid Fk2
  clear Fk2
  generalize (lnV l).1 = N at *
  generalize hnm : nmOf ((l.drop 30).take k1) = nm at *
  have HNM := Lib.hid hnm
  clear hnm
  have hN : N = 30 + k1 + k2 := ht
  have HN := Lib.hid hN
  have hNn : N ≤ n := by omega
  have i4 : ¬ (n : Int) < 4 := by omega
  have i30 : decide ((n : Int) < 30) = false := by rw [decide_eq_false_iff_not]; omega
  have i7 : ¬ (n : Int) < (30 : Int) + (k1 : Int) + (k2 : Int) := by omega
  have i8 : (30 : Int) + (k1 : Int) ≤ (30 : Int) := by omega
  have i9 : (30 : Int) ≤ (30 : Int) + (k1 : Int) := by omega
  have u1 : IntKind.i64.wrap (k1 : Int) = (k1 : Int) := IntWalk.i64_in _ (by omega)
  have u2 : IntKind.i64.wrap (k2 : Int) = (k2 : Int) := IntWalk.i64_in _ (by omega)
  have u3 : IntKind.i64.wrap (a8 : Int) = (a8 : Int) := IntWalk.i64_in _ (by omega)
  have u4 : IntKind.u32.wrap (a14 : Int) = (a14 : Int) := by show (a14 : Int) % 4294967296 = _; omega
  have u5 : IntKind.u16.wrap (a10 : Int) = (a10 : Int) := by show (a10 : Int) % 65536 = _; omega
  have u6 : IntKind.u16.wrap (a12 : Int) = (a12 : Int) := by show (a12 : Int) % 65536 = _; omega
  clear ht hN
  have HZ := Lib.hid (Blk.new w 35 z11)
  have HBL := Lib.hid ((Below.refl w.heap.size w).alloc (Nat.le_refl _) (.cells z11 35))
  have HA := Lib.hid (H.out.below ((Below.refl _ _).alloc (Nat.le_refl _) (.cells z11 35)))
  have hw1 : IntKind.i64.wrap ((30 : Int) + (k1 : Int)) = (30 : Int) + (k1 : Int) := IntWalk.i64_in _ (by omega)
  have hw2 : ((30 : Int) + (k1 : Int)).toNat - 30 = k1 := by omega
  have hw3 : (30 : Int) ≤ max ((30 : Int) + (k1 : Int)) 0 := by omega
  have eS : strB ((l.drop 30).take k1) = S nm := (strB_S (nmOf ((l.drop 30).take k1))).trans (by rw [HNM.out])
  have hsr := (HSLC.out.1 rfl).row
  have HKP : Hid (∀ W, Below w.heap.size w W → Below w.heap.size w W ∧ Sem.run Tryd.prog (convert 29 9 (.slice (some ⟨b, o, none⟩) k1 0)) W = .ok (.string (S nm)) W) := by
    intro W hb
    refine ⟨hb, ?_⟩
    rw [← eS]
    exact run_row_string _ (hsr.below hb)
  have HRW : Hid (∀ W, Below w.heap.size w W → RowIn W (some ⟨b, o, none⟩) n 30 l) := fun W hb => H.out.below hb
  obtain ⟨kp1, kp2⟩ := HKP.out _ HBL.out
  unfold z11 at kp1 kp2

  unfold z11 at HA
  go_enter Tryd.func15, Tryd.ntmps15
  go_wp2_with (go_at_call 29; first | (with_reducible refine (Ha0.out _ HA.out).mono ?_; rintro e _ ⟨rfl, rfl⟩) | (with_reducible refine (Hk1.out _ HA.out).mono ?_; rintro e _ ⟨rfl, rfl⟩) | (with_reducible refine (Hk2.out _ HA.out).mono ?_; rintro e _ ⟨rfl, rfl⟩))
  apply cut_in
  case f =>
    intro hREST
    go_region_held3 (fun W => Below w.heap.size w W ∧ Sem.run Tryd.prog (convert 29 9 (.slice (some ⟨b, o, none⟩) k1 0)) W = .ok (.string (S nm)) W)
      (first
        | go_keep
        | (refine HKP.out _ ?_
           repeat' (first | assumption | refine below_drewL ?_ | refine below_drewN ?_ _ | refine Below.alloc ?_ ?_ _ | (simp; done) | (simp; omega))))
      (first
        | (go_at_call 29; with_reducible refine Calls.mono (Ha8.out _ (HRW.out _ ?_)) ?_; (repeat' (first | assumption | refine below_drewL ?_ | refine below_drewN ?_ _ | refine Below.alloc ?_ ?_ _ | (simp; done) | (simp; omega))); rintro e _ ⟨rfl, rfl⟩)
        | (go_at_call 29; with_reducible refine Calls.mono (Ha14.out _ (HRW.out _ ?_)) ?_; (repeat' (first | assumption | refine below_drewL ?_ | refine below_drewN ?_ _ | refine Below.alloc ?_ ?_ _ | (simp; done) | (simp; omega))); rintro e _ ⟨rfl, rfl⟩)
        | (go_at_call 29; with_reducible refine Calls.mono (Ha18.out _ (HRW.out _ ?_)) ?_; (repeat' (first | assumption | refine below_drewL ?_ | refine below_drewN ?_ _ | refine Below.alloc ?_ ?_ _ | (simp; done) | (simp; omega))); rintro e _ ⟨rfl, rfl⟩)
        | (go_at_call 29; with_reducible refine Calls.mono (Ha22.out _ (HRW.out _ ?_)) ?_; (repeat' (first | assumption | refine below_drewL ?_ | refine below_drewN ?_ _ | refine Below.alloc ?_ ?_ _ | (simp; done) | (simp; omega))); rintro e _ ⟨rfl, rfl⟩))
    all_goals exact hREST.out
  case z =>
    have HZ1 := Lib.hid (show Blk (((w.alloc (.cells z11 35)).alloc (.cells #[.int .i64 (a8 : Nat), .int .i64 0, .int .i64 0, .int .i64 0, .int .i64 0, .int .i64 0, .int .i64 0, .int .u32 (a14 : Nat), .int .u64 (a18 : Nat), .int .u64 (a22 : Nat), .string (S nm)] 35)).drew) w.heap.size 35 z11 from (HZ.out.below HZ.out.lt ((Below.refl _ _).alloc (Nat.le_refl _) _)).drew)
    have HK1 := Lib.hid (show Blk (((w.alloc (.cells z11 35)).alloc (.cells #[.int .i64 (a8 : Nat), .int .i64 0, .int .i64 0, .int .i64 0, .int .i64 0, .int .i64 0, .int .i64 0, .int .u32 (a14 : Nat), .int .u64 (a18 : Nat), .int .u64 (a22 : Nat), .string (S nm)] 35)).drew) (w.heap.size + 1) 35 #[.int .i64 (a8 : Nat), .int .i64 0, .int .i64 0, .int .i64 0, .int .i64 0, .int .i64 0, .int .i64 0, .int .u32 (a14 : Nat), .int .u64 (a18 : Nat), .int .u64 (a22 : Nat), .string (S nm)] from by have := Blk.new (w.alloc (.cells z11 35)) 35 #[.int .i64 (a8 : Nat), .int .i64 0, .int .i64 0, .int .i64 0, .int .i64 0, .int .i64 0, .int .i64 0, .int .u32 (a14 : Nat), .int .u64 (a18 : Nat), .int .u64 (a22 : Nat), .string (S nm)]; simp only [World.size_alloc] at this; exact this)
    have HB1 := Lib.hid (show Below w.heap.size w (((w.alloc (.cells z11 35)).alloc (.cells #[.int .i64 (a8 : Nat), .int .i64 0, .int .i64 0, .int .i64 0, .int .i64 0, .int .i64 0, .int .i64 0, .int .u32 (a14 : Nat), .int .u64 (a18 : Nat), .int .u64 (a22 : Nat), .string (S nm)] 35)).drew) from below_drewL (HBL.out.alloc (by simp) _))
    unfold z11 at HZ1 HK1 HB1
    generalize (((w.alloc (.cells #[.int .i64 0, .int .i64 0, .int .i64 0, .int .i64 0, .int .i64 0, .int .i64 0, .int .i64 0, .int .u32 0, .int .u64 0, .int .u64 0, .string ⟨#[]⟩] 35)).alloc (.cells #[.int .i64 (a8 : Nat), .int .i64 0, .int .i64 0, .int .i64 0, .int .i64 0, .int .i64 0, .int .i64 0, .int .u32 (a14 : Nat), .int .u64 (a18 : Nat), .int .u64 (a22 : Nat), .string (S nm)] 35)).drew) = W1 at *
    generalize hg7 : w.heap.size + 1 = g7 at *
    have hg7' : w.heap.size < g7 := by omega
    clear hg7 kp1 kp2 HA
    have HG : Hid (¬ k2 = 20) := by unfold Hid; have := HN.out; omega
    have HR2 : Hid (rdH l = ⟨(a8 : Int), st0, a14, a18, a22, nm⟩) := by
      have := HRR.out
      rw [if_neg HG.out, if_neg HG.out] at this
      exact this
    generalize a18 = PK at *
    generalize a22 = SZ at *
    have HK2 := HK1
    have HZ2 := HZ1
    have HB2 := HB1
    clear HK1 HZ1 HB1
    have hRR : rdH l = ⟨(a8 : Int), st0, a14, PK, SZ, nm⟩ := HR2.out
    have HPV2 := HPV.out
    have HBEH2 := HBEH.out
    have HMIX2 := HMIX.out
    have HW2 := HWW.out
    rw [hRR] at HPV2 HBEH2 HMIX2 HW2
    have HP2 := Lib.hid HPV2
    have HBE := Lib.hid HBEH2
    have HMI := Lib.hid HMIX2
    have HWR := Lib.hid HW2
    clear hRR HPV2 HBEH2 HMIX2 HW2 HPV HBEH HMIX HWW HRR HR2
    have hnl : nm.length = k1 := HNML.out
    have hnn : nm.length ≤ 65535 := by omega
    have HNL := Lib.hid hnl
    clear hnl
    obtain ⟨T0, ok, D, T, d', t', hun, hok1, hok2, hD, hT, hd', ht', hTW, hPk⟩ := un_any a12 a10 bd bt
    have HUN := Lib.hid hun
    have HOK1 := Lib.hid hok1
    have HOK2 := Lib.hid hok2
    have HU := Lib.hid (RefUnpackS_c a12 a10 bd bt)
    rw [hun] at HU
    have hwT : HdW ⟨(a8 : Int), T0, a14, PK, SZ, nm⟩ := ⟨HWR.out.m, hTW, HWR.out.sum, HWR.out.pk, HWR.out.sz⟩
    have HBY := Lib.hid (fun W => Rbytes_c ⟨(a8 : Int), T0, a14, PK, SZ, nm⟩ a8 d' t' D T rfl bm hD hT hd' ht' hwT hnn W hPk)
    have HX := Lib.hid (HMI.out d' t')
    have hXL : (hdB (⟨(a8 : Int), st0, a14, PK, SZ, nm⟩ : Hd) d' t').length = 30 + nm.length + behN (grt (⟨(a8 : Int), st0, a14, PK, SZ, nm⟩ : Hd)) := hdB_length _ _ _
    rw [show hdB (⟨(a8 : Int), T0, a14, PK, SZ, nm⟩ : Hd) d' t' = hdB (⟨(a8 : Int), st0, a14, PK, SZ, nm⟩ : Hd) d' t' from rfl] at HBY
    have hXL2 : 30 ≤ (hdB (⟨(a8 : Int), st0, a14, PK, SZ, nm⟩ : Hd) d' t').length := by omega
    clear hun hok1 hok2 hD hT hd' ht' hPk hXL hwT hTW
    generalize hdB (⟨(a8 : Int), st0, a14, PK, SZ, nm⟩ : Hd) d' t' = X at *
    have HX30 := Lib.hid hXL2
    clear hXL2
    obtain ⟨y, mo, dd, hh, mi, s⟩ := T0
    unfold hdV hdC at HBY
    unfold stV at HU
    dsimp only at HU HBY
    go_wp2_with (go_at_call 29; first
      | (with_reducible refine (Ha12.out _ (HRW.out _ HB2.out)).mono ?_; rintro e _ ⟨rfl, rfl⟩)
      | (with_reducible refine (Ha10.out _ (HRW.out _ HB2.out)).mono ?_; rintro e _ ⟨rfl, rfl⟩))
    refine (HU.out _).mono ?_
    rintro e W3 ⟨rfl, hb3⟩
    have HK3 := Lib.hid (HK2.out.below HK2.out.lt hb3)
    have HZ3 := Lib.hid (HZ2.out.below HZ2.out.lt hb3)
    have HB3 := Lib.hid (HB2.out.trans (hb3.mono HB2.out.size))
    clear hb3 HK2 HZ2 HB2
    have hal := (Below.refl W3.heap.size W3).alloc (Nat.le_refl _) (.cells #[.int .i64 y, .int .i64 mo, .int .i64 dd, .int .i64 hh, .int .i64 mi, .int .i64 s] 23)
    have HK4 := Lib.hid (HK3.out.below HK3.out.lt hal)
    have HZ4 := Lib.hid (HZ3.out.below HZ3.out.lt hal)
    have HB4 := Lib.hid (HB3.out.trans (hal.mono HB3.out.size))
    clear hal HK3 HZ3 HB3
    have t1 := st_stpA HK4.out y mo dd hh mi s
    have HK5 := Lib.hid (HK4.out.setRow #[.int .i64 (a8 : Nat), .int .i64 y, .int .i64 mo, .int .i64 dd, .int .i64 hh, .int .i64 mi, .int .i64 s, .int .u32 (a14 : Nat), .int .u64 (PK : Nat), .int .u64 (SZ : Nat), .string (S nm)])
    have HZ5 := Lib.hid (HZ4.out.setRowO (g := g7) (by omega) #[.int .i64 (a8 : Nat), .int .i64 y, .int .i64 mo, .int .i64 dd, .int .i64 hh, .int .i64 mi, .int .i64 s, .int .u32 (a14 : Nat), .int .u64 (PK : Nat), .int .u64 (SZ : Nat), .string (S nm)])
    have HB5 := Lib.hid (below_setRowS HB4.out (show w.heap.size ≤ g7 by omega) #[.int .i64 (a8 : Nat), .int .i64 y, .int .i64 mo, .int .i64 dd, .int .i64 hh, .int .i64 mi, .int .i64 s, .int .u32 (a14 : Nat), .int .u64 (PK : Nat), .int .u64 (SZ : Nat), .string (S nm)])
    have q1 := ld_hdR HK5.out rfl
    clear HK4 HZ4 HB4
    go_wp2_with (first
      | (with_reducible refine wpList_store_at _ _ _ (by with_unfolding_all rfl) (by with_unfolding_all rfl) t1 ?_)
      | (with_reducible refine wpList_load_var _ _ (by with_unfolding_all rfl) q1 ?_))
    refine (HBY.out _).mono ?_
    rintro e W6 ⟨A6, N6, c6, rfl, hown6, hb6⟩
    have HK6 := Lib.hid (HK5.out.below HK5.out.lt hb6)
    have HZ6 := Lib.hid (HZ5.out.below HZ5.out.lt hb6)
    have HB6 := Lib.hid (HB5.out.trans (hb6.mono HB5.out.size))
    have hownR := own_base2 hown6 (show g7 + 1 ≤ _ from HK5.out.lt)
    have hN6 : X.length = N6 := own_len hownR
    have h30N : 30 ≤ N6 := by have := HX30.out; omega
    obtain ⟨g4, rfl, hg4, hg4l⟩ := own_addr hownR (by omega)
    have HM6 : Hid (W6.ownsRow (g7 + 1) 5 1 (.slice (some ⟨g4, 0, none⟩) N6 c6) N6 (cs (mixL X l 8))) := by rw [mixL_8]; exact hownR
    have hcap := own_cap hownR
    have HCELL : Hid (∀ W, Below w.heap.size w W → ∀ k, k < n → W.cell? ⟨b, o + k, none⟩ = some (.int .u8 (gt l k).n)) := fun W hb k hk => by
      obtain ⟨b', o', e, lt, hc⟩ := H.out.row.at_ hk
      cases e
      exact (hb.cell (p := ⟨b, o + k, none⟩) (by exact lt)).trans hc
    have HCSET : Hid (∀ k, 8 ≤ k → k < 30 → k < n → (cs (mixL X l k)).set k (.int .u8 (gt l k).n) = cs (mixL X l (k + 1))) := fun k h8 h30 hkn => by
      rw [cs_set, mixL_set X l k h8 (by omega) (by omega)]
    have HCAT : Hid (∀ k, 8 ≤ k → k < 30 → k < n → (cs (mixL X l k))[k]? = some (.int .u8 (gt (mixL X l k) k).n)) := fun k h8 h30 hkn => cs_at (by rw [mixL_length X l k h8 (by omega) (by omega)]; omega)
    clear hown6 hb6 hownR HK5 HZ5 HB5 q1 t1 HBY HU
    have hn30 : 30 ≤ n := by omega
    have x8 := HCELL.out _ HB6.out 8 (by omega)
    have y8 := (HM6.out.cellAt 8 (by omega)).trans (HCAT.out 8 (by omega) (by omega) (by omega))
    have f8 := HM6.out.frozenAt 8
    have HM7 : Hid ((W6.setCell ⟨g4, 8, none⟩ (.int .u8 (gt l 8).n)).ownsRow (g7 + 1) 5 1 (.slice (some ⟨g4, 0, none⟩) N6 c6) N6 (cs (mixL X l 9))) := by
      have := (HM6.out.stored 8 (.int .u8 (gt l 8).n)).1
      rw [HCSET.out 8 (by omega) (by omega) (by omega)] at this
      exact this
    have HK7 := Lib.hid (HK6.out.setOther (a := ⟨g4, 8, none⟩) (by show g7 ≠ g4; omega) (.int .u8 (gt l 8).n))
    have HZ7 := Lib.hid (HZ6.out.setOther (a := ⟨g4, 8, none⟩) (by show w.heap.size ≠ g4; omega) (.int .u8 (gt l 8).n))
    have HB7 := Lib.hid (HB6.out.trans ((Out.setCell (Out.refl g4 (g4 + 1) W6) 8 (.int .u8 (gt l 8).n)).lowAt (show w.heap.size ≤ g4 by omega) hg4l))
    have x9 := HCELL.out _ HB7.out 9 (by omega)
    have y9 := (HM7.out.cellAt 9 (by omega)).trans (HCAT.out 9 (by omega) (by omega) (by omega))
    have f9 := HM7.out.frozenAt 9
    have HM8 : Hid (((W6.setCell ⟨g4, 8, none⟩ (.int .u8 (gt l 8).n)).setCell ⟨g4, 9, none⟩ (.int .u8 (gt l 9).n)).ownsRow (g7 + 1) 5 1 (.slice (some ⟨g4, 0, none⟩) N6 c6) N6 (cs (mixL X l 10))) := by
      have := (HM7.out.stored 9 (.int .u8 (gt l 9).n)).1
      rw [HCSET.out 9 (by omega) (by omega) (by omega)] at this
      exact this
    have HK8 := Lib.hid (HK7.out.setOther (a := ⟨g4, 9, none⟩) (by show g7 ≠ g4; omega) (.int .u8 (gt l 9).n))
    have HZ8 := Lib.hid (HZ7.out.setOther (a := ⟨g4, 9, none⟩) (by show w.heap.size ≠ g4; omega) (.int .u8 (gt l 9).n))
    have HB8 := Lib.hid (HB7.out.trans ((Out.setCell (Out.refl g4 (g4 + 1) _) 9 (.int .u8 (gt l 9).n)).lowAt (show w.heap.size ≤ g4 by omega) (by simpa using hg4l)))
    clear HM6 HM7 HK6 HK7 HZ6 HZ7 HB6 HB7
    generalize gt l 8 = v8 at *
    generalize gt l 9 = v9 at *
    go_wp2
    go_loopw [13] (fun iv wr => ∃ k : Nat, 10 ≤ k ∧ k ≤ 14 ∧ iv = .int .i64 k ∧ g4 < wr.heap.size ∧ Hid (wr.ownsRow (g7 + 1) 5 1 (.slice (some ⟨g4, 0, none⟩) N6 c6) N6 (cs (mixL X l k))) ∧ Hid (Blk wr g7 35 #[.int .i64 (a8 : Nat), .int .i64 y, .int .i64 mo, .int .i64 dd, .int .i64 hh, .int .i64 mi, .int .i64 s, .int .u32 (a14 : Nat), .int .u64 (PK : Nat), .int .u64 (SZ : Nat), .string (S nm)]) ∧ Hid (Blk wr w.heap.size 35 z11) ∧ Hid (Below w.heap.size w wr)) (fun iv _ => 14 - (intOf iv).toNat)
    case atStart => exact ⟨10, by omega, by omega, rfl, by simpa using hg4l, HM8, HK8, HZ8, HB8⟩
    case round =>
      obtain ⟨k, hk1', hk2', rfl, hgl, hM, hK, hZ, hB⟩ := hrel
      by_cases hlt : k < 14
      · have hkn : (k : Int) < 14 := by omega
        have xk := HCELL.out _ hB.out k (by omega)
        have yk := (hM.out.cellAt k (by omega)).trans (HCAT.out k (by omega) (by omega) (by omega))
        have fk := hM.out.frozenAt k
        have hM2 : Hid ((wr.setCell ⟨g4, k, none⟩ (.int .u8 (gt l k).n)).ownsRow (g7 + 1) 5 1 (.slice (some ⟨g4, 0, none⟩) N6 c6) N6 (cs (mixL X l (k + 1)))) := by
          have := (hM.out.stored k (.int .u8 (gt l k).n)).1
          rw [HCSET.out k (by omega) (by omega) (by omega)] at this
          exact this
        have hK2 := Lib.hid (hK.out.setOther (a := ⟨g4, k, none⟩) (by show g7 ≠ g4; omega) (.int .u8 (gt l k).n))
        have hZ2 := Lib.hid (hZ.out.setOther (a := ⟨g4, k, none⟩) (by show w.heap.size ≠ g4; omega) (.int .u8 (gt l k).n))
        have hB2 := Lib.hid (hB.out.trans ((Out.setCell (Out.refl g4 (g4 + 1) _) k (.int .u8 (gt l k).n)).lowAt (show w.heap.size ≤ g4 by omega) hgl))
        have hki : (k : Int) < (N6 : Int) := by omega
        have hkj : (k : Int) < (n : Int) := by omega
        go_wp2
        go_roundw
        case rel => exact ⟨k + 1, by omega, by omega, by go_num, by simpa using hgl, hM2, hK2, hZ2, hB2⟩
        case measure => simp [intOf]; omega
      · have hkn : ¬ (k : Int) < 14 := by omega
        obtain rfl : k = 14 := by omega
        have hMX := hM.out
        rw [HX.out] at hMX
        have HMX := Lib.hid (Row.of_own hMX)
        clear hM hMX HM8 HK8 HZ8 HB8
        have hrN := Lib.hid ((H.out.row.take (k := N) hNn).below hB.out)
        rw [HN.out] at hrN
        have i20 : (30 : Int) + (k1 : Int) + (k2 : Int) ≤ (30 : Int) := by have := HN.out; omega
        have i21 : (0 : Int) ≤ (30 : Int) + (k1 : Int) + (k2 : Int) := by omega
        have i22 : IntKind.i64.wrap ((30 : Int) + (k1 : Int) + (k2 : Int)) = (30 : Int) + (k1 : Int) + (k2 : Int) := IntWalk.i64_in _ (by omega)
        have i23 : ((30 : Int) + (k1 : Int) + (k2 : Int)).toNat = 30 + k1 + k2 := by omega
        have HI := Lib.hid i23
        have HNC := Lib.hid (RCheck_c nm (by omega))
        clear i23
        by_cases hb : k2 = 0 ∨ k2 = 20
        · obtain ⟨Y, hY⟩ : ∃ Y, Y = hdB (⟨(a8 : Int), st0, a14, PK, SZ, nm⟩ : Hd) a12 a10 := ⟨_, rfl⟩
          rw [← hY] at HMX HP2
          clear hY
          have b20 : ((k2 : Int) != 0) = false := by rcases hb with e | e
                                                     · rw [e]; rfl
                                                     · exact absurd e HG.out
          clear hb
          have HSM : Hid (∀ m cm, m = 30 + k1 + k2 → ∀ W, wr = W → Calls Tryd.prog 12 #[.slice (some ⟨g4, 0, none⟩) N6 c6, .slice (some ⟨b, o, none⟩) m cm] W fun e w' => e = .returned (.bool (decide (Y = l.take (30 + k1 + k2)))) ∧ ∃ q, w' = wr.drewN q) := by
            rintro m cm rfl W rfl
            exact SameA_c _ _ _ _ _ _ _ _ _ HMX.out hrN.out
          have HQ : Hid (decide (Y = l.take (30 + k1 + k2)) = true ↔ Y = l.take N) := by unfold Hid; rw [decide_eq_true_iff, HN.out]
          generalize decide (Y = l.take (30 + k1 + k2)) = bq at *
          cases bq
          case false =>
            have hne : Y ≠ l.take N := fun e => by have := HQ.out.2 e; cases this
            have hv : P = (hd0, 0, 21) := by rw [HP2.out, if_pos hne]
            clear hne
            go_wp2_with (first | (go_at_call 12; refine (HSM.out _ _ HI.out _ rfl).mono ?_; rintro e _ ⟨rfl, q, rfl⟩; have t2 := st_hdR (show Blk (wr.drewN q) w.heap.size 35 z11 from hZ.out) rfl z11 rfl (by simp [z11, Value.oneCell'])) | (with_reducible refine wpList_store_var _ _ _ (by with_unfolding_all rfl) (by with_unfolding_all rfl) t2 ?_))
            have t3 := ld_hdR ((show Blk (wr.drewN q) w.heap.size 35 z11 from hZ.out).setRow z11) rfl
            have HB9 := Lib.hid (below_setRowS (below_drewN hB.out q) (Nat.le_refl _) z11)
            refine bodyPost_ret (v := .tuple #[.agg z11, .int .i64 0, .int .i64 21]) ?_ rfl ⟨by first | (rw [hv, hd0_z]; done) | (rw [hv, hd0_z]; rfl) | (rw [hd0_z]; done) | (rw [hd0_z]; rfl), HB9.out⟩
            rw [results_cell_tt rfl]
            simp [asAddr, Result.andThen, t3]
          case true =>
            have hE := HQ.out.1 rfl
            have HE := Lib.hid hE
            clear hE
            have hE := HE.out
            have c0 := (hK.out.cell 0).trans rfl
            by_cases hx0 : a8 = 0
            · have b24 : ((a8 : Int) != 0) = false := by rw [hx0]; rfl
              have hm0 : mthE (a8 : Int) = 0 := by rw [hx0]; rfl
              clear hx0
              cases ok
              case false =>
                have h4 := HOK2.out rfl
                have hv : P = (hd0, 0, 41) := by rw [HP2.out, if_neg (fun e => e hE), if_neg (fun e => e hm0), if_pos h4]
                go_wp2_with (first | (go_at_call 12; refine (HSM.out _ _ HI.out _ rfl).mono ?_; rintro e _ ⟨rfl, q, rfl⟩; have t2 := st_hdR (show Blk (wr.drewN q) w.heap.size 35 z11 from hZ.out) rfl z11 rfl (by simp [z11, Value.oneCell'])) | (with_reducible refine wpList_store_var _ _ _ (by with_unfolding_all rfl) (by with_unfolding_all rfl) t2 ?_))
                have t3 := ld_hdR ((show Blk (wr.drewN q) w.heap.size 35 z11 from hZ.out).setRow z11) rfl
                have HB9 := Lib.hid (below_setRowS (below_drewN hB.out q) (Nat.le_refl _) z11)
                refine bodyPost_ret (v := .tuple #[.agg z11, .int .i64 0, .int .i64 41]) ?_ rfl ⟨by first | (rw [hv, hd0_z]; done) | (rw [hv, hd0_z]; rfl) | (rw [hd0_z]; done) | (rw [hd0_z]; rfl), HB9.out⟩
                rw [results_cell_tt rfl]
                simp [asAddr, Result.andThen, t3]
              case true =>
                obtain ⟨h4, hT0⟩ := HOK1.out rfl
                have c10 := (hK.out.cell 10).trans rfl
                go_wp2_with (go_at_call 12; refine (HSM.out _ _ HI.out _ rfl).mono ?_; rintro e _ ⟨rfl, q, rfl⟩)
                refine (HNC.out _).mono ?_
                rintro e W8 ⟨rfl, hb8⟩
                have HB8 := Lib.hid ((below_drewN hB.out q).trans (hb8.mono (below_drewN hB.out q).size))
                have HZ8 := Lib.hid ((show Blk (wr.drewN q) w.heap.size 35 z11 from hZ.out).below (show Blk (wr.drewN q) w.heap.size 35 z11 from hZ.out).lt hb8)
                have HK8 := Lib.hid ((show Blk (wr.drewN q) g7 35 #[.int .i64 (a8 : Nat), .int .i64 y, .int .i64 mo, .int .i64 dd, .int .i64 hh, .int .i64 mi, .int .i64 s, .int .u32 (a14 : Nat), .int .u64 (PK : Nat), .int .u64 (SZ : Nat), .string (S nm)] from hK.out).below (show Blk (wr.drewN q) g7 35 #[.int .i64 (a8 : Nat), .int .i64 y, .int .i64 mo, .int .i64 dd, .int .i64 hh, .int .i64 mi, .int .i64 s, .int .u32 (a14 : Nat), .int .u64 (PK : Nat), .int .u64 (SZ : Nat), .string (S nm)] from hK.out).lt hb8)
                clear hb8 c10
                by_cases h5 : nokE nm = 0
                · have b5 : (nokE nm != 0) = false := by rw [h5]; rfl
                  have hv : P = (mkT ⟨(a8 : Int), st0, a14, PK, SZ, nm⟩ ⟨y, mo, dd, hh, mi, s⟩, N, 0) := by
                    rw [HP2.out, if_neg (fun e => e hE), if_neg (fun e => e hm0), if_neg (fun e => e h4), if_neg (fun e => e h5), ← hT0]
                  rw [HN.out] at hv
                  have HV := Lib.hid hv
                  clear hv h5 hT0 h4 hE hm0
                  generalize nokE nm = k5 at *
                  have q1 := ld_hdR HK8.out rfl
                  have t2 := st_hdR HZ8.out rfl #[.int .i64 (a8 : Nat), .int .i64 y, .int .i64 mo, .int .i64 dd, .int .i64 hh, .int .i64 mi, .int .i64 s, .int .u32 (a14 : Nat), .int .u64 (PK : Nat), .int .u64 (SZ : Nat), .string (S nm)] rfl (by simp [Value.oneCell'])
                  have t3 := ld_hdR (HZ8.out.setRow #[.int .i64 (a8 : Nat), .int .i64 y, .int .i64 mo, .int .i64 dd, .int .i64 hh, .int .i64 mi, .int .i64 s, .int .u32 (a14 : Nat), .int .u64 (PK : Nat), .int .u64 (SZ : Nat), .string (S nm)]) rfl
                  have HB9 := Lib.hid (below_setRowS HB8.out (Nat.le_refl _) #[.int .i64 (a8 : Nat), .int .i64 y, .int .i64 mo, .int .i64 dd, .int .i64 hh, .int .i64 mi, .int .i64 s, .int .u32 (a14 : Nat), .int .u64 (PK : Nat), .int .u64 (SZ : Nat), .string (S nm)])
                  go_wp2_with (first
                    | (with_reducible refine wpList_load_var _ _ (by with_unfolding_all rfl) q1 ?_)
                    | (with_reducible refine wpList_store_var _ _ _ (by with_unfolding_all rfl) (by with_unfolding_all rfl) t2 ?_))
                  refine bodyPost_ret (v := .tuple #[.agg #[.int .i64 (a8 : Nat), .int .i64 y, .int .i64 mo, .int .i64 dd, .int .i64 hh, .int .i64 mi, .int .i64 s, .int .u32 (a14 : Nat), .int .u64 (PK : Nat), .int .u64 (SZ : Nat), .string (S nm)], .int .i64 ((30 : Int) + (k1 : Int) + (k2 : Int)), .int .i64 0]) ?_ rfl ⟨by rw [HV.out]; show _ = Ending.returned (.tuple #[_, .int .i64 ((30 + k1 + k2 : Nat) : Int), _]); rw [show ((30 + k1 + k2 : Nat) : Int) = (30 : Int) + (k1 : Int) + (k2 : Int) by omega]; rfl, HB9.out⟩
                  rw [results_cell_tt rfl]
                  simp [asAddr, Result.andThen, t3]
                · have b5 : (nokE nm != 0) = true := by rw [bne_iff_ne]; exact h5
                  have hv : P = (hd0, 0, nokE nm) := by
                    rw [HP2.out, if_neg (fun e => e hE), if_neg (fun e => e hm0), if_neg (fun e => e h4), if_pos h5]
                  generalize nokE nm = k5 at *
                  have t2 := st_hdR HZ8.out rfl z11 rfl (by simp [z11, Value.oneCell'])
                  have t3 := ld_hdR (HZ8.out.setRow z11) rfl
                  have HB9 := Lib.hid (below_setRowS HB8.out (Nat.le_refl _) z11)
                  go_wp2_with (with_reducible refine wpList_store_var _ _ _ (by with_unfolding_all rfl) (by with_unfolding_all rfl) t2 ?_)
                  refine bodyPost_ret (v := .tuple #[.agg z11, .int .i64 0, .int .i64 k5]) ?_ rfl ⟨by first | (rw [hv, hd0_z]; done) | (rw [hv, hd0_z]; rfl) | (rw [hd0_z]; done) | (rw [hd0_z]; rfl), HB9.out⟩
                  rw [results_cell_tt rfl]
                  simp [asAddr, Result.andThen, t3]
            · have b24 : ((a8 : Int) != 0) = true := by rw [bne_iff_ne]; omega
              by_cases hx8 : a8 = 8
              · have b25 : ((a8 : Int) != 8) = false := by rw [hx8]; rfl
                have hm0 : mthE (a8 : Int) = 0 := by rw [hx8]; rfl
                clear hx8 hx0
                cases ok
                case false =>
                  have h4 := HOK2.out rfl
                  have hv : P = (hd0, 0, 41) := by rw [HP2.out, if_neg (fun e => e hE), if_neg (fun e => e hm0), if_pos h4]
                  go_wp2_with (first | (go_at_call 12; refine (HSM.out _ _ HI.out _ rfl).mono ?_; rintro e _ ⟨rfl, q, rfl⟩; have t2 := st_hdR (show Blk (wr.drewN q) w.heap.size 35 z11 from hZ.out) rfl z11 rfl (by simp [z11, Value.oneCell'])) | (with_reducible refine wpList_store_var _ _ _ (by with_unfolding_all rfl) (by with_unfolding_all rfl) t2 ?_))
                  have t3 := ld_hdR ((show Blk (wr.drewN q) w.heap.size 35 z11 from hZ.out).setRow z11) rfl
                  have HB9 := Lib.hid (below_setRowS (below_drewN hB.out q) (Nat.le_refl _) z11)
                  refine bodyPost_ret (v := .tuple #[.agg z11, .int .i64 0, .int .i64 41]) ?_ rfl ⟨by first | (rw [hv, hd0_z]; done) | (rw [hv, hd0_z]; rfl) | (rw [hd0_z]; done) | (rw [hd0_z]; rfl), HB9.out⟩
                  rw [results_cell_tt rfl]
                  simp [asAddr, Result.andThen, t3]
                case true =>
                  obtain ⟨h4, hT0⟩ := HOK1.out rfl
                  have c10 := (hK.out.cell 10).trans rfl
                  go_wp2_with (go_at_call 12; refine (HSM.out _ _ HI.out _ rfl).mono ?_; rintro e _ ⟨rfl, q, rfl⟩)
                  refine (HNC.out _).mono ?_
                  rintro e W8 ⟨rfl, hb8⟩
                  have HB8 := Lib.hid ((below_drewN hB.out q).trans (hb8.mono (below_drewN hB.out q).size))
                  have HZ8 := Lib.hid ((show Blk (wr.drewN q) w.heap.size 35 z11 from hZ.out).below (show Blk (wr.drewN q) w.heap.size 35 z11 from hZ.out).lt hb8)
                  have HK8 := Lib.hid ((show Blk (wr.drewN q) g7 35 #[.int .i64 (a8 : Nat), .int .i64 y, .int .i64 mo, .int .i64 dd, .int .i64 hh, .int .i64 mi, .int .i64 s, .int .u32 (a14 : Nat), .int .u64 (PK : Nat), .int .u64 (SZ : Nat), .string (S nm)] from hK.out).below (show Blk (wr.drewN q) g7 35 #[.int .i64 (a8 : Nat), .int .i64 y, .int .i64 mo, .int .i64 dd, .int .i64 hh, .int .i64 mi, .int .i64 s, .int .u32 (a14 : Nat), .int .u64 (PK : Nat), .int .u64 (SZ : Nat), .string (S nm)] from hK.out).lt hb8)
                  clear hb8 c10
                  by_cases h5 : nokE nm = 0
                  · have b5 : (nokE nm != 0) = false := by rw [h5]; rfl
                    have hv : P = (mkT ⟨(a8 : Int), st0, a14, PK, SZ, nm⟩ ⟨y, mo, dd, hh, mi, s⟩, N, 0) := by
                      rw [HP2.out, if_neg (fun e => e hE), if_neg (fun e => e hm0), if_neg (fun e => e h4), if_neg (fun e => e h5), ← hT0]
                    rw [HN.out] at hv
                    have HV := Lib.hid hv
                    clear hv h5 hT0 h4 hE hm0
                    generalize nokE nm = k5 at *
                    have q1 := ld_hdR HK8.out rfl
                    have t2 := st_hdR HZ8.out rfl #[.int .i64 (a8 : Nat), .int .i64 y, .int .i64 mo, .int .i64 dd, .int .i64 hh, .int .i64 mi, .int .i64 s, .int .u32 (a14 : Nat), .int .u64 (PK : Nat), .int .u64 (SZ : Nat), .string (S nm)] rfl (by simp [Value.oneCell'])
                    have t3 := ld_hdR (HZ8.out.setRow #[.int .i64 (a8 : Nat), .int .i64 y, .int .i64 mo, .int .i64 dd, .int .i64 hh, .int .i64 mi, .int .i64 s, .int .u32 (a14 : Nat), .int .u64 (PK : Nat), .int .u64 (SZ : Nat), .string (S nm)]) rfl
                    have HB9 := Lib.hid (below_setRowS HB8.out (Nat.le_refl _) #[.int .i64 (a8 : Nat), .int .i64 y, .int .i64 mo, .int .i64 dd, .int .i64 hh, .int .i64 mi, .int .i64 s, .int .u32 (a14 : Nat), .int .u64 (PK : Nat), .int .u64 (SZ : Nat), .string (S nm)])
                    go_wp2_with (first
                      | (with_reducible refine wpList_load_var _ _ (by with_unfolding_all rfl) q1 ?_)
                      | (with_reducible refine wpList_store_var _ _ _ (by with_unfolding_all rfl) (by with_unfolding_all rfl) t2 ?_))
                    refine bodyPost_ret (v := .tuple #[.agg #[.int .i64 (a8 : Nat), .int .i64 y, .int .i64 mo, .int .i64 dd, .int .i64 hh, .int .i64 mi, .int .i64 s, .int .u32 (a14 : Nat), .int .u64 (PK : Nat), .int .u64 (SZ : Nat), .string (S nm)], .int .i64 ((30 : Int) + (k1 : Int) + (k2 : Int)), .int .i64 0]) ?_ rfl ⟨by rw [HV.out]; show _ = Ending.returned (.tuple #[_, .int .i64 ((30 + k1 + k2 : Nat) : Int), _]); rw [show ((30 + k1 + k2 : Nat) : Int) = (30 : Int) + (k1 : Int) + (k2 : Int) by omega]; rfl, HB9.out⟩
                    rw [results_cell_tt rfl]
                    simp [asAddr, Result.andThen, t3]
                  · have b5 : (nokE nm != 0) = true := by rw [bne_iff_ne]; exact h5
                    have hv : P = (hd0, 0, nokE nm) := by
                      rw [HP2.out, if_neg (fun e => e hE), if_neg (fun e => e hm0), if_neg (fun e => e h4), if_pos h5]
                    generalize nokE nm = k5 at *
                    have t2 := st_hdR HZ8.out rfl z11 rfl (by simp [z11, Value.oneCell'])
                    have t3 := ld_hdR (HZ8.out.setRow z11) rfl
                    have HB9 := Lib.hid (below_setRowS HB8.out (Nat.le_refl _) z11)
                    go_wp2_with (with_reducible refine wpList_store_var _ _ _ (by with_unfolding_all rfl) (by with_unfolding_all rfl) t2 ?_)
                    refine bodyPost_ret (v := .tuple #[.agg z11, .int .i64 0, .int .i64 k5]) ?_ rfl ⟨by first | (rw [hv, hd0_z]; done) | (rw [hv, hd0_z]; rfl) | (rw [hd0_z]; done) | (rw [hd0_z]; rfl), HB9.out⟩
                    rw [results_cell_tt rfl]
                    simp [asAddr, Result.andThen, t3]
              · have b25 : ((a8 : Int) != 8) = true := by rw [bne_iff_ne]; omega
                have hm0 : mthE (a8 : Int) ≠ 0 := by unfold mthE; rw [if_neg (by omega)]; decide
                have hv : P = (hd0, 0, 43) := by rw [HP2.out, if_neg (fun e => e hE), if_pos hm0]
                clear hx8 hx0
                go_wp2_with (first | (go_at_call 12; refine (HSM.out _ _ HI.out _ rfl).mono ?_; rintro e _ ⟨rfl, q, rfl⟩; have t2 := st_hdR (show Blk (wr.drewN q) w.heap.size 35 z11 from hZ.out) rfl z11 rfl (by simp [z11, Value.oneCell'])) | (with_reducible refine wpList_store_var _ _ _ (by with_unfolding_all rfl) (by with_unfolding_all rfl) t2 ?_))
                have t3 := ld_hdR ((show Blk (wr.drewN q) w.heap.size 35 z11 from hZ.out).setRow z11) rfl
                have HB9 := Lib.hid (below_setRowS (below_drewN hB.out q) (Nat.le_refl _) z11)
                refine bodyPost_ret (v := .tuple #[.agg z11, .int .i64 0, .int .i64 43]) ?_ rfl ⟨by first | (rw [hv, hd0_z]; done) | (rw [hv, hd0_z]; rfl) | (rw [hd0_z]; done) | (rw [hd0_z]; rfl), HB9.out⟩
                rw [results_cell_tt rfl]
                simp [asAddr, Result.andThen, t3]
        · have b20 : ((k2 : Int) != 0) = true := by rw [bne_iff_ne]; omega
          have b21 : ((k2 : Int) != 20) = true := by rw [bne_iff_ne]; omega
          have hne : hdB (⟨(a8 : Int), st0, a14, PK, SZ, nm⟩ : Hd) a12 a10 ≠ l.take N := fun e => hb (HBE.out e)
          have hv : P = (hd0, 0, 21) := by rw [HP2.out, if_pos hne]
          have t2 := st_hdR hZ.out rfl z11 rfl (by simp [z11, Value.oneCell'])
          have t3 := ld_hdR (hZ.out.setRow z11) rfl
          have HB9 := Lib.hid (below_setRowS hB.out (Nat.le_refl _) z11)
          go_wp2_with (with_reducible refine wpList_store_var _ _ _ (by with_unfolding_all rfl) (by with_unfolding_all rfl) t2 ?_)
          refine bodyPost_ret (v := .tuple #[.agg z11, .int .i64 0, .int .i64 21]) ?_ rfl ⟨by first | (rw [hv, hd0_z]; done) | (rw [hv, hd0_z]; rfl) | (rw [hd0_z]; done) | (rw [hd0_z]; rfl), HB9.out⟩
          rw [results_cell_tt rfl]
          simp [asAddr, Result.andThen, t3]
end Go.Proofs.YtcclhcbjolelcaaDoor
