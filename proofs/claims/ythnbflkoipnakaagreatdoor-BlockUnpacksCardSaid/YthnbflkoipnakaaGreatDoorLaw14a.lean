/-
  LAW 14: BlockCounts. No conditions (but that the tables lie as the program's text lays them).
-/
import Derived.Test.YthnbflkoipnakaaGreatDoorLaw14
import Derived.Test.YthnbflkoipnakaaGreatDoorMtc
import Derived.Test.YthnbflkoipnakaaGreatDoorMto
import Derived.IntWalk
namespace Go.Proofs.YthnbflkoipnakaaGreatDoor
open Go.RowKit
set_option maxRecDepth 1000000
set_option linter.unusedVariables false

theorem okF_append {T U : List Tok} (h1 : okF T = T.length) (h2 : okF U = U.length) : okF (T ++ U) = (T ++ U).length := by
  refine okF_is (fun i hi => ?_) (.inl rfl)
  rw [List.length_append] at hi
  by_cases h : i < T.length
  · have e : tg (T ++ U) i = tg T i := by unfold tg; rw [List.getD_eq_getElem?_getD, List.getD_eq_getElem?_getD, List.getElem?_append_left h]
    rw [e]
    exact okF_at (by omega)
  · have e : tg (T ++ U) i = tg U (i - T.length) := by unfold tg; rw [List.getD_eq_getElem?_getD, List.getD_eq_getElem?_getD, List.getElem?_append_right (by omega)]
    rw [e]
    exact okF_at (by omega)
theorem wf_append {T U : List Tok} (h1 : ∀ i, i < T.length → TokWf (tg T i)) (h2 : ∀ i, i < U.length → TokWf (tg U i)) : ∀ i, i < (T ++ U).length → TokWf (tg (T ++ U) i) := by
  intro i hi
  rw [List.length_append] at hi
  by_cases h : i < T.length
  · have e : tg (T ++ U) i = tg T i := by unfold tg; rw [List.getD_eq_getElem?_getD, List.getD_eq_getElem?_getD, List.getElem?_append_left h]
    rw [e]
    exact h1 i h
  · have e : tg (T ++ U) i = tg U (i - T.length) := by unfold tg; rw [List.getD_eq_getElem?_getD, List.getD_eq_getElem?_getD, List.getElem?_append_right (by omega)]
    rw [e]
    exact h2 _ (by omega)
theorem lStep_256 (f : Nat → Nat) (t : Tok) : lStep f t 256 = f 256 := by
  unfold lStep bump
  have := t.lit.lt
  split
  · show (if 256 = t.lit.n then _ else _) = _
    rw [if_neg (by omega)]
  · split
    · rename_i h
      have h1 : lenC t.len = 257 + fndL t.len.toNat 28 := if_pos ⟨h.1, h.2.1⟩
      show (if 256 = lenC t.len then _ else _) = _
      rw [if_neg (by omega)]
    · rfl
theorem lF_256 (T : List Tok) : lF T 256 = 1 := by
  have h : ∀ (T : List Tok) (f : Nat → Nat), T.foldl lStep f 256 = f 256 := by
    intro T
    induction T with
    | nil => intro f; rfl
    | cons t r ih => intro f; rw [List.foldl_cons, ih, lStep_256]
  unfold lF bump
  rw [if_pos rfl, h]
theorem TRow.drewN {w : World} {A : Option Addr} {n : Nat} {T : List Tok} (h : TRow w A n T) (q : Nat) : TRow (w.drewN q) A n T := ⟨h.len, h.max, h.top, h.wf⟩
theorem fr_cell {W : World} {g n : Nat} {f : Nat → Nat} (h : IRow W (some ⟨g, 0, none⟩) n .i64 (fR n f)) {i : Nat} (hi : i < n) : W.cell? ⟨g, i, none⟩ = some (.int .i64 (f i : Nat)) := by
  obtain ⟨b, o, e, _, hc⟩ := h.at_ hi
  injection e with e
  injection e with e1 e2 _
  subst e1 e2
  rwa [Nat.zero_add, fR_at f hi] at hc
/-- two rows of tokens, and the tables, while calls run -/
structure TwoE (w : World) (A : Option Addr) (n : Nat) (T : List Tok) (B : Option Addr) (m : Nat) (U : List Tok) (W : World) : Prop where
  bel : Below w.heap.size w W
  tab : Tabs W
  a : TRow W A n T
  b : TRow W B m U
theorem TwoE.go {w W W' : World} {A : Option Addr} {n : Nat} {T : List Tok} {B : Option Addr} {m : Nat} {U : List Tok} (h : TwoE w A n T B m U W) (hb : Below W.heap.size W W') : TwoE w A n T B m U W' := ⟨h.bel.trans (hb.mono h.bel.size), h.tab.below hb, h.a.below hb, h.b.below hb⟩
theorem TwoE.alloc {w W : World} {A : Option Addr} {n : Nat} {T : List Tok} {B : Option Addr} {m : Nat} {U : List Tok} (h : TwoE w A n T B m U W) (o : Obj) : TwoE w A n T B m U (W.alloc o) := h.go ((Below.refl _ _).alloc (Nat.le_refl _) o)
set_option maxHeartbeats 16000000 in
theorem counts_main (w : World) (ht : Tabs w) (A : Option Addr) (n ca : Nat) (T : List Tok) (hT : TRow w A n T) (B : Option Addr) (m cb : Nat) (U : List Tok) (hU : TRow w B m U) (hn : n ≤ 60) (hm : m ≤ 60) (okT : okF T = n) (okU : okF U = m) :
    Calls Tryz.prog 7 #[.slice A n ca, .slice B m cb] w fun e w' => e = .returned (.bool true) ∧ Below w.heap.size w w' := by
  obtain ⟨i3, hi3, hy0, hy1, hy2⟩ := info_parts info_tk3
  have hlT := hT.len
  have hlU := hU.len
  have okTU : okF (T ++ U) = n + m := by rw [okF_append (by omega) (by omega), List.length_append, hlT, hlU]
  have hwT : ∀ i, i < (T ++ U).length → TokWf (tg (T ++ U) i) := wf_append (by rw [hlT]; exact hT.wf) (by rw [hlU]; exact hU.wf)
  have E0 : Hid (TwoE w A n T B m U w) := ⟨Below.refl _ _, ht, hT, hU⟩
  have HLT := Lib.hid hlT
  have HLU := Lib.hid hlU
  have HTU := Lib.hid okTU
  have HWT := Lib.hid hwT
  have HT := Lib.hid okT
  have HU := Lib.hid okU
  have hTn : decide (okF T = n) = true := decide_eq_true okT
  have hUn : decide (okF U = m) = true := decide_eq_true okU
  have hn6 : decide ((60 : Int) < (n : Int)) = false := decide_eq_false (by omega)
  have hm6 : decide ((60 : Int) < (m : Int)) = false := decide_eq_false (by omega)
  have HR1 := Lib.hid (fun W (h : TRow W A n T) => RRight_c A n ca T W h (by omega))
  have HR2 := Lib.hid (fun W (h : TRow W B m U) => RRight_c B m cb U W h (by omega))
  rw [hTn] at HR1
  rw [hUn] at HR2
  clear ht hT hU hlT hlU okTU hwT okT okU hTn hUn
  go_enter Tryz.func7, Tryz.ntmps7
  go_wp2_with fail
  refine (alive14_c w E0.out.tab).mono ?_
  rintro e w1 ⟨rfl, hb⟩
  have E1 := Lib.hid (E0.out.go hb)
  clear hb E0
  go_wp2_with fail
  refine (HR1.out w1 E1.out.a).mono ?_
  rintro e w2 ⟨rfl, hb⟩
  have E2 := Lib.hid (E1.out.go hb)
  clear hb E1
  go_wp2_with fail
  refine (HR2.out w2 E2.out.b).mono ?_
  rintro e w3 ⟨rfl, hb⟩
  have E3 := Lib.hid (E2.out.go hb)
  clear hb E2 HR1 HR2
  go_wp2_with fail
  refine (Count_c A n ca T w3 E3.out.a (by omega) E3.out.tab).mono ?_
  rintro e w4 ⟨gx, gy, rfl, -, -, -, hox, hoy, hb⟩
  have E4 := Lib.hid (E3.out.go hb)
  have RX4 := Lib.hid (fR_row hox (fun s => by have := lF_le T s; unfold lF at this; have := HLT.out; omega) (by omega))
  have RY4 := Lib.hid (fR_row hoy (fun s => by have := dF_le T s; unfold dF at this; have := HLT.out; omega) (by omega))
  clear hb E3 hox hoy
  go_wp2_with fail
  refine (Count_c B m cb U w4 E4.out.b (by omega) E4.out.tab).mono ?_
  rintro e w5 ⟨gu, gv, rfl, -, -, -, hou, hov, hb⟩
  have E5 := Lib.hid (E4.out.go hb)
  have RX5 := Lib.hid (RX4.out.below hb)
  have RY5 := Lib.hid (RY4.out.below hb)
  have RU5 := Lib.hid (fR_row hou (fun s => by have := lF_le U s; unfold lF at this; have := HLU.out; omega) (by omega))
  have RV5 := Lib.hid (fR_row hov (fun s => by have := dF_le U s; unfold dF at this; have := HLU.out; omega) (by omega))
  clear hb E4 hou hov RX4 RY4
  have HO5 := Lib.hid (World.ownsRow_lit (base := w5.heap.size) (e := 53) (size := 3) w5 #[] 0 (Nat.le_refl _) (by unfold maxLen; omega) rfl)
  have hba := (Below.refl w5.heap.size w5).alloc (Nat.le_refl _) (.cells #[] 53)
  have E6 := Lib.hid (E5.out.go hba)
  have RX6 := Lib.hid (RX5.out.below hba)
  have RY6 := Lib.hid (RY5.out.below hba)
  have RU6 := Lib.hid (RU5.out.below hba)
  have RV6 := Lib.hid (RV5.out.below hba)
  have HB56 := Lib.hid hba
  clear hba
  have HO6 : Hid ((w5.alloc (.cells #[] 53)).ownsRow w5.heap.size 53 3 (.slice (some ⟨w5.heap.size, 0, none⟩) 0 0) 0 (tC [])) := HO5.out
  clear HO5
  go_wp2_with (first
    | (at_builtin; refine wpList_append_toks i3 hi3 hy0 hy1 hy2 rfl _ _ rfl w5.heap.size (.slice (some ⟨w5.heap.size, 0, none⟩) 0 0) 0 [] rfl HO6.out A n ca T rfl E6.out.a (by omega) (by simp) ?_; intro v7 w7 hL7; obtain ⟨A7, c7, rfl, hown7, hg7, hnw7⟩ := hL7; rw [Nat.zero_add, List.nil_append] at hown7; rw [Nat.zero_add] at hnw7 ⊢; have hb7 : Below w5.heap.size w5 w7 := HB56.out.grown hg7 (by simp) (fun g hg => (HO6.out.lt g hg).1); have HO7 := Lib.hid hown7; have HB7 := Lib.hid hb7; clear hown7 hg7 hnw7 hb7)
    | (at_builtin; refine wpList_append_toks i3 hi3 hy0 hy1 hy2 rfl _ _ rfl w5.heap.size (.slice A7 n c7) n T rfl HO7.out B m cb U rfl (E5.out.go HB7.out).b (by omega) HB7.out.size ?_; intro v8 w8 hL8; obtain ⟨A8, c8, rfl, hown8, hg8, hnw8⟩ := hL8))
  have hb8 : Below w5.heap.size w5 w8 := HB7.out.grown hg8 HB7.out.size (fun g hg => (HO7.out.lt g hg).1)
  have E8 := Lib.hid (E5.out.go hb8)
  have RX8 := Lib.hid (RX5.out.below hb8)
  have RY8 := Lib.hid (RY5.out.below hb8)
  have RU8 := Lib.hid (RU5.out.below hb8)
  have RV8 := Lib.hid (RV5.out.below hb8)
  have TR8 := Lib.hid (TRow.ofOwn hown8 (own_len3 hown8) (by unfold maxLen; omega) (by have := own_len3 hown8; rw [← this]; exact HWT.out))
  clear hg8 hnw8 hb8 hown8 RX6 RY6 RU6 RV6 RX5 RY5 RU5 RV5 E5 E6 HO6 HO7 HB7 HB56
  refine (Count_c A8 (n + m) c8 (T ++ U) w8 TR8.out (by omega) E8.out.tab).mono ?_
  rintro e w9 ⟨gp, gq, rfl, -, -, -, hop, hoq, hb⟩
  have E9 := Lib.hid (E8.out.go hb)
  have RX := Lib.hid (RX8.out.below hb)
  have RY := Lib.hid (RY8.out.below hb)
  have RU := Lib.hid (RU8.out.below hb)
  have RV := Lib.hid (RV8.out.below hb)
  have TR9 := Lib.hid (TR8.out.below hb)
  have RP : Hid (IRow w9 (some ⟨gp, 0, none⟩) 286 .i64 (fR 286 (lF (T ++ U)))) := fR_row hop (fun s => by have := lF_le (T ++ U) s; rw [List.length_append, HLT.out, HLU.out] at this; omega) (by omega)
  have RQ : Hid (IRow w9 (some ⟨gq, 0, none⟩) 30 .i64 (fR 30 (dF (T ++ U)))) := fR_row hoq (fun s => by have := dF_le (T ++ U) s; rw [List.length_append, HLT.out, HLU.out] at this; omega) (by omega)
  clear hb hop hoq RX8 RY8 RU8 RV8 TR8 E8
  go_wp2
  go_loopw [84] (fun i wr => ∃ k q : Nat, k ≤ 286 ∧ i = .int .i64 k ∧ Hid (wr = w9.drewN q)) (fun i _ => 286 - (intOf i).toNat)
  case atStart => exact ⟨0, 0, by omega, rfl, rfl⟩
  case round =>
    obtain ⟨k, q, hk, rfl, hw⟩ := hrel
    by_cases hlt : k < 286
    · have hkn : (k : Int) < 286 := by omega
      have cp := fr_cell (RP.out.drewN q) hlt
      have cx : (w9.drewN q).cell? ⟨gx, k, none⟩ = some (.int .i64 (lF T k : Nat)) := fr_cell (RX.out.drewN q) hlt
      have cu : (w9.drewN q).cell? ⟨gu, k, none⟩ = some (.int .i64 (lF U k : Nat)) := fr_cell (RU.out.drewN q) hlt
      rw [← hw.out] at cp cx cu
      by_cases h256 : k = 256
      · have e1 : ((k : Int) == 256) = true := by rw [beq_iff_eq]; omega
        have e2 : ((k : Int) != 256) = false := by rw [bne_eq_false_iff_eq]; omega
        rw [h256, lF_256, ← h256] at cp
        have e3 : (((1 : Nat) : Int) != 1) = false := rfl
        clear cx cu h256
        go_wp2
        go_quiet (fail)
        go_wp2
        go_roundw
        case rel => exact ⟨k + 1, _, by omega, by go_num, by unfold Hid; rw [hw.out, World.drewN_drewN]⟩
        case measure => simp [intOf]; omega
      · have e1 : ((k : Int) == 256) = false := by rw [beq_eq_false_iff_ne]; omega
        have e2 : ((k : Int) != 256) = true := by rw [bne_iff_ne]; omega
        have hs := lF_append T U k
        rw [if_neg h256, Nat.add_zero] at hs
        have b1 := lF_le T k
        have b2 := lF_le U k
        rw [HLT.out] at b1
        rw [HLU.out] at b2
        generalize lF (T ++ U) k = P at *
        generalize lF T k = X at *
        generalize lF U k = Y at *
        have e3 : IntKind.i64.wrap ((X : Int) + (Y : Int)) = (P : Int) := by rw [IntWalk.i64_in _ (by omega)]; omega
        have e4 : ((P : Int) != (P : Int)) = false := by simp
        have e5 : (X : Int) + (Y : Int) = (P : Int) := by omega
        clear hs h256
        go_wp2
        go_quiet (fail)
        go_wp2
        go_roundw
        case rel => exact ⟨k + 1, _, by omega, by go_num, by unfold Hid; rw [hw.out, World.drewN_drewN]⟩
        case measure => simp [intOf]; omega
    · have hkn : ¬ (k : Int) < 286 := by omega
      have RYq := Lib.hid (RY.out.drewN q)
      have RVq := Lib.hid (RV.out.drewN q)
      have RQq := Lib.hid (RQ.out.drewN q)
      have Eq := Lib.hid (E9.out.go (below_drewN (Below.refl _ w9) q))
      have TRq := Lib.hid (TR9.out.drewN q)
      rw [← hw.out] at RYq RVq RQq Eq TRq
      clear RX RY RU RV RP RQ E9 TR9 hw
      go_wp2
      generalize wr = W0 at *
      go_loopw [119] (fun i wr => ∃ k q : Nat, k ≤ 30 ∧ i = .int .i64 k ∧ Hid (wr = W0.drewN q)) (fun i _ => 30 - (intOf i).toNat)
      case atStart => exact ⟨0, 0, by omega, rfl, rfl⟩
      case round =>
        obtain ⟨j, q2, hj, rfl, hw2⟩ := hrel
        by_cases hlt2 : j < 30
        · have hjn : (j : Int) < 30 := by omega
          have cp := fr_cell (RQq.out.drewN q2) hlt2
          have cx : (W0.drewN q2).cell? ⟨gy, j, none⟩ = some (.int .i64 (dF T j : Nat)) := fr_cell (RYq.out.drewN q2) hlt2
          have cu : (W0.drewN q2).cell? ⟨gv, j, none⟩ = some (.int .i64 (dF U j : Nat)) := fr_cell (RVq.out.drewN q2) hlt2
          rw [← hw2.out] at cp cx cu
          have hs := dF_append T U j
          have b1 := dF_le T j
          have b2 := dF_le U j
          rw [HLT.out] at b1
          rw [HLU.out] at b2
          generalize dF (T ++ U) j = P at *
          generalize dF T j = X at *
          generalize dF U j = Y at *
          have e3 : IntKind.i64.wrap ((X : Int) + (Y : Int)) = (P : Int) := by rw [IntWalk.i64_in _ (by omega)]; omega
          have e4 : ((P : Int) != (P : Int)) = false := by simp
          have e5 : (X : Int) + (Y : Int) = (P : Int) := by omega
          clear hs
          go_wp2
          go_quiet (fail)
          go_wp2
          go_roundw
          case rel => exact ⟨j + 1, _, by omega, by go_num, by unfold Hid; rw [hw2.out, World.drewN_drewN]⟩
          case measure => simp [intOf]; omega
        · have hjn : ¬ (j : Int) < 30 := by omega
          have E1 := Lib.hid (Eq.out.go (below_drewN (Below.refl _ W0) q2))
          have TR1 := Lib.hid (TRq.out.drewN q2)
          rw [← hw2.out] at E1 TR1
          have hf := fixB_append T U false false false
          have F1 := Lib.hid (fun W ht h => FixedBits_c W ht A8 (n + m) c8 (T ++ U) h (by omega) HTU.out)
          have F2 := Lib.hid (fun W ht h => FixedBits_c W ht A n ca T h (by omega) HT.out)
          have F3 := Lib.hid (fun W ht h => FixedBits_c W ht B m cb U h (by omega) HU.out)
          have l1 := fixB_le T false
          have l2 := fixB_le U false
          rw [HLT.out] at l1
          rw [HLU.out] at l2
          generalize (fixB (T ++ U) false).length = P at *
          generalize (fixB T false).length = X at *
          generalize (fixB U false).length = Y at *
          have HF := Lib.hid hf
          clear hf Eq TRq RYq RVq RQq hw2
          go_wp2_with fail
          refine (F1.out _ E1.out.tab TR1.out).mono ?_
          rintro e v1 ⟨rfl, hb⟩
          have E2 := Lib.hid (E1.out.go hb)
          clear hb
          go_wp2_with fail
          refine (F2.out _ E2.out.tab E2.out.a).mono ?_
          rintro e v2 ⟨rfl, hb⟩
          have E3 := Lib.hid (E2.out.go hb)
          clear hb
          go_wp2_with fail
          refine (F3.out _ E3.out.tab E3.out.b).mono ?_
          rintro e v3 ⟨rfl, hb⟩
          have E4 := Lib.hid (E3.out.go hb)
          clear hb
          have hpb : ((P : Int) == (X : Int) + (Y : Int) - 10) = true := by rw [beq_iff_eq]; have := HF.out; omega
          go_wp2
          go_ret
          exact ⟨rfl, E4.out.bel⟩
set_option maxHeartbeats 8000000 in
theorem walk_BlockCounts (w : World) (ht : Tabs w) (A : Option Addr) (n ca : Nat) (T : List Tok) (hT : TRow w A n T) (hna : n ≤ ca) (hca : ca ≤ 9223372036854775807) (B : Option Addr) (m cb : Nat) (U : List Tok) (hU : TRow w B m U) (hmb : m ≤ cb) (hcb : cb ≤ 9223372036854775807) :
    Calls Tryz.prog 7 #[.slice A n ca, .slice B m cb] w fun e w' => e = .returned (.bool true) ∧ Below w.heap.size w w' := by
  by_cases hn : n ≤ 60
  · by_cases hm : m ≤ 60
    · by_cases okT : okF T = n
      · by_cases okU : okF U = m
        · exact counts_main w ht A n ca T hT B m cb U hU hn hm okT okU
        · have HR1 := Lib.hid (fun W (h : TRow W A n T) => RRight_c A n ca T W h (by omega))
          have HR2 := Lib.hid (fun W (h : TRow W B m U) => RRight_c B m cb U W h (by omega))
          rw [decide_eq_true okT] at HR1
          rw [decide_eq_false okU] at HR2
          have hn6 : decide ((60 : Int) < (n : Int)) = false := decide_eq_false (by omega)
          have hm6 : decide ((60 : Int) < (m : Int)) = false := decide_eq_false (by omega)
          have E0 : Hid (TwoE w A n T B m U w) := ⟨Below.refl _ _, ht, hT, hU⟩
          clear ht hT hU okT okU
          go_enter Tryz.func7, Tryz.ntmps7
          go_wp2_with fail
          refine (alive14_c w E0.out.tab).mono ?_
          rintro e w1 ⟨rfl, hb⟩
          have E1 := Lib.hid (E0.out.go hb)
          clear hb E0
          go_wp2_with fail
          refine (HR1.out w1 E1.out.a).mono ?_
          rintro e w2 ⟨rfl, hb⟩
          have E2 := Lib.hid (E1.out.go hb)
          clear hb E1
          go_wp2_with fail
          refine (HR2.out w2 E2.out.b).mono ?_
          rintro e w3 ⟨rfl, hb⟩
          have E3 := Lib.hid (E2.out.go hb)
          clear hb E2 HR1 HR2
          go_wp2
          go_ret
          exact ⟨rfl, E3.out.bel⟩
      · have HR1 := Lib.hid (fun W (h : TRow W A n T) => RRight_c A n ca T W h (by omega))
        rw [decide_eq_false okT] at HR1
        have hn6 : decide ((60 : Int) < (n : Int)) = false := decide_eq_false (by omega)
        have hm6 : decide ((60 : Int) < (m : Int)) = false := decide_eq_false (by omega)
        have E0 : Hid (TwoE w A n T B m U w) := ⟨Below.refl _ _, ht, hT, hU⟩
        clear ht hT hU okT
        go_enter Tryz.func7, Tryz.ntmps7
        go_wp2_with fail
        refine (alive14_c w E0.out.tab).mono ?_
        rintro e w1 ⟨rfl, hb⟩
        have E1 := Lib.hid (E0.out.go hb)
        clear hb E0
        go_wp2_with fail
        refine (HR1.out w1 E1.out.a).mono ?_
        rintro e w2 ⟨rfl, hb⟩
        have E2 := Lib.hid (E1.out.go hb)
        clear hb E1 HR1
        go_wp2
        go_ret
        exact ⟨rfl, E2.out.bel⟩
    · have hn6 : decide ((60 : Int) < (n : Int)) = false := decide_eq_false (by omega)
      have hm6 : decide ((60 : Int) < (m : Int)) = true := decide_eq_true (by omega)
      have HT := Lib.hid ht
      clear ht hT hU
      go_enter Tryz.func7, Tryz.ntmps7
      go_wp2_with fail
      refine (alive14_c w HT.out).mono ?_
      rintro e w1 ⟨rfl, hb⟩
      go_wp2
      go_ret
      exact ⟨rfl, hb⟩
  · have hn6 : decide ((60 : Int) < (n : Int)) = true := decide_eq_true (by omega)
    have HT := Lib.hid ht
    clear ht hT hU
    go_enter Tryz.func7, Tryz.ntmps7
    go_wp2_with fail
    refine (alive14_c w HT.out).mono ?_
    rintro e w1 ⟨rfl, hb⟩
    go_wp2
    go_ret
    exact ⟨rfl, hb⟩
end Go.Proofs.YthnbflkoipnakaaGreatDoor
