/-
  LAW 03's WALK: LinearRanks: it returns true, and writes nothing that was there. No conditions.
-/
import Derived.Test.YteeinbijblcgcaaLaw03e
import Derived.Test.YteeinbijblcgcaaLaw03f
namespace Go.Proofs.Yteeinbijblcgcaa
open Go.RowKit
set_option linter.unusedVariables false

set_option maxHeartbeats 1000000 in
theorem ranks_less {w : World} {A : Option Addr} {n cap : Nat} {RA : Nat → Option Addr} {RL RC : Nat → Nat} {R : Nat → List F} (h : MIn w A n cap RA RL RC R) (at1 at2 : Int) (hc : ¬ (isS n RL ∧ isR n RL ∧ n ≠ 0)) :
    Calls Try.prog 7 #[.slice A n cap, .int .i64 at1, .int .i64 at2] w fun e w' => e = .returned (.bool true) ∧ Below w.heap.size w w' := by
  have hnm := h.nmax
  by_cases hs : isS n RL
  · have HS := Lib.hid (decide_eq_true hs)
    by_cases hr : isR n RL
    · have HR := Lib.hid (decide_eq_true hr)
      have hn : n = 0 := Decidable.byContradiction fun e => hc ⟨hs, hr, e⟩
      subst hn
      clear hc hs hr
      go_enter Try.func7, Try.ntmps7
      go_wp2_with (first
        | (go_at_call 13; refine (alive03_c _).mono ?_; rintro e w1 ⟨rfl, hb1⟩; have h1 := h.below hb1)
        | (go_at_call 14; refine (small_at true h1 HS.out).mono ?_; rintro e w' ⟨rfl, rfl⟩)
        | (go_at_call 18; refine (right_at true h1 HR.out).mono ?_; rintro e w' ⟨rfl, q, rfl⟩))
      go_ret
      exact ⟨rfl, below_drewN hb1 q⟩
    · have HR := Lib.hid (decide_eq_false hr)
      clear hc hs hr
      go_enter Try.func7, Try.ntmps7
      go_wp2_with (first
        | (go_at_call 13; refine (alive03_c _).mono ?_; rintro e w1 ⟨rfl, hb1⟩; have h1 := h.below hb1)
        | (go_at_call 14; refine (small_at true h1 HS.out).mono ?_; rintro e w' ⟨rfl, rfl⟩)
        | (go_at_call 18; refine (right_at false h1 HR.out).mono ?_; rintro e w' ⟨rfl, q, rfl⟩))
      go_ret
      exact ⟨rfl, below_drewN hb1 q⟩
  · have HS := Lib.hid (decide_eq_false hs)
    clear hc hs
    go_enter Try.func7, Try.ntmps7
    go_wp2_with (first
      | (go_at_call 13; refine (alive03_c _).mono ?_; rintro e w1 ⟨rfl, hb1⟩; have h1 := h.below hb1)
      | (go_at_call 14; refine (small_at false h1 HS.out).mono ?_; rintro e w' ⟨rfl, rfl⟩))
    go_ret
    exact ⟨rfl, hb1⟩
/-- the columns that are reduced: all -/
theorem cols20 {L : Nat} (h : L ≤ 20) : (min (20 : Int) (L : Int)).toNat = L := by omega
set_option maxHeartbeats 8000000 in
set_option maxRecDepth 100000 in
theorem ranks_main {w : World} {A : Option Addr} {n cap : Nat} {RA : Nat → Option Addr} {RL RC : Nat → Nat} {R : Nat → List F} (h : MIn w A n cap RA RL RC R) (at1 at2 : Int) (hs : isS n RL) (hr : isR n RL) (hn : n ≠ 0) :
    Calls Try.prog 7 #[.slice A n cap, .int .i64 at1, .int .i64 at2] w fun e w' => e = .returned (.bool true) ∧ Below w.heap.size w w' := by
  obtain ⟨i0, hi, hz0, hz1, hz2⟩ := info_parts info_u8
  obtain ⟨i1, hi1, hy0, hy1, hy2⟩ := info_parts info_bytes
  obtain ⟨z1, hz31, hzb1⟩ := and31' at1
  obtain ⟨z2, hz32, hzb2⟩ := and31' at2
  have hn20 := hs.1
  obtain ⟨ia, hia⟩ : ∃ ia, ia = z1 % n := ⟨_, rfl⟩
  obtain ⟨ib, hib⟩ : ∃ ib, ib = z2 % n := ⟨_, rfl⟩
  have hial : ia < n := by rw [hia]; exact Nat.mod_lt _ (by omega)
  have hibl : ib < n := by rw [hib]; exact Nat.mod_lt _ (by omega)
  have hmi1 : (z1 : Int) % (n : Int) = (ia : Int) := by rw [hia]; rfl
  have hmi2 : (z2 : Int) % (n : Int) = (ib : Int) := by rw [hib]; rfl
  have hmt1 : (z1 : Int).tmod (n : Int) = (ia : Int) := by rw [hia]; rfl
  have hmt2 : (z2 : Int).tmod (n : Int) = (ib : Int) := by rw [hib]; rfl
  have hmn1 : z1 % n = ia := hia.symm
  have hmn2 : z2 % n = ib := hib.symm
  have hwa : IntKind.i64.wrap (ia : Int) = (ia : Int) := IntWalk.i64_in _ (by omega)
  have hwb : IntKind.i64.wrap (ib : Int) = (ib : Int) := IntWalk.i64_in _ (by omega)
  have HS := Lib.hid (decide_eq_true hs)
  have HR := Lib.hid (decide_eq_true hr)
  have HR2 := Lib.hid hr
  obtain ⟨L, hL0⟩ : ∃ L, RL 0 = L := ⟨_, rfl⟩
  have hL20 : L ≤ 20 := by rw [← hL0]; exact hs.2 0 (by omega)
  have hall := hr.all
  have hwm : wid n RL = L := by unfold wid; rw [if_neg hn, hL0]
  have HW := Lib.hid hwm
  rw [hwm] at hall
  have HL := Lib.hid hall
  have hrk : rankIn n RL R ≤ n ∧ rankIn n RL R ≤ L := by
    unfold rankIn
    rw [if_pos hr, hwm]
    exact ⟨rank_rows _ _ _, rank_cols _ _ _⟩
  have htl := rank_tail (R := R) hr (by omega)
  have hsum := rank_sum (R := R) hr hn hL0 hial hibl
  obtain ⟨rl, hrl⟩ : ∃ rl, rankIn (n - 1) (fun r => RL (r + 1)) (fun r => R (r + 1)) = rl := ⟨_, rfl⟩
  rw [hrl] at htl
  generalize hrkk : rankIn n RL R = rk at *
  have HRK := Lib.hid hrkk
  have HRL := Lib.hid hrl
  have HRS := Lib.hid hsum
  have HTR := Lib.hid htl.1
  obtain ⟨hrk1, hrk2⟩ := hrk
  obtain ⟨_, htl1, htl2⟩ := htl
  have e0 : ((n : Int) == 0) = false := by rw [beq_eq_false_iff_ne]; omega
  have hn0 : (0 : Int) < n := by omega
  have f0 : decide ((rk : Int) < 0) = false := by simp
  have f1 : decide ((n : Int) < rk) = false := by simp; omega
  have f2 : decide ((L : Int) < rk) = false := by simp; omega
  have f3 : decide (n < rk) = false := by simp; omega
  have f4 : decide (L < rk) = false := by simp; omega
  obtain ⟨b', o', rfl, lb, q0⟩ := h.at_ (r := 0) (by omega)
  rw [Nat.add_zero, hL0] at q0
  clear hs hr hall hwm hrl hsum hrkk hia hib hmn1 hmn2
  go_enter Try.func7, Try.ntmps7
  go_wp2_with (first
    | (go_at_call 13; refine (alive03_c _).mono ?_; rintro e w1 ⟨rfl, hb1⟩; have h1 := h.below hb1)
    | (go_at_call 14; refine (small_at true h1 HS.out).mono ?_; rintro e w' ⟨rfl, rfl⟩)
    | (go_at_call 18; refine (right_at true h1 HR.out).mono ?_; rintro e w' ⟨rfl, q, rfl⟩))
  refine (rank_at rk (h1.drewN q) (by omega) (by rw [HW.out]; omega) HRK.out).mono ?_
  rintro e w2 ⟨rfl, hb2⟩
  have h2 := (h1.drewN q).below hb2
  have hB2 := (below_drewN hb1 q).trans (hb2.mono (below_drewN hb1 q).size)
  have q2 := (hb2.cell (p := ⟨b', o', none⟩) (show b' < (w1.drewN q).heap.size from Nat.lt_of_lt_of_le lb hb1.size)).trans ((hb1.cell (p := ⟨b', o', none⟩) lb).trans q0)
  clear h h1 hb1 hb2 q0 lb
  go_wp2_with fail
  obtain ⟨XA, hXA⟩ : ∃ XA, XA = RA ia := ⟨_, rfl⟩
  obtain ⟨XB, hXB⟩ : ∃ XB, XB = RA ib := ⟨_, rfl⟩
  have qa : w2.cell? ⟨b', o' + ia, none⟩ = some (.slice XA L (RC ia)) := by
    rw [hXA]
    obtain ⟨b3, o3, e3, _, q3⟩ := h2.at_ hial
    injection e3 with e3
    injection e3 with e3 e4
    subst e3 e4
    rw [HL.out ia hial] at q3
    exact q3
  have qb : w2.cell? ⟨b', o' + ib, none⟩ = some (.slice XB L (RC ib)) := by
    rw [hXB]
    obtain ⟨b3, o3, e3, _, q3⟩ := h2.at_ hibl
    injection e3 with e3
    injection e3 with e3 e4
    subst e3 e4
    rw [HL.out ib hibl] at q3
    exact q3
  have ha2 : Row w2 XA L (R ia) := by
    rw [hXA]
    have := (h2.row ia hial).row
    rwa [HL.out ia hial] at this
  have hb2 : Row w2 XB L (R ib) := by
    rw [hXB]
    have := (h2.row ib hibl).row
    rwa [HL.out ib hibl] at this
  clear hXA hXB
  have g1 : decide ((n : Int) ≤ (ia : Int)) = false := by simp; omega
  have g2 : decide ((n : Int) ≤ (ib : Int)) = false := by simp; omega
  have g3 : decide (n ≤ ia) = false := by simp; omega
  have g4 : decide (n ≤ ib) = false := by simp; omega
  have g5 : (ia : Int) < n := by omega
  have g6 : (ib : Int) < n := by omega
  go_region_held3 (fun w' => w'.cell? ⟨b', o' + ia, none⟩ = some (.slice XA L (RC ia)) ∧ w'.cell? ⟨b', o' + ib, none⟩ = some (.slice XB L (RC ib))) (go_keep) (fail)
  have h3 : MIn w2.drew (some ⟨b', o', none⟩) n cap RA RL RC R := h2.drewN 1
  have ha3 : Row w2.drew XA L (R ia) := ha2.drewN 1
  have hb3 : Row w2.drew XB L (R ib) := hb2.drewN 1
  have hB3 : Below w.heap.size w w2.drew := below_drewN hB2 1
  clear hmi1 hmi2 hmt1 hmt2 hwa hwb hzb1 hzb2 g5 g6
  clear f0 f1 f2 f3 f4
  clear qa qb g1 g2 g3 g4 q2 h2 ha2 hb2 hB2
  generalize w2.drew = w3 at *
  go_wp2
  go_loopw [10, 69] (fun vs i wr => ∃ (p : Nat) (S : Option Addr) (cS : Nat), p ≤ L ∧ i = .int .i64 p ∧ vs = .slice S p cS ∧ wr.ownsRow w3.heap.size 5 1 (.slice S p cS) p (cs (sumL (R ia) (R ib) p)) ∧ Below w3.heap.size w3 wr) (fun _ i _ => L - (intOf i).toNat)
  case atStart => exact ⟨0, _, 0, by omega, rfl, rfl, World.ownsRow_made (e := 5) (size := 1) w3 #[] 0 (Nat.le_refl _) (Nat.zero_le _) rfl, (Below.refl _ _).alloc (Nat.le_refl _) _⟩
  case round =>
    obtain ⟨p, S, cS, hp, rfl, rfl, hown, hbel⟩ := hrel
    by_cases hlt : p < L
    · obtain ⟨b1, o1, rfl, l1, q1⟩ := ha3.at_ hlt
      obtain ⟨b2, o2, rfl, l2, q2⟩ := hb3.at_ hlt
      replace q1 := (hbel.cell (p := ⟨b1, o1 + p, none⟩) l1).trans q1
      replace q2 := (hbel.cell (p := ⟨b2, o2 + p, none⟩) l2).trans q2
      have hpm : (p : Int) < L := by omega
      have hx3 := bits_xor (gt (R ia) p) (gt (R ib) p)
      have hsl : Hid (cs (sumL (R ia) (R ib) (p + 1)) = cs (sumL (R ia) (R ib) p) ++ [Value.int .u8 ((gt (R ia) p + gt (R ib) p).n : Int)]) := by
        show cs (mkF (fun i => gt (R ia) i + gt (R ib) i) p ++ [gt (R ia) p + gt (R ib) p]) = _
        rw [cs_append]
        rfl
      generalize gt (R ia) p = va at *
      generalize gt (R ib) p = vb at *
      have ag1 : some b1 ≠ (Value.slice S p cS).ownBlock := fun e => by have := (hown.lt b1 e.symm).1; omega
      have ag2 : some b2 ≠ (Value.slice S p cS).ownBlock := fun e => by have := (hown.lt b2 e.symm).1; omega
      have lW := hbel.size
      go_wp2
      go_region_held3 (fun w' => w'.cell? ⟨b1, o1 + p, none⟩ = some (.int .u8 va.n) ∧ w'.cell? ⟨b2, o2 + p, none⟩ = some (.int .u8 vb.n))
        (first
          | go_keep
          | (go_split_ands
             refine ⟨?_, ?_⟩
             · (rw [hgrow.cell_far _ (by simp; omega) ag1]; assumption)
             · (rw [hgrow.cell_far _ (by simp; omega) ag2]; assumption)))
        ((refine step_append_lies _ (by rfl) _ _ _ (by rfl) w3.heap.size 5 i0 _ 1 1 Try.underlying23 hi hz0 hz1 hz2 rfl (by omega) (.slice S p cS) p (cs (sumL (R ia) (R ib) p)) (by rfl) ((hown.alloc _).drew)
            ⟨wr.heap.size, 0, none⟩ 1 1 [.int .u8 (va + vb).n] (by rfl) (by rfl) (World.news_of_block (cs := #[.int .u8 (va + vb).n]) (t := 5) (fr := (0, 0)) (heap_alloc_new wr _)) (by simp [Value.oneCell'])
            (by omega) (by unfold maxLen; omega) (by omega) (by simp; omega) (wr.heap.size + 1) (by simp) ?_; intro gg capS w4 hown4 hgrow hat hlt4))
      have hb4 : Below w3.heap.size w3 w4 := ((hbel.alloc hbel.size _).drew).grown hgrow (by simp; omega) (fun g hg => (hown.lt g hg).1)
      rw [← hsl.out] at hown4
      go_wp2
      go_roundw
      case rel => exact ⟨p + 1, _, capS, by omega, by go_num, rfl, hown4, hb4⟩
      case measure => simp [intOf]; omega
    · obtain rfl : p = L := by omega
      have hS4 := own_in hown
      have h4 := h3.below hbel
      have hB4 := hB3.trans (hbel.mono hB3.size)
      clear hown hbel ha3 hb3 h3 hB3
      have ht4 := h4.tail (by omega)
      have hwt : wid (n - 1) (fun r => RL (r + 1)) ≤ 1073741824 := by
        unfold wid
        split
        · omega
        · have := HL.out (0 + 1) (by omega)
          show RL (0 + 1) ≤ _
          omega
      have HWT := Lib.hid hwt
      clear hwt
      have HWP : Hid (wid n (fun _ => p) = p) := by
        unfold Hid wid
        rw [if_neg hn]
      have HWS : Hid (wid (n + 1) (fun r => if r = n then p else RL r) ≤ 1073741824) := by
        unfold Hid wid
        rw [if_neg (by omega)]
        show (if 0 = n then p else RL 0) ≤ _
        split <;> omega
      have HTW := Lib.hid (red_twice (n := n) (M := mat R) (L := p))
      have fl1 : (rl : Int) ≤ rk := by omega
      have fl2 : (rk : Int) ≤ (rl : Int) + 1 := by omega
      have fl3 : decide ((rl : Int) ≤ rk) = true := by simp; omega
      have fl4 : decide ((rk : Int) ≤ (rl : Int) + 1) = true := by simp; omega
      have fl5 : rl ≤ 20 := by omega
      have hn1 : n - 1 ≤ 1073741824 := by omega
      have HTL := Lib.hid (rank_at rl ht4 hn1 HWT.out HRL.out)
      have HTL2 : Hid (cap = 1 → Calls Try.prog 21 #[.slice (some ⟨b', o', none⟩) (n - 1) 0] wr fun e w' => e = .returned (.int .i64 rl) ∧ Below wr.heap.size wr w') := fun hc1 => by
        have hle4 := h4.le
        have e1 : n - 1 = 0 := by omega
        have h40 : MIn wr (some ⟨b', o', none⟩) (n - 1) 0 (fun r => RA (r + 1)) (fun r => RL (r + 1)) (fun r => RC (r + 1)) (fun r => R (r + 1)) := by
          rw [e1]
          exact MIn.none_ _ _ _ (Nat.zero_le _) _ _ _ _
        exact rank_at rl h40 hn1 HWT.out HRL.out
      clear ht4 hn1 HWT
      have fkk : ((rk : Int) == (rk : Int)) = true := by simp
      go_wp2_with fail
      · refine (HTL2.out (by assumption)).mono ?_
        clear HTL HTL2
        obtain rfl : cap = 1 := by assumption
        rintro e w5 ⟨rfl, hb5⟩
        have h5 := h4.below hb5
        have hS5 := hS4.below hb5
        have hB5 := hB4.trans (hb5.mono hB4.size)
        clear h4 hS4 hB4 hb5
        go_wp2_with fail
        refine (Reduce_yes h5 HR2.out 20 (by omega) (by rw [HW.out]; omega)).mono ?_
        rintro e w6 ⟨g6, hi6, P6, r6, pc6, rfl, ⟨K6, G6, hr6, hown6, hM6⟩, hb6⟩
        rw [HW.out, cols20 hL20] at hr6 hown6 hM6
        have hin6 := hM6.toIn (Nat.le_refl n) (by unfold maxLen; omega)
        have hr6n : r6 ≤ n := by rw [hr6.out]; exact (redTo_rref _ _ _).len
        have hv6 := VRow.ofOwn hown6 (by unfold maxLen; omega)
        have h6 := h5.below hb6
        have hS6 := hS5.below hb6
        have hB6 := hB5.trans (hb6.mono hB5.size)
        clear h5 hS5 hB5 hb6 hown6 hM6
        go_wp2_with fail
        refine (Reduce_yes hin6 (fun _ _ => rfl) 20 (by omega) (by rw [HWP.out]; omega)).mono ?_
        rintro e w7 ⟨g7, hi7, P7, r7, pc7, rfl, ⟨K7, G7, hr7, hown7, hM7⟩, hb7⟩
        rw [HWP.out, cols20 hL20] at hr7 hown7 hM7
        rw [HTW.out.1] at hr7 hown7
        obtain rfl : r7 = r6 := hr7.out.trans hr6.out.symm
        have hin7 := hM7.toIn (Nat.le_refl n) (by unfold maxLen; omega)
        have hv7 := VRow.ofOwn hown7 (by unfold maxLen; omega)
        have h7 := h6.below hb7
        have hS7 := hS6.below hb7
        have hin67 := hin6.below hb7
        have hv67 := hv6.below hb7
        have hB7 := hB6.trans (hb7.mono hB6.size)
        clear h6 hS6 hB6 hb7 hown7 hM7 hin6 hv6 hr7
        have h7a := Lib.hid (MIn.cells (h7.below ((Below.refl _ _).alloc (Nat.le_refl _) (.cells #[] 23))))
        have hmade := World.ownsRow_made (e := 23) (size := 1) w7 #[] 0 (Nat.le_refl _) (Nat.zero_le _) rfl
        have HMADE := Lib.hid hmade
        clear hmade
        go_wp2_with (first
          | (at_builtin; refine wpList_append_own _ rfl (.tmp 98) (.tmp 99) 22 rfl w7.heap.size 23 i1 (.slice none 0 0) 1 24 Try.underlying22 hi1 hy0 hy1 hy2 rfl (by decide) _ _ _ rfl HMADE.out ⟨b', o', none⟩ n 1 (topL RA RL RC n) rfl (by rw [topL_length, Nat.mul_one]) h7a.out topL_one (by unfold maxLen; omega) (by omega) (by simp) ?_; intro v8 w8 hown8 hg8 hnil8; have hb8 := ((Below.refl _ _).alloc (Nat.le_refl _) (.cells #[] 23)).grown hg8 (by simp) (fun g hg => (HMADE.out.lt g hg).1); have hs8 := hb8.size; rw [Nat.zero_add, List.nil_append] at hown8)
          | (at_builtin; refine wpList_append_lies _ rfl (.tmp 100) (.tmp 102) 22 rfl w7.heap.size 23 i1 (.slice none 0 0) 1 24 Try.underlying22 hi1 hy0 hy1 hy2 rfl (by decide) v8 n (topL RA RL RC n) rfl (hown8.alloc _) ⟨w8.heap.size, 0, none⟩ 1 1 [.slice S p cS] rfl rfl (one_cell w8 _ _) (by intro u hu; simp at hu; subst hu; rfl) (by omega) (by unfold maxLen; omega) (by omega) (by simp; omega) (w8.heap.size + 1) (by simp) ?_; intro g9 c9 w9 hown9 hg9 hat9 hlt9))
        have hb9 := (hb8.alloc hb8.size _).grown hg9 (by simp; omega) (fun g hg => (hown8.lt g hg).1)
        rw [← topL_more] at hown9
        have h9 := MIn.ofOwn (R := moreR n R (sumL (R ia) (R ib) p)) hown9 (fun r hr => by
          unfold moreR
          by_cases e : r = n
          · simp only [if_pos e]
            exact hS7.below hb9
          · simp only [if_neg e]
            exact (h7.row r (by omega)).below hb9)
        have hin79 := hin7.below hb9
        have hin69 := hin67.below hb9
        have hv79 := hv7.below hb9
        have hv69 := hv67.below hb9
        have hB9 := hB7.trans (hb9.mono hB7.size)
        clear hown8 hg8 hnil8 hown9 hg9 hat9 hlt9 hin7 hin67 hv7 hv67 hB7 h7 hS7 hb8 hb9 hs8 h7a HMADE
        refine (rank_at rk h9 (by omega) HWS.out HRS.out).mono ?_
        rintro e w10 ⟨rfl, hb10⟩
        have hin7 := hin79.below hb10
        have hin6 := hin69.below hb10
        have hv7 := hv79.below hb10
        have hv6 := hv69.below hb10
        have hB10 := hB9.trans (hb10.mono hB9.size)
        clear hin79 hin69 hv79 hv69 hB9 hb10 h9
        go_wp2_with fail
        refine (RefSame_c hin7 hin6 HTW.out.2).mono ?_
        rintro e _ ⟨rfl, q11, rfl⟩
        have hv7' := hv7.drewN q11
        have hv6' := hv6.drewN q11
        have hB11 := below_drewN hB10 q11
        clear hin7 hin6 hv7 hv6 hB10
        generalize w10.drewN q11 = w11 at *
        go_wp2_with fail
        refine (SameInts_c _ _ _ _ _ _ w11 hv7' hv6' hr6.out).mono ?_
        rintro e _ ⟨rfl, q12, rfl⟩
        go_wp2
        go_ret
        exact ⟨rfl, below_drewN hB11 q12⟩
      · clear HTL2
        refine HTL.out.mono ?_
        clear HTL
        rintro e w5 ⟨rfl, hb5⟩
        have h5 := h4.below hb5
        have hS5 := hS4.below hb5
        have hB5 := hB4.trans (hb5.mono hB4.size)
        clear h4 hS4 hB4 hb5
        go_wp2_with fail
        refine (Reduce_yes h5 HR2.out 20 (by omega) (by rw [HW.out]; omega)).mono ?_
        rintro e w6 ⟨g6, hi6, P6, r6, pc6, rfl, ⟨K6, G6, hr6, hown6, hM6⟩, hb6⟩
        rw [HW.out, cols20 hL20] at hr6 hown6 hM6
        have hin6 := hM6.toIn (Nat.le_refl n) (by unfold maxLen; omega)
        have hr6n : r6 ≤ n := by rw [hr6.out]; exact (redTo_rref _ _ _).len
        have hv6 := VRow.ofOwn hown6 (by unfold maxLen; omega)
        have h6 := h5.below hb6
        have hS6 := hS5.below hb6
        have hB6 := hB5.trans (hb6.mono hB5.size)
        clear h5 hS5 hB5 hb6 hown6 hM6
        go_wp2_with fail
        refine (Reduce_yes hin6 (fun _ _ => rfl) 20 (by omega) (by rw [HWP.out]; omega)).mono ?_
        rintro e w7 ⟨g7, hi7, P7, r7, pc7, rfl, ⟨K7, G7, hr7, hown7, hM7⟩, hb7⟩
        rw [HWP.out, cols20 hL20] at hr7 hown7 hM7
        rw [HTW.out.1] at hr7 hown7
        obtain rfl : r7 = r6 := hr7.out.trans hr6.out.symm
        have hin7 := hM7.toIn (Nat.le_refl n) (by unfold maxLen; omega)
        have hv7 := VRow.ofOwn hown7 (by unfold maxLen; omega)
        have h7 := h6.below hb7
        have hS7 := hS6.below hb7
        have hin67 := hin6.below hb7
        have hv67 := hv6.below hb7
        have hB7 := hB6.trans (hb7.mono hB6.size)
        clear h6 hS6 hB6 hb7 hown7 hM7 hin6 hv6 hr7
        have h7a := Lib.hid (MIn.cells (h7.below ((Below.refl _ _).alloc (Nat.le_refl _) (.cells #[] 23))))
        have hmade := World.ownsRow_made (e := 23) (size := 1) w7 #[] 0 (Nat.le_refl _) (Nat.zero_le _) rfl
        have HMADE := Lib.hid hmade
        clear hmade
        go_wp2_with (first
          | (at_builtin; refine wpList_append_own _ rfl (.tmp 98) (.tmp 99) 22 rfl w7.heap.size 23 i1 (.slice none 0 0) 1 24 Try.underlying22 hi1 hy0 hy1 hy2 rfl (by decide) _ _ _ rfl HMADE.out ⟨b', o', none⟩ n cap (topL RA RL RC n) rfl (by rw [topL_length, Nat.mul_one]) h7a.out topL_one (by unfold maxLen; omega) (by omega) (by simp) ?_; intro v8 w8 hown8 hg8 hnil8; have hb8 := ((Below.refl _ _).alloc (Nat.le_refl _) (.cells #[] 23)).grown hg8 (by simp) (fun g hg => (HMADE.out.lt g hg).1); have hs8 := hb8.size; rw [Nat.zero_add, List.nil_append] at hown8)
          | (at_builtin; refine wpList_append_lies _ rfl (.tmp 100) (.tmp 102) 22 rfl w7.heap.size 23 i1 (.slice none 0 0) 1 24 Try.underlying22 hi1 hy0 hy1 hy2 rfl (by decide) v8 n (topL RA RL RC n) rfl (hown8.alloc _) ⟨w8.heap.size, 0, none⟩ 1 1 [.slice S p cS] rfl rfl (one_cell w8 _ _) (by intro u hu; simp at hu; subst hu; rfl) (by omega) (by unfold maxLen; omega) (by omega) (by simp; omega) (w8.heap.size + 1) (by simp) ?_; intro g9 c9 w9 hown9 hg9 hat9 hlt9))
        have hb9 := (hb8.alloc hb8.size _).grown hg9 (by simp; omega) (fun g hg => (hown8.lt g hg).1)
        rw [← topL_more] at hown9
        have h9 := MIn.ofOwn (R := moreR n R (sumL (R ia) (R ib) p)) hown9 (fun r hr => by
          unfold moreR
          by_cases e : r = n
          · simp only [if_pos e]
            exact hS7.below hb9
          · simp only [if_neg e]
            exact (h7.row r (by omega)).below hb9)
        have hin79 := hin7.below hb9
        have hin69 := hin67.below hb9
        have hv79 := hv7.below hb9
        have hv69 := hv67.below hb9
        have hB9 := hB7.trans (hb9.mono hB7.size)
        clear hown8 hg8 hnil8 hown9 hg9 hat9 hlt9 hin7 hin67 hv7 hv67 hB7 h7 hS7 hb8 hb9 hs8 h7a HMADE
        refine (rank_at rk h9 (by omega) HWS.out HRS.out).mono ?_
        rintro e w10 ⟨rfl, hb10⟩
        have hin7 := hin79.below hb10
        have hin6 := hin69.below hb10
        have hv7 := hv79.below hb10
        have hv6 := hv69.below hb10
        have hB10 := hB9.trans (hb10.mono hB9.size)
        clear hin79 hin69 hv79 hv69 hB9 hb10 h9
        go_wp2_with fail
        refine (RefSame_c hin7 hin6 HTW.out.2).mono ?_
        rintro e _ ⟨rfl, q11, rfl⟩
        have hv7' := hv7.drewN q11
        have hv6' := hv6.drewN q11
        have hB11 := below_drewN hB10 q11
        clear hin7 hin6 hv7 hv6 hB10
        generalize w10.drewN q11 = w11 at *
        go_wp2_with fail
        refine (SameInts_c _ _ _ _ _ _ w11 hv7' hv6' hr6.out).mono ?_
        rintro e _ ⟨rfl, q12, rfl⟩
        go_wp2
        go_ret
        exact ⟨rfl, below_drewN hB11 q12⟩
theorem walk_LinearRanks (w : World) (A : Option Addr) (n cap : Nat) (RA : Nat → Option Addr) (RL RC : Nat → Nat) (R : Nat → List F) (h : MIn w A n cap RA RL RC R) (at1 : Int) (_ : (Lit.int .i64 at1).wf = true) (at2 : Int) (_ : (Lit.int .i64 at2).wf = true) :
    Calls Try.prog 7 #[.slice A n cap, .int .i64 at1, .int .i64 at2] w fun e w' => e = .returned (.bool true) ∧ Below w.heap.size w w' := by
  by_cases hc : isS n RL ∧ isR n RL ∧ n ≠ 0
  · exact ranks_main h at1 at2 hc.1 hc.2.1 hc.2.2
  · exact ranks_less h at1 at2 hc
end Go.Proofs.Yteeinbijblcgcaa
