/-
  LAW 05: WelchCounts. No conditions.
-/
import Derived.Test.YtgpmgekaelhelaaLaw05
import Derived.Test.YtgpmgekaelhelaaNum
namespace Go.Proofs.Ytgpmgekaelhelaa
open Go.RowKit
set_option maxRecDepth 100000
set_option linter.unusedVariables false

theorem info_bool : (Try.prog.info? 4).map (fun i => (i.zero, i.size, i.bytes)) = some (some (.bool false), 1, 1) := by kernel_rfl
def bvC (l : List Bool) : List Value := l.map Value.bool
theorem bvC_length (l : List Bool) : (bvC l).length = l.length := by simp [bvC]
theorem bvC_at {l : List Bool} {i : Nat} (h : i < l.length) : (bvC l)[i]? = some (.bool (gb l i)) := by simp [bvC, gb, h]
theorem bvC_set (l : List Bool) (i : Nat) (b : Bool) : (bvC l).set i (.bool b) = bvC (l.set i b) := by simp [bvC, List.map_set]
theorem bvC_one (l : List Bool) : ∀ u ∈ bvC l, u.oneCell' = true := by
  intro u hu
  obtain ⟨b, _, rfl⟩ := List.mem_map.1 hu
  rfl
theorem brow_own {w : World} {base n c : Nat} {e : TypeId} {A : Option Addr} {l : List Bool} (h : w.ownsRow base e 1 (.slice A n c) n (bvC l)) : BRow w A n l := by
  have hl : l.length = n := by have := h.1; rw [bvC_length] at this; omega
  rcases h.2 with ⟨_, h0⟩ | ⟨g, c', cur, hv, _, hg, hnc, hcm, _⟩
  · subst h0
    obtain rfl := List.length_eq_zero_iff.1 hl
    exact BRow.nil _ _
  · injection hv with hv
    subst hv
    refine ⟨hl, by omega, fun _ => ⟨g, 0, rfl, (Array.getElem?_eq_some_iff.1 hg).1, fun i hi => ?_⟩⟩
    rw [Nat.zero_add, h.cellAt i (by omega), bvC_at (by omega)]
theorem BRow.cells {w : World} {b off n : Nat} {l : List Bool} (h : BRow w (some ⟨b, off, none⟩) n l) : ∀ j u, (bvC l)[j]? = some u → w.cell? ((⟨b, off, none⟩ : Addr).add j) = some u := by
  intro j u hj
  have hl := h.len
  have hlt : j < l.length := by
    have := (List.getElem?_eq_some_iff.1 hj).1
    rwa [bvC_length] at this
  rw [bvC_at hlt] at hj
  injection hj with hj
  obtain ⟨b', o', e, _, hc⟩ := h.2.2 (by omega)
  injection e with e
  injection e with e1 e2
  subst e1 e2 hj
  have e : (⟨b, off, none⟩ : Addr).add j = ⟨b, off + j, none⟩ := by unfold Addr.add; split <;> simp_all
  rw [e]
  exact hc j (by omega)
theorem gb_set (l : List Bool) (i j : Nat) (b : Bool) (hi : i < l.length) : gb (l.set i b) j = if j = i then b else gb l j := by
  unfold gb
  by_cases h : j = i
  · subst h; simp [hi]
  · simp [h, Ne.symm h]
theorem cntT_set {l : List Bool} {j : Nat} (hj : j < l.length) (h : gb l j = true) (k : Nat) : cntT (l.set j false) k + (if j < k then 1 else 0) = cntT l k := by
  induction k with
  | zero => rfl
  | succ k ih =>
    unfold cntT
    rw [gb_set _ _ _ _ hj]
    by_cases e : k = j
    · subst e
      rw [if_pos rfl, if_neg (by simp), if_pos (by omega), if_pos h]
      rw [if_neg (by omega)] at ih
      omega
    · rw [if_neg e]
      by_cases h2 : j < k
      · rw [if_pos h2] at ih
        rw [if_pos (show j < k + 1 by omega)]
        by_cases hg : gb l k = true
        · rw [if_pos hg, if_pos hg]; omega
        · rw [if_neg hg, if_neg hg]; omega
      · rw [if_neg h2] at ih
        rw [if_neg (show ¬ j < k + 1 by omega)]
        by_cases hg : gb l k = true
        · rw [if_pos hg, if_pos hg]; omega
        · rw [if_neg hg, if_neg hg]; omega
theorem and255n (x : Int) : ∃ z : Nat, z ≤ 255 ∧ bits .and .i64 x 255 = (z : Int) := by
  have h := andLow x 8 (by decide)
  refine ⟨(x % 2 ^ 8).toNat, by omega, ?_⟩
  rw [show (255 : Int) = ((2 ^ 8 - 1 : Nat) : Int) from rfl, h]
  omega
theorem mostI_less {c : Nat} {n : Int} (h1 : 1 ≤ n) (h2 : n ≤ c) {c' : Nat} (h : c' + 2 = c) : mostI c' n = ((c : Int) - n) / 2 - 1 := by
  unfold mostI
  split <;> omega
theorem mostI_nat {c : Nat} {n : Int} (h1 : 1 ≤ n) (h2 : n ≤ c) : ∃ k : Nat, mostI c n = k ∧ ((c : Int) - n) / 2 = k := by
  refine ⟨(((c : Int) - n) / 2).toNat, ?_, by omega⟩
  unfold mostI
  rw [if_neg (by omega)]
  omega
theorem mostI_range (c : Nat) (n : Int) (hc : c ≤ 300) (hn : -9223372036854775808 ≤ n) : -1 ≤ mostI c n ∧ mostI c n ≤ 300 := by
  unfold mostI
  split <;> omega
set_option maxHeartbeats 4000000 in
theorem walk_WelchCounts (w : World) (B : Option Addr) (len cb : Nat) (th : List Bool) (hb : BRow w B len th) (n : Int) (hn : (Lit.int .i64 n).wf = true) (at' : Int) (hat : (Lit.int .i64 at').wf = true) :
    Calls Try.prog 6 #[.slice B len cb, .int .i64 n, .int .i64 at'] w fun e w' => e = .returned (.bool true) ∧ Below w.heap.size w w' := by
  have hn64 := wf_i64 hn
  by_cases h300 : 300 < len
  · have hl : (300 : Int) < (len : Int) := by omega
    go_enter Try.func6, Try.ntmps6
    go_wp2_with (go_at_call 7; refine (alive05_c _).mono ?_; rintro e w1 ⟨rfl, hb1⟩)
    go_ret
    exact ⟨rfl, hb1⟩
  by_cases h0 : len = 0
  · have hl : ((len : Int) == 0) = true := by rw [beq_iff_eq]; omega
    have hl2 : ¬ (300 : Int) < (len : Int) := by omega
    clear h300 h0
    go_enter Try.func6, Try.ntmps6
    go_wp2_with (go_at_call 7; refine (alive05_c _).mono ?_; rintro e w1 ⟨rfl, hb1⟩)
    go_ret
    exact ⟨rfl, hb1⟩
  have hl : ((len : Int) == 0) = false := by rw [Bool.eq_false_iff, ne_eq, beq_iff_eq]; omega
  have hl2 : ¬ (300 : Int) < (len : Int) := by omega
  have hcl := cntT_le th len
  obtain ⟨c, hc⟩ : ∃ c, c = cntT th len := ⟨_, rfl⟩
  have HMOST : ∀ W, BRow W B len th → Hid (Calls Try.prog 11 #[.slice B len cb, .int .i64 n] W fun e w' => e = .returned (.int .i64 (mostI c n)) ∧ W = w') := fun W h => by
    rw [hc]
    exact Most_c B len cb n hn64 th W h
  by_cases hbad : n < 1 ∨ (c : Int) < n
  · have hm : mostI c n = -1 := if_pos hbad
    rw [hm] at HMOST
    have HM := Lib.hid HMOST
    clear HMOST hbad hm h300 h0
    go_enter Try.func6, Try.ntmps6
    go_wp2_with (first
      | (go_at_call 7; refine (alive05_c _).mono ?_; rintro e w1 ⟨rfl, hb1⟩)
      | (go_at_call 11; refine (HM.out _ (hb.below hb1)).out.mono ?_; rintro e _ ⟨rfl, rfl⟩))
    go_ret
    exact ⟨rfl, hb1⟩
  · have hn1 : 1 ≤ n := by omega
    have hn2 : n ≤ (c : Int) := by omega
    obtain ⟨kk, hk1, hk2⟩ := mostI_nat hn1 hn2
    rw [hk1] at HMOST
    have HM := Lib.hid HMOST
    have hkk0 : ¬ (kk : Int) < 0 := by omega
    have hkk300 : kk ≤ 300 := by omega
    have HC := Lib.hid hc
    have HK2 := Lib.hid hk2
    have HCL : Hid (c ≤ 300) := by unfold Hid; omega
    have HN2 := Lib.hid hn2
    obtain ⟨r, hr, hand⟩ := and255n at'
    obtain ⟨i0, hi, hz0, hz1, hz2⟩ := info_parts info_bool
    obtain ⟨b, off, rfl, hlb, hcell⟩ := hb.2.2 (by omega)
    have hmax := hb.max
    clear HMOST hbad hk1 hk2 hc hcell hn2 hcl
    go_enter Try.func6, Try.ntmps6
    go_wp2_with (first
      | (go_at_call 7; refine (alive05_c _).mono ?_; rintro e w1 ⟨rfl, hb1⟩)
      | (go_at_call 11; refine (HM.out _ (hb.below hb1)).out.mono ?_; rintro e _ ⟨rfl, rfl⟩)
      | (at_builtin
         refine wpList_append_own _ rfl (.tmp 30) (.tmp 31) 23 rfl w1.heap.size 4 i0 (.bool false) 1 1 Try.underlying23 hi hz0 hz1 hz2 rfl (by decide) (.slice (some ⟨w1.heap.size, 0, none⟩) 0 0) 0 [] rfl (World.ownsRow_made (e := 4) (size := 1) w1 #[] 0 (Nat.le_refl _) (Nat.zero_le _) rfl) ⟨b, off, none⟩ len cb (bvC th) rfl (by rw [bvC_length, hb.len, Nat.mul_one]) (((hb.below hb1).alloc _).cells) (bvC_one _) (by unfold maxLen; omega) (by omega) (by simp) ?_
         intro v4 w4 hown4 hgrow4 hnil4
         obtain ⟨D, cD, rfl, -⟩ := own_shape hown4
         obtain ⟨gD, rfl⟩ := own_some hown4 (by omega)
         rw [Nat.zero_add, List.nil_append] at hown4
         rw [Nat.zero_add]))
    have hbb : Below w1.heap.size w1 w4 := ((Below.refl w1.heap.size w1).alloc (Nat.le_refl _) _).grown hgrow4 (by simp) (fun z e => by injection e with e; show w1.heap.size ≤ z; have : w1.heap.size = z := e; omega)
    have hlen := hb.len
    have HLEN := Lib.hid hlen
    have hlz : 0 < len := by omega
    clear hgrow4 hnil4 hlen h300 h0 hat hn
    go_loopw [9, 35] (fun g i wr => ∃ (k gone : Nat) (L : List Bool), k ≤ len ∧ i = .int .i64 k ∧ g = .int .i64 gone ∧ gone ≤ 2 ∧ wr.ownsRow w1.heap.size 4 1 (.slice (some ⟨gD, 0, none⟩) len cD) len (bvC L) ∧ Hid (cntT L len + gone = c ∧ L.length = len) ∧ Below w1.heap.size w1 wr) (fun _ i _ => len - (intOf i).toNat)
    case atStart => exact ⟨0, 0, th, by omega, rfl, rfl, by omega, hown4, ⟨HC.out.symm, HLEN.out⟩, hbb⟩
    case round =>
      obtain ⟨k, gone, L, hk, rfl, rfl, hg2, hown, hcnt, hbel⟩ := hrel
      clear hown4 hbb
      by_cases hlt : k < len
      · have hkn : (k : Int) < len := by omega
        obtain ⟨j, hj⟩ : ∃ j, j = (k + r) % len := ⟨_, rfl⟩
        have hjl : j < len := by rw [hj]; exact Nat.mod_lt _ hlz
        have hm1 : ((k : Int) + (r : Int)) % (len : Int) = (j : Int) := by rw [hj, Int.natCast_emod, Int.natCast_add]
        have hm2 : ((k : Int) + (r : Int)).tmod (len : Int) = (j : Int) := by rw [Int.tmod_eq_emod_of_nonneg (by omega), hm1]
        have hm3 : IntKind.i64.wrap (j : Int) = (j : Int) := IntWalk.i64_in _ (by omega)
        have hjn : (j : Int) < len := by omega
        have hLl := hcnt.out.2
        have hcj := hown.cellAt j (by omega)
        rw [bvC_at (by omega)] at hcj
        have hfz := hown.frozenAt j
        have hst := Lib.hid (hown.stored j (.bool false)).1
        have HJ := Lib.hid hj
        clear hj hLl
        cases hg : gb L j with
        | false =>
          rw [hg] at hcj
          clear hg hst
          go_wp2
          go_roundw
          case rel => exact ⟨k + 1, gone, L, by omega, by go_num, rfl, hg2, hown, hcnt, hbel⟩
          case measure => simp [intOf]; omega
        | true =>
          rw [hg] at hcj
          by_cases hlt2 : gone < 2
          · have hgi : (gone : Int) < 2 := by omega
            have hcs : Hid (cntT (L.set j false) len + (gone + 1) = c ∧ (L.set j false).length = len) := by
              have h1 := cntT_set (l := L) (j := j) (by rw [hcnt.out.2]; exact hjl) hg len
              rw [if_pos hjl] at h1
              have h2 := hcnt.out.1
              exact ⟨by omega, by rw [List.length_set, hcnt.out.2]⟩
            clear hg
            go_wp2
            go_roundw
            case rel =>
              have h1 := hst.out
              rw [bvC_set] at h1
              exact ⟨k + 1, gone + 1, L.set j false, by omega, by go_num, by go_num, by omega, h1, hcs, hbel.setCell (hown.lt gD rfl).1 _⟩
            case measure => simp [intOf]; omega
          · have hgi : ¬ (gone : Int) < 2 := by omega
            clear hg hst
            go_wp2
            go_roundw
            case rel => exact ⟨k + 1, gone, L, by omega, by go_num, rfl, hg2, hown, hcnt, hbel⟩
            case measure => simp [intOf]; omega
      · obtain rfl : k = len := by omega
        have hrow := brow_own hown
        have hB := hb1.trans (hbel.mono hb1.size)
        obtain ⟨M, hM⟩ : ∃ M, M = mostI (cntT L k) n := ⟨_, rfl⟩
        have hMr := mostI_range (cntT L k) n (by have := hcnt.out.1; have := HCL.out; omega) hn64.1
        have hm := Most_c (some ⟨gD, 0, none⟩) k cD n hn64 L wr hrow
        rw [← hM] at hm hMr
        have HMC := Lib.hid hm
        have hn1b : ¬ n < 1 := by omega
        by_cases hgone : gone < 2
        · have hgi : (gone : Int) < 2 := by omega
          clear hm hM hown hrow
          go_wp2_with (go_at_call 11; refine HMC.out.mono ?_; rintro e _ ⟨rfl, rfl⟩)
          go_ret
          exact ⟨rfl, hB⟩
        · have hgi : ¬ (gone : Int) < 2 := by omega
          have hMk : M = (kk : Int) - 1 := by
            rw [hM, mostI_less hn1 HN2.out (by have := hcnt.out.1; omega), HK2.out]
          have hMb : (M == (kk : Int) - 1) = true := by rw [beq_iff_eq]; exact hMk
          clear hm hM hown hrow hMk
          go_wp2_with (go_at_call 11; refine HMC.out.mono ?_; rintro e _ ⟨rfl, rfl⟩)
          go_ret
          exact ⟨rfl, hB⟩
end Go.Proofs.Ytgpmgekaelhelaa
