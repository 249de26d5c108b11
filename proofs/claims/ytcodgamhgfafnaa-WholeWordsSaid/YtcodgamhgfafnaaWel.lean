/-
  LAYER 5: how many are there; the first powers of a byte; the places that are there. No conditions.
-/
import Derived.Test.YtcodgamhgfafnaaSys5
namespace Go.Proofs.Ytcodgamhgfafnaa
open Go.RowKit
set_option maxRecDepth 100000
set_option linter.unusedVariables false

/-- how many of the first k are there -/
def cntT (th : List Bool) : Nat → Nat
  | 0 => 0
  | k + 1 => if gb th k = true then cntT th k + 1 else cntT th k
theorem cntT_le (th : List Bool) (k : Nat) : cntT th k ≤ k := by
  induction k with
  | zero => exact Nat.le_refl _
  | succ k ih => unfold cntT; split <;> omega
/-- at how many places it may differ -/
def mostI (c : Nat) (n : Int) : Int := if n < 1 ∨ (c : Int) < n then -1 else ((c : Int) - n) / 2
theorem Most_c (B : Option Addr) (len cb : Nat) (n : Int) (hn : -9223372036854775808 ≤ n ∧ n ≤ 9223372036854775807) (th : List Bool) (w : World) (hb : BRow w B len th) :
    Calls Try.prog 16 #[.slice B len cb, .int .i64 n] w fun e w' => e = .returned (.int .i64 (mostI (cntT th len) n)) ∧ w = w' := by
  have hm := hb.max
  go_enter Try.func16, Try.ntmps16
  go_wp2
  go_loop [5, 10] (fun c i => ∃ k : Nat, k ≤ len ∧ i = .int .i64 k ∧ c = .int .i64 (cntT th k)) (fun _ i => len - (intOf i).toNat)
  case atStart => exact ⟨0, by omega, rfl, rfl⟩
  case round =>
    obtain ⟨k, hk, rfl, rfl⟩ := hrel
    have hle := cntT_le th k
    by_cases hlt : k < len
    · have hkn : (k : Int) < len := by omega
      obtain ⟨b2, o2, rfl, l2, h2⟩ := hb.at_ hlt
      cases hg : gb th k with
      | false =>
        rw [hg] at h2
        have hc : Hid (cntT th (k + 1) = cntT th k) := if_neg (by rw [hg]; simp)
        clear hg
        go_wp2
        go_round
        case rel => exact ⟨k + 1, by omega, by go_num, by rw [hc.out]⟩
        case measure => simp [intOf]; omega
      | true =>
        rw [hg] at h2
        have hc : Hid (cntT th (k + 1) = cntT th k + 1) := if_pos hg
        clear hg
        go_wp2
        go_round
        case rel => exact ⟨k + 1, by omega, by go_num, by rw [hc.out]; go_num⟩
        case measure => simp [intOf]; omega
    · obtain rfl : k = len := by omega
      generalize hc : cntT th k = c at *
      have HC := Lib.hid hc
      clear hc
      by_cases h1 : n < 1
      · have hr : Hid (mostI c n = -1) := if_pos (.inl h1)
        go_wp2
        go_ret
        exact ⟨by rw [HC.out, hr.out]; rfl, rfl⟩
      · by_cases h2 : (c : Int) < n
        · have hr : Hid (mostI c n = -1) := if_pos (.inr h2)
          go_wp2
          go_ret
          exact ⟨by rw [HC.out, hr.out]; rfl, rfl⟩
        · have hr : Hid (mostI c n = ((c : Int) - n) / 2) := if_neg (by omega)
          have hw : IntKind.i64.wrap ((c : Int) - n) = (c : Int) - n := IntWalk.i64_in _ (by omega)
          have hq : ((c : Int) - n).tdiv 2 = ((c : Int) - n) / 2 := by rw [Int.tdiv_eq_ediv_of_nonneg (by omega)]
          have hw2 : IntKind.i64.wrap (((c : Int) - n) / 2) = ((c : Int) - n) / 2 := IntWalk.i64_in _ (by omega)
          go_wp2
          go_ret
          exact ⟨by rw [HC.out, hr.out]; rfl, rfl⟩
set_option maxHeartbeats 2000000 in
theorem powersOf_c (x : F) (m : Nat) (hm : m ≤ 65536) (w : World) :
    Calls Try.prog 36 #[.int .u8 x.n, .int .i64 m] w fun e w' => ∃ g, e = .returned (.slice (some ⟨g, 0, none⟩) m m) ∧ w'.ownsRow w.heap.size 5 1 (.slice (some ⟨g, 0, none⟩) m m) m (cs (mkF (pw x) m)) ∧ Below w.heap.size w w' := by
  obtain ⟨i0, hi, hz0, hz1, hz2⟩ := info_parts info_u8
  go_enter Try.func36, Try.ntmps36
  go_wp2_with (at_make; refine wpList_make_full _ rfl _ _ 22 rfl w.heap.size 5 i0 (.int .u8 0) 1 Try.underlying22 hi hz0 hz1 _ _ _ _ m rfl rfl rfl rfl (by rw [hz2]; omega) (by unfold maxLen; omega) (Nat.le_refl _) ?_; intro w0 hown0 hgrow0)
  go_wp2
  go_loopw [6, 12] (fun p i wr => ∃ k : Nat, k ≤ m ∧ i = .int .i64 k ∧ p = .int .u8 (pw x k).n ∧ wr.ownsRow w.heap.size 5 1 (.slice (some ⟨w.heap.size, 0, none⟩) m m) m (cs (part (mkF (pw x) m) k)) ∧ Below w.heap.size w wr) (fun _ i _ => m - (intOf i).toNat)
  case atStart => exact ⟨0, by omega, rfl, rfl, part_cells _ _ _ _ (mkF_length _ _) hown0, (Below.refl _ _).grown hgrow0 (Nat.le_refl _) (fun k h => by cases h)⟩
  case round =>
    obtain ⟨k, hk, rfl, rfl, hown, hbel⟩ := hrel
    by_cases hlt : k < m
    · have hkn : (k : Int) < m := by omega
      have hval : Hid (pw x k = gt (mkF (pw x) m) k) := by unfold Hid; rw [gt_mkF, if_pos hlt]
      have hnext : Hid (pw x k * x = pw x (k + 1)) := by unfold Hid; rw [pw_succ]
      have hfz := hown.frozenAt k
      have hl2 : Hid ((part (mkF (pw x) m) k).length = m) := by unfold Hid; rw [part_length, mkF_length]
      have hc2 := hown.cellAt k (by omega)
      rw [cs_at (by rw [hl2.out]; exact hlt)] at hc2
      have hs := Lib.hid (hown.stored k (.int .u8 (pw x k).n)).1
      go_wp2_with (go_at_call 30; refine (Mul_c _ _ _).mono ?_; rintro e w' ⟨rfl, rfl⟩)
      go_roundw
      case rel =>
        refine ⟨k + 1, by omega, by go_num, by rw [hnext.out], ?_, hbel.setCell (Nat.le_refl _) _⟩
        have hs := hs.out
        have e := hval.out
        rw [cs_set, e, part_set _ _ (by rw [mkF_length]; exact hlt)] at hs
        rw [e]
        exact hs
      case measure => simp [intOf]; omega
    · have hk2 : Hid (part (mkF (pw x) m) k = mkF (pw x) m) := by
        unfold Hid
        rw [show k = (mkF (pw x) m).length by rw [mkF_length]; omega, part_all]
      go_wp2
      go_ret
      refine ⟨_, rfl, ?_, hbel⟩
      rw [hk2.out] at hown
      exact hown

/- all places that are there, and the bytes at them: the first n of them for any n not below the row's length -/
set_option maxHeartbeats 4000000 in
set_option maxRecDepth 100000 in
theorem known_c (A B : Option Addr) (len ca cb n : Nat) (l : List F) (th : List Bool) (w : World) (h : Row w A len l) (hb : BRow w B len th) (hlen : len ≤ 255) (hn : len ≤ n) :
    Calls Try.prog 26 #[.slice A len ca, .slice B len cb] w fun e w' => ∃ X cx Y cy t, e = .returned (.tuple #[.slice X t cx, .slice Y t cy]) ∧ Hid (t = (fth th n len).length) ∧ w'.ownsRow w.heap.size 5 1 (.slice X t cx) t (cs (thX th n len)) ∧ w'.ownsRow w.heap.size 5 1 (.slice Y t cy) t (cs (thY l th n len)) ∧ Below w.heap.size w w' := by
  obtain ⟨i0, hi, hz0, hz1, hz2⟩ := info_parts info_u8
  go_enter Try.func26, Try.ntmps26
  go_wp2
  go_loopw [4, 5, 10] (fun vx vy i wr => ∃ (k : Nat) (X : Option Addr) (cx : Nat) (Y : Option Addr) (cy t : Nat), k ≤ len ∧ i = .int .i64 k ∧ vx = .slice X t cx ∧ vy = .slice Y t cy ∧ Hid (t = (fth th n k).length) ∧
      wr.ownsRow w.heap.size 5 1 (.slice X t cx) t (cs (thX th n k)) ∧ wr.ownsRow w.heap.size 5 1 (.slice Y t cy) t (cs (thY l th n k)) ∧ Hid ((Value.slice X t cx).ownBlock = none ∨ (Value.slice X t cx).ownBlock ≠ (Value.slice Y t cy).ownBlock) ∧ Below w.heap.size w wr) (fun _ _ i _ => len - (intOf i).toNat)
  case atStart => exact ⟨0, none, 0, none, 0, 0, by omega, rfl, rfl, rfl, rfl, ⟨rfl, .inl ⟨rfl, rfl⟩⟩, ⟨rfl, .inl ⟨rfl, rfl⟩⟩, .inl rfl, Below.refl _ _⟩
  case round =>
    obtain ⟨k, X, cx, Y, cy, t, hk, rfl, rfl, rfl, ht, hX, hY, hne, hbel⟩ := hrel
    by_cases hlt : k < len
    · have hkn : (k : Int) < len := by omega
      obtain ⟨b1, o1, e1, l1, h1⟩ := h.at_ hlt
      obtain ⟨b2, o2, e2, l2, h2⟩ := hb.at_ hlt
      subst e1 e2
      replace h1 := (hbel.cell (p := ⟨b1, o1 + k, none⟩) l1).trans h1
      replace h2 := (hbel.cell (p := ⟨b2, o2 + k, none⟩) l2).trans h2
      have hle := fth_le_k th n k
      rw [← ht.out] at hle
      cases hg : gb th k with
      | false =>
        rw [hg] at h2
        have hno := Lib.hid (fth_no (th := th) (n := n) (k := k) (.inl hg))
        clear hg
        go_wp2
        go_roundw
        case rel =>
          refine ⟨k + 1, X, cx, Y, cy, t, by omega, by go_num, rfl, rfl, ?_, ?_, ?_, hne, hbel⟩
          · unfold Hid; rw [hno.out]; exact ht.out
          · unfold thX; rw [hno.out]; exact hX
          · unfold thY; rw [hno.out]; exact hY
        case measure => simp [intOf]; omega
      | true =>
        rw [hg] at h2
        by_cases htn : t < n
        · have hXY := Lib.hid (And.intro (thX_yes hg (by rw [← ht.out]; exact htn)) (thY_yes (l := l) hg (by rw [← ht.out]; exact htn)))
          have hfth : Hid (t + 1 = (fth th n (k + 1)).length) := by
            unfold Hid
            rw [← thX_length, hXY.out.1, List.length_append, thX_length, ← ht.out]
            rfl
          have hk255 : (k : Int) < 256 := by omega
          have ag1 : some b1 ≠ (Value.slice X t cx).ownBlock := fun e => by have := (hX.lt b1 e.symm).1; omega
          have ag2 : some b1 ≠ (Value.slice Y t cy).ownBlock := fun e => by have := (hY.lt b1 e.symm).1; omega
          have hw8 := u8_wrap (k := k) (by omega)
          have lW := hbel.size
          have hbX := Lib.hid (fun g e => (hX.lt g e).2)
          have hbY := Lib.hid (fun g e => (hY.lt g e).2)
          have hneX : ∀ z, wr.heap.size ≤ z → (Value.slice X t cx).ownBlock ≠ some z := fun z hz e => by have := hbX.out z e; omega
          have HNX := Lib.hid hneX
          have hneY : (Value.slice Y t cy).ownBlock = none ∨ (Value.slice Y t cy).ownBlock ≠ (Value.slice X t cx).ownBlock := by
            rcases hne.out with h | h
            · cases hy : (Value.slice Y t cy).ownBlock with
              | none => exact .inl rfl
              | some z => exact .inr (by rw [h]; simp)
            · exact .inr fun e => h e.symm
          have HNY := Lib.hid hneY
          clear hg hneX hneY h hb
          go_wp2
          go_region_held3 (fun w' => w'.cell? ⟨b1, o1 + k, none⟩ = some (.int .u8 (gt l k).n))
            (first
              | go_keep
              | (rw [hgrowA.cell_far _ (by simp; omega) ag1]; assumption)
              | (rw [hgrowB.cell_far _ (by have := hgrowA.size; simp at this ⊢; omega) ag2]; assumption))
            (first
              | (refine step_append_lies _ (by rfl) (.tmp 16) (.tmp 19) _ (by rfl) w.heap.size 5 i0 _ 1 1 Try.underlying22 hi hz0 hz1 hz2 rfl (by omega) (.slice X t cx) t (cs (thX th n k)) (by rfl)
                  (hX.alloc (.cells #[.int .u8 k] 5))
                  ⟨wr.heap.size, 0, none⟩ 1 1 [.int .u8 k] (by rfl) (by rfl) ((Blk.new wr 5 #[.int .u8 k]).drew.news) (by simp [Value.oneCell'])
                  (by omega) (by unfold maxLen; omega) (by omega) (by simp; omega) (wr.heap.size + 1) (by simp) ?_; intro gA capA wA hownA hgrowA hatA hltA)
              | (refine step_append_lies _ (by rfl) (.tmp 16) (.tmp 19) _ (by rfl) w.heap.size 5 i0 _ 1 1 Try.underlying22 hi hz0 hz1 hz2 rfl (by omega) (.slice X t cx) t (cs (thX th n k)) (by rfl)
                  ((hX.alloc (.cells #[.int .u8 k] 5)).alloc (.cells #[.int .u8 (gt l k).n] 5))
                  ⟨wr.heap.size, 0, none⟩ 1 1 [.int .u8 k] (by rfl) (by rfl) (((Blk.new wr 5 #[.int .u8 k]).alloc (.cells #[.int .u8 (gt l k).n] 5)).drew.news) (by simp [Value.oneCell'])
                  (by omega) (by unfold maxLen; omega) (by omega) (by simp; omega) (wr.heap.size + 2) (by simp) ?_; intro gA capA wA hownA hgrowA hatA hltA)
              | (refine step_append_lies _ (by rfl) (.tmp 16) (.tmp 19) _ (by rfl) w.heap.size 5 i0 _ 1 1 Try.underlying22 hi hz0 hz1 hz2 rfl (by omega) (.slice X t cx) t (cs (thX th n k)) (by rfl)
                  ((hX.alloc (.cells #[.int .u8 (gt l k).n] 5)).alloc (.cells #[.int .u8 k] 5))
                  ⟨wr.heap.size + 1, 0, none⟩ 1 1 [.int .u8 k] (by rfl) (by rfl) ((Blk.new1 wr (.cells #[.int .u8 (gt l k).n] 5) 5 #[.int .u8 k]).drew.news) (by simp [Value.oneCell'])
                  (by omega) (by unfold maxLen; omega) (by omega) (by simp; omega) (wr.heap.size + 2) (by simp) ?_; intro gA capA wA hownA hgrowA hatA hltA)
              | (refine step_append_lies _ (by rfl) (.tmp 21) (.tmp 26) _ (by rfl) w.heap.size 5 i0 _ 1 1 Try.underlying22 hi hz0 hz1 hz2 rfl (by omega) (.slice Y t cy) t (cs (thY l th n k)) (by rfl)
                  (((hY.alloc (.cells #[.int .u8 k] 5)).drew.kept hgrowA HNY.out).alloc (.cells #[.int .u8 (gt l k).n] 5))
                  ⟨wA.heap.size, 0, none⟩ 1 1 [.int .u8 (gt l k).n] (by rfl) (by rfl) ((Blk.new wA 5 #[.int .u8 (gt l k).n]).drew.news) (by simp [Value.oneCell'])
                  (by omega) (by unfold maxLen; omega) (by omega) (by have := hgrowA.size; simp at this ⊢; omega) (wA.heap.size + 1) (by simp) ?_; intro gB capB wB hownB hgrowB hatB hltB)
              | (refine step_append_lies _ (by rfl) (.tmp 21) (.tmp 26) _ (by rfl) w.heap.size 5 i0 _ 1 1 Try.underlying22 hi hz0 hz1 hz2 rfl (by omega) (.slice Y t cy) t (cs (thY l th n k)) (by rfl)
                  (((hY.alloc (.cells #[.int .u8 k] 5)).alloc (.cells #[.int .u8 (gt l k).n] 5)).drew.kept hgrowA HNY.out)
                  ⟨wr.heap.size + 1, 0, none⟩ 1 1 [.int .u8 (gt l k).n] (by rfl) (by rfl) (((Blk.new1 wr (.cells #[.int .u8 k] 5) 5 #[.int .u8 (gt l k).n]).drew.kept hgrowA ⟨by simp, HNX.out _ (by omega)⟩).news) (by simp [Value.oneCell'])
                  (by omega) (by unfold maxLen; omega) (by omega) (by have := hgrowA.size; simp at this ⊢; omega) wA.heap.size rfl ?_; intro gB capB wB hownB hgrowB hatB hltB)
              | (refine step_append_lies _ (by rfl) (.tmp 21) (.tmp 26) _ (by rfl) w.heap.size 5 i0 _ 1 1 Try.underlying22 hi hz0 hz1 hz2 rfl (by omega) (.slice Y t cy) t (cs (thY l th n k)) (by rfl)
                  (((hY.alloc (.cells #[.int .u8 (gt l k).n] 5)).alloc (.cells #[.int .u8 k] 5)).drew.kept hgrowA HNY.out)
                  ⟨wr.heap.size, 0, none⟩ 1 1 [.int .u8 (gt l k).n] (by rfl) (by rfl) ((((Blk.new wr 5 #[.int .u8 (gt l k).n]).alloc (.cells #[.int .u8 k] 5)).drew.kept hgrowA ⟨by simp; omega, HNX.out _ (by omega)⟩).news) (by simp [Value.oneCell'])
                  (by omega) (by unfold maxLen; omega) (by omega) (by have := hgrowA.size; simp at this ⊢; omega) wA.heap.size rfl ?_; intro gB capB wB hownB hgrowB hatB hltB))
          all_goals
            have neA : some gA ≠ (Value.slice Y t cy).ownBlock := two_apart hne.out hbY.out hatA (by omega)
            have neAB : gA ≠ gB := two_apart2 neA hltA hatB (by omega)
            have hownA2 : wB.ownsRow w.heap.size 5 1 (.slice (some ⟨gA, 0, none⟩) (t + 1) capA) (t + 1) (cs (thX th n (k + 1))) := by
              rw [hXY.out.1, cs_append, show cs [plI k] = [.int .u8 (k : Int)] by show [Value.int .u8 ((plI k).n : Int)] = _; rw [plI_lt (by omega)]]
              first | exact hownA.kept hgrowB (.inr neA) | exact (hownA.alloc _).kept hgrowB (.inr neA)
            have hownB2 : wB.ownsRow w.heap.size 5 1 (.slice (some ⟨gB, 0, none⟩) (t + 1) capB) (t + 1) (cs (thY l th n (k + 1))) := by
              rw [hXY.out.2, cs_append]
              exact hownB
            have hbA : Below w.heap.size w wA := by
              first
                | exact (hbel.alloc lW _).drew.grown hgrowA (by simp; omega) (fun g e => (hX.lt g e).1)
                | exact ((hbel.alloc lW _).alloc (by simp; omega) _).drew.grown hgrowA (by simp; omega) (fun g e => (hX.lt g e).1)
            have hbB : Below w.heap.size w wB := by
              first
                | exact hbA.grown hgrowB hbA.size (fun g e => (hY.lt g e).1)
                | exact (hbA.alloc hbA.size _).grown hgrowB (by have := hbA.size; simp; omega) (fun g e => (hY.lt g e).1)
            have hneAB : Hid ((Value.slice (some ⟨gA, 0, none⟩) (t + 1) capA).ownBlock = none ∨ (Value.slice (some ⟨gA, 0, none⟩) (t + 1) capA).ownBlock ≠ (Value.slice (some ⟨gB, 0, none⟩) (t + 1) capB).ownBlock) := .inr (by simp [Value.ownBlock]; exact neAB)
            clear hownA hownB hgrowA hgrowB hbA hatA hatB hne hX hY hXY
            go_wp2
            go_roundw
            case rel => exact ⟨k + 1, _, capA, _, capB, t + 1, by omega, by go_num, rfl, rfl, hfth, hownA2, hownB2, hneAB, hbB⟩
            case measure => simp [intOf]; omega
        · omega
    · obtain rfl : k = len := by omega
      go_wp2
      go_ret2
      exact ⟨X, cx, Y, cy, t, rfl, ht, hX, hY, hbel⟩
end Go.Proofs.Ytcodgamhgfafnaa
