/-
  THE CONTRACTS OF slices.IndexFunc WITH linear's OWN CLOSURE, AND OF linear.clearColumn. No conditions.
-/
import Derived.Test.YtcodgamhgfafnaaLinA
import Derived.Deep.RegionHeld3
namespace Go.Proofs.Ytcodgamhgfafnaa
open Go.RowKit
set_option maxRecDepth 100000
set_option linter.unusedVariables false

theorem RowV.drew {w : World} {b n : Nat} {f : Nat → Value} (h : RowV w b n f) : RowV w.drew b n f := h
theorem n_bne (a : F) : ((a.n : Int) != 0) = !decide (a = 0) := by
  rw [bne, n_beq]
theorem closure_c (b q C K c : Nat) (v : F) (w : World) (h1 : w.cell? ⟨q, 0, none⟩ = some (.int .i64 c)) (h2 : w.cell? ⟨b, c, none⟩ = some (.int .u8 v.n)) (hc : c < C) :
    Calls Try.prog 48 #[.slice (some ⟨b, 0, none⟩) C K, .pointer (some ⟨q, 0, none⟩)] w fun e w' => e = .returned (.bool (!decide (v = 0))) ∧ w = w' := by
  have hn := n_bne v
  have hci : (c : Int) < C := by omega
  go_enter Try.func48, Try.ntmps48
  go_wp2
  go_ret
  exact ⟨rfl, rfl⟩
/-- which row comes up, counted from the next one on -/
def upI (M : Nat → Nat → F) (n col pos : Nat) : Int := match fstNZ M n col pos with | some up => ((up - pos : Nat) : Int) | none => -1
theorem upI_some {M : Nat → Nat → F} {n col pos k : Nat} (h1 : pos + k < n) (h2 : M (pos + k) col ≠ 0) (h3 : ∀ i, pos ≤ i → i < pos + k → M i col = 0) : upI M n col pos = k := by
  unfold upI
  rw [fstNZ_at (Nat.le_add_right pos k) h1 h2 h3]
  show ((pos + k - pos : Nat) : Int) = k
  rw [Nat.add_sub_cancel_left]
theorem upI_none {M : Nat → Nat → F} {n col pos : Nat} (h : ∀ i, pos ≤ i → i < n → M i col = 0) : upI M n col pos = -1 := by
  unfold upI
  rw [fstNZ_empty h]
set_option maxHeartbeats 1000000 in
theorem IndexFunc_c {w : World} {lo hi g n C : Nat} {K G : Nat → Nat} {M : Nat → Nat → F} (h : Mat w lo hi g n C K G M) (pos q c m cg : Nat) (hm : pos + m = n) (hq : w.cell? ⟨q, 0, none⟩ = some (.int .i64 c)) (hc : c < C) :
    Calls Try.prog 47 #[.slice (some ⟨g, pos, none⟩) m cg, .func (.func 48) #[] #[.pointer (some ⟨q, 0, none⟩)]] w fun e w' => e = .returned (.int .i64 (upI M n c pos)) ∧ w = w' := by
  have hnm := h.nmax
  unfold maxLen at hnm
  go_enter Try.func47, Try.ntmps47
  go_wp2
  go_loop [8] (fun i => ∃ k : Nat, k ≤ m ∧ i = .int .i64 k ∧ Hid (∀ r, pos ≤ r → r < pos + k → M r c = 0)) (fun i => m - (intOf i).toNat)
  case atStart => exact ⟨0, by omega, rfl, fun r h1 h2 => by omega⟩
  case round =>
    obtain ⟨k, hk, rfl, hs⟩ := hrel
    by_cases hlt : k < m
    · have hkm : (k : Int) < m := by omega
      have q1 := h.topAt (r := pos + k) (by omega)
      have q2 := h.cellAt (r := pos + k) (j := c) (by omega) hc
      by_cases hz : M (pos + k) c = 0
      · have hv := closure_c (G (pos + k)) q C (K (pos + k)) c (M (pos + k) c) w hq q2 hc
        rw [decide_eq_true hz] at hv
        have HV := Lib.hid hv
        have HZ := Lib.hid hz
        clear hv hz
        go_wp2_with (go_at_call 48; refine HV.out.mono ?_; rintro e w' ⟨rfl, rfl⟩)
        go_round
        case rel =>
          refine ⟨k + 1, by omega, by go_num, fun r h1 h2 => ?_⟩
          rcases Nat.lt_or_ge r (pos + k) with h3 | h3
          · exact hs.out r h1 h3
          · rw [show r = pos + k by omega]; exact HZ.out
        case measure => simp [intOf]; omega
      · have hv := closure_c (G (pos + k)) q C (K (pos + k)) c (M (pos + k) c) w hq q2 hc
        rw [decide_eq_false hz] at hv
        have HV := Lib.hid hv
        have HU := Lib.hid (upI_some (M := M) (n := n) (col := c) (pos := pos) (k := k) (by omega) hz hs.out)
        clear hv hz
        go_wp2_with (go_at_call 48; refine HV.out.mono ?_; rintro e w' ⟨rfl, rfl⟩)
        go_ret
        exact ⟨ret_i64 HU.out.symm, rfl⟩
    · have HU := Lib.hid (upI_none (M := M) (n := n) (col := c) (pos := pos) fun i h1 h2 => hs.out i h1 (by omega))
      go_wp2
      go_ret
      exact ⟨ret_i64 HU.out.symm, rfl⟩

/-- row up is divided, and taken from all others, from the column on -/
def clr (M : Nat → Nat → F) (up col : Nat) : Nat → Nat → F := fun i j =>
  if j < col then M i j else if i = up then M up j * inv (M up col) else M i j + M i col * (M up j * inv (M up col))
/-- so far as k rows are done -/
def clrTo (M : Nat → Nat → F) (up col k : Nat) : Nat → Nat → F := fun i => if i = up ∨ i < k then clr M up col i else M i
theorem clrTo_next (M : Nat → Nat → F) (up col k : Nat) : clrTo M up col (k + 1) = fun i => if i = k then clr M up col k else clrTo M up col k i := by
  funext i
  unfold clrTo
  by_cases h : i = k
  · subst h
    rw [if_pos (by omega), if_pos rfl]
  · rw [if_neg h]
    by_cases h2 : i = up ∨ i < k
    · rw [if_pos h2, if_pos (by omega)]
    · rw [if_neg h2, if_neg (by omega)]
theorem clrTo_up (M : Nat → Nat → F) (up col : Nat) : clrTo M up col (up + 1) = clrTo M up col up := by
  funext i
  unfold clrTo
  by_cases h : i = up ∨ i < up
  · rw [if_pos h, if_pos (by omega)]
  · rw [if_neg h, if_neg (by omega)]
theorem clrTo_skip (M : Nat → Nat → F) {up col k : Nat} (hk : k ≠ up) (h : M k col = 0) : clrTo M up col (k + 1) = clrTo M up col k := by
  rw [clrTo_next]
  funext i
  by_cases e : i = k
  · subst e
    rw [if_pos rfl]
    unfold clrTo
    rw [if_neg (by omega)]
    funext j
    show (if j < col then M i j else if i = up then M up j * inv (M up col) else M i j + M i col * (M up j * inv (M up col))) = M i j
    rw [if_neg hk, h, zero_mul, add_zero]
    split <;> rfl
  · rw [if_neg e]
theorem clrTo_all (M : Nat → Nat → F) {up col n : Nat} (hu : up < n) : ∀ r, r < n → ∀ j, clrTo M up col n r j = clr M up col r j := fun r hr j => by
  unfold clrTo
  rw [if_pos (by omega)]
/-- the divided row, from the column on -/
def pivL (M : Nat → Nat → F) (up col m : Nat) : List F := scaleF (mkF (fun j => M up (col + j)) m) (inv (M up col))
theorem pivL_length (M : Nat → Nat → F) (up col m : Nat) : (pivL M up col m).length = m := by unfold pivL; rw [scale_length, mkF_length]
theorem gt_pivL (M : Nat → Nat → F) (up col m i : Nat) (h : i < m) : gt (pivL M up col m) i = M up (col + i) * inv (M up col) := by
  unfold pivL
  rw [gt_scale, gt_mkF, if_pos h]
set_option maxHeartbeats 4000000 in
theorem clear_c {w : World} {lo hi g n C cg : Nat} {K G : Nat → Nat} {M : Nat → Nat → F} (h : Mat w lo hi g n C K G M) (up col : Nat) (hu : up < n) (hc : col < C) (hC : C ≤ 140737488355328) :
    Calls Try.prog 49 #[.slice (some ⟨g, 0, none⟩) n cg, .int .i64 up, .int .i64 col] w fun e w' => e = .returned (.tuple #[]) ∧ Mat w' lo hi g n C K G (clr M up col) ∧ Out lo hi w w' := by
  have hnm := h.nmax
  unfold maxLen at hnm
  obtain ⟨m, hm⟩ : ∃ m, m = C - col := ⟨_, rfl⟩
  have hm1 : col + m = C := by omega
  have q1 := h.topAt hu
  have q2 := h.cellAt hu hc
  have hun : (up : Int) < n := by omega
  have hcc : (col : Int) < C := by omega
  have hcc2 : (col : Int) ≤ C := by omega
  obtain ⟨k1, k2⟩ := h.cap up hu
  unfold maxLen at k2
  have hKc : K up ≠ col := by omega
  have hsub : C - col = m := hm.symm
  clear hm
  have HG1 := Lib.hid h.top.lt
  have HG2 := Lib.hid (h.rows up hu).lt
  have hrow : Row w (some ⟨G up, col, none⟩) m (mkF (fun j => M up (col + j)) m) := (h.rows up hu).row (by unfold maxLen; omega) (by omega)
  go_enter Try.func49, Try.ntmps49
  go_wp2
  go_region_held3 (fun w' => w'.cell? ⟨g, up, none⟩ = some (.slice (some ⟨G up, 0, none⟩) C (K up)) ∧ w'.cell? ⟨G up, col, none⟩ = some (.int .u8 (M up col).n))
    (first
      | go_keep
      | (go_split_ands
         refine ⟨?_, ?_⟩
         · (rw [hb1.cell (p := ⟨g, up, none⟩) HG1.out]; assumption)
         · (rw [hb1.cell (p := ⟨G up, col, none⟩) HG2.out]; assumption)))
    (first
      | (go_at_call 31; refine (Inv_c _ _).mono ?_; rintro e w' ⟨rfl, rfl⟩)
      | (go_at_call 24; refine (Scale_c _ m _ _ (inv (M up col)) _ (by exact hrow.drew) (by omega)).mono ?_; rintro e w1 ⟨p, rfl, hp, hb1⟩))
  have hb1' : Below w.heap.size w w1 := ⟨hb1.os, hb1.tape, hb1.output, hb1.size, hb1.block⟩
  have h1 := h.below (hb1'.mono h.hle)
  have hP : Row w1 (some ⟨p, 0, none⟩) m (pivL M up col m) := Row.of_own hp
  have hpw : w.heap.size ≤ p := (hp.lt p rfl).1
  have q3 := h1.topAt hu
  have hGu := (h.rlo up hu).2
  have hgle := h.hle
  clear hb1 hp hrow q1 q2
  obtain ⟨w2, hcp, hR2, hg2, -⟩ := copy_run (G up) col m m (K up - col) m C (some ⟨p, 0, none⟩) (fun j => .int .u8 (M up j).n) (pivL M up col m) (Nat.le_refl _) (h1.rows up hu) hP (by omega)
  go_wp2
  have h2 : Mat w2 lo hi g n C K G (clrTo M up col 0) := by
    refine (h1.change hu hg2 (f := clr M up col up) (hR2.congr fun j hj => ?_)).congr fun r hr j hj => ?_
    · unfold clr
      by_cases e : j < col
      · rw [if_neg (by omega), if_pos e]
      · rw [if_pos (by omega), if_neg e, if_pos rfl, gt_pivL _ _ _ _ _ (by omega), show col + (j - col) = j by omega]
    · unfold clrTo
      by_cases e : r = up
      · subst e; rw [if_pos rfl, if_pos (.inl rfl)]
      · rw [if_neg e, if_neg (by omega)]
  have hP2 : Row w2 (some ⟨p, 0, none⟩) m (pivL M up col m) := hP.kept hg2 (fun z e e2 => by injection e with e; subst e; injection e2 with e2; simp at e2; omega)
  have hB2 : Out lo hi w w2 := (Out.ofBelow hb1').trans (Out.ofGrown hg2 (h.rlo up hu))
  have hlo := h.glo
  have hrl := Lib.hid h.rlo
  clear h1 hP hR2 hg2 q3 hb1' h HG1 HG2 hcp
  go_loopw [34] (fun i wr => ∃ k : Nat, k ≤ n ∧ i = .int .i64 k ∧ Mat wr lo hi g n C K G (clrTo M up col k) ∧ Row wr (some ⟨p, 0, none⟩) m (pivL M up col m) ∧ Out lo hi w wr) (fun i _ => n - (intOf i).toNat)
  case atStart => exact ⟨0, by omega, rfl, h2, hP2, hB2⟩
  case round =>
    clear h2 hP2 hB2
    obtain ⟨k, hk, rfl, h2, hP2, hB2⟩ := hrel
    by_cases hlt : k < n
    · have hkn : (k : Int) < n := by omega
      have q1 := h2.topAt hlt
      by_cases hku : k = up
      · subst hku
        have e1 : ((k : Int) != (k : Int)) = false := by simp
        have h3 : Mat wr lo hi g n C K G (clrTo M k col (k + 1)) := by rw [clrTo_up]; exact h2
        go_wp2
        go_roundw
        case rel => exact ⟨k + 1, by omega, by go_num, h3, hP2, hB2⟩
        case measure => simp [intOf]; omega
      · have e1 : ((k : Int) != (up : Int)) = true := by rw [bne_iff_ne]; omega
        have hMk : clrTo M up col k k = M k := if_neg (by omega)
        have q2 := h2.cellAt hlt hc
        rw [hMk] at q2
        have hn := n_bne (M k col)
        by_cases hz : M k col = 0
        · have h3 : Mat wr lo hi g n C K G (clrTo M up col (k + 1)) := by rw [clrTo_skip M hku hz]; exact h2
          rw [decide_eq_true hz] at hn
          clear hz hMk hku
          go_wp2
          go_roundw
          case rel => exact ⟨k + 1, by omega, by go_num, h3, hP2, hB2⟩
          case measure => simp [intOf]; omega
        · rw [decide_eq_false hz] at hn
          obtain ⟨k3, k4⟩ := h2.cap k hlt
          unfold maxLen at k4
          have hKk : K k ≠ col := by omega
          have hGk := hrl.out k hlt
          have hrk := h2.rows k hlt
          rw [hMk] at hrk
          have HRK := Lib.hid hrk
          have hwz := h2.hle
          have HKU := Lib.hid hku
          clear hz hMk hrk hku
          go_wp2
          go_region_with (first
            | (go_at_call 24; refine (Scale_c _ m _ _ (M k col) _ (by exact hP2.drew) (by omega)).mono ?_; rintro e w3 ⟨s, rfl, hs, hb3⟩)
            | (go_at_call 50; refine (take_c (G k) col m (K k - col) C _ m m (M k) (scaleF (pivL M up col m) (M k col)) _ (HRK.out.drew.below hb3 (by simp; omega)) (Row.of_own hs) (fun z e => by injection e with e; subst e; have := (hs.lt s rfl).1; simp at this ⊢; omega) (Nat.le_refl _) (by omega) (by omega) (by omega)).mono ?_; rintro e w4 ⟨rfl, hR4, hg4⟩))
          all_goals
            have hb3' : Below wr.heap.size wr w3 := ⟨hb3.os, hb3.tape, hb3.output, hb3.size, hb3.block⟩
            have h5 : Mat w4 lo hi g n C K G (clrTo M up col (k + 1)) := by
              rw [clrTo_next]
              refine (h2.below (hb3'.mono hwz)).change hlt hg4 (f := clr M up col k) (hR4.congr fun j hj => ?_)
              unfold clr
              by_cases e : j < col
              · rw [if_neg (by omega), if_pos e]
              · rw [if_pos (by omega), if_neg e, if_neg HKU.out, gt_scale, gt_pivL _ _ _ _ _ (by omega), show col + (j - col) = j by omega, mul_comm (M k col)]
            have hP5 : Row w4 (some ⟨p, 0, none⟩) m (pivL M up col m) := (hP2.below hb3').kept hg4 (fun z e e2 => by injection e with e; subst e; injection e2 with e2; simp at e2; omega)
            have hB5 : Out lo hi w w4 := (hB2.trans (Out.ofBelow hb3')).trans (Out.ofGrown hg4 hGk)
            clear h2 hP2 hB2 hs hb3 hb3' hR4 hg4 HRK q1 q2
            go_wp2
            go_roundw
            case rel => exact ⟨k + 1, by omega, by go_num, h5, hP5, hB5⟩
            case measure => simp [intOf]; omega
    · obtain rfl : k = n := by omega
      go_wp2
      go_end0
      exact ⟨rfl, h2.congr (fun r hr j _ => clrTo_all M hu r hr j), hB2⟩
end Go.Proofs.Ytcodgamhgfafnaa
