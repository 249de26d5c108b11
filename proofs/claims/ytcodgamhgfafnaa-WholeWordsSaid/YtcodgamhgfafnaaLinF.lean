/-
  THE CONTRACT OF linear.Solve. Rows and columns of at most 2^20.
-/
import Derived.Test.YtcodgamhgfafnaaLinE
namespace Go.Proofs.Ytcodgamhgfafnaa
open Go.RowKit
set_option maxRecDepth 100000
set_option linter.unusedVariables false

/-- the rows without a pivot are 0 behind -/
def Cons (X : (Nat → Nat → F) × List Nat) (n L : Nat) : Prop := ∀ i, X.2.length ≤ i → i < n → X.1 i L = 0
/-- what Solve answers, of what the matrix with its right side behind is reduced to -/
def SolRes (w w' : World) (n L : Nat) (X : (Nat → Nat → F) × List Nat) (e : Ending) : Prop :=
  (Cons X n L ∧ ∃ g xl, e = .returned (.tuple #[.slice (some ⟨g, 0, none⟩) L L, .bool true]) ∧ w'.ownsRow w.heap.size 5 1 (.slice (some ⟨g, 0, none⟩) L L) L (cs xl) ∧ SolX L X.1 X.2 (gt xl)) ∨
  (¬ Cons X n L ∧ e = .returned (.tuple #[.slice none 0 0, .bool false]))
set_option maxHeartbeats 1000000 in
theorem Solve_no {w : World} {A : Option Addr} {n cap : Nat} {RA : Nat → Option Addr} {RL RC : Nat → Nat} {R : Nat → List F} (h : MIn w A n cap RA RL RC R) (B : Option Addr) (m cb : Nat) (hr : ¬ (isR n RL ∧ n = m)) (hm : m ≤ 9223372036854775807) :
    Calls Try.prog 38 #[.slice A n cap, .slice B m cb] w fun e w' => e = .returned (.tuple #[.slice none 0 0, .bool false]) ∧ w = w' := by
  have h1 := Right_c h
  have hnm := h.nmax
  by_cases hr1 : isR n RL
  · have hne : ((n : Int) != (m : Int)) = true := by
      rw [bne_iff_ne]
      intro e
      exact hr ⟨hr1, by omega⟩
    rw [decide_eq_true hr1] at h1
    have H1 := Lib.hid h1
    clear h1 hr hr1
    go_enter Try.func38, Try.ntmps38
    go_wp2_with (go_at_call 42; refine H1.out.mono ?_; rintro e w' ⟨rfl, rfl⟩)
    go_ret2
    exact ⟨rfl, rfl⟩
  · rw [decide_eq_false hr1] at h1
    have H1 := Lib.hid h1
    clear h1 hr hr1
    go_enter Try.func38, Try.ntmps38
    go_wp2_with (go_at_call 42; refine H1.out.mono ?_; rintro e w' ⟨rfl, rfl⟩)
    go_ret2
    exact ⟨rfl, rfl⟩
/-- so far as the right side is laid behind -/
def augTo (L : Nat) (M : Nat → Nat → F) (q : Nat → F) (k : Nat) : Nat → Nat → F := fun r j => if r < k ∧ j = L then q r else M r j
theorem augTo_next (L : Nat) (M : Nat → Nat → F) (q : Nat → F) (k : Nat) (r j : Nat) : augTo L M q (k + 1) r j = (fun s => if s = k then (fun j => if j = L then q k else M k j) else augTo L M q k s) r j := by
  unfold augTo
  show _ = (if r = k then (fun j => if j = L then q k else M k j) else fun j => if r < k ∧ j = L then q r else M r j) j
  by_cases h : r = k
  · subst h
    rw [if_pos rfl]
    show _ = if j = L then q r else M r j
    by_cases hj : j = L
    · rw [if_pos ⟨by omega, hj⟩, if_pos hj]
    · rw [if_neg (fun e => hj e.2), if_neg hj]
  · rw [if_neg h]
    show _ = if r < k ∧ j = L then q r else M r j
    by_cases h2 : r < k ∧ j = L
    · rw [if_pos h2, if_pos ⟨by omega, h2.2⟩]
    · rw [if_neg h2, if_neg (fun e => h2 ⟨by omega, e.2⟩)]
theorem augTo_all (L : Nat) (M : Nat → Nat → F) (q : Nat → F) (n : Nat) : ∀ r, r < n → ∀ j, augTo L M q n r j = augC L M q r j := fun r hr j => by
  unfold augTo augC
  by_cases h : j = L
  · rw [if_pos ⟨hr, h⟩, if_pos h]
  · rw [if_neg (fun e => h e.2), if_neg h]
theorem augTo_zero (L : Nat) (M : Nat → Nat → F) (q : Nat → F) : augTo L M q 0 = M := by
  funext r j
  exact if_neg (by omega)
/-- so far as the pivots are laid -/
structure SolTo (L : Nat) (R : Nat → Nat → F) (ps : List Nat) (k : Nat) (xl : List F) : Prop where
  len : xl.length = L
  at_ : ∀ i (h : i < ps.length), i < k → gt xl ps[i] = R i L
  off : ∀ j, (∀ i (h : i < ps.length), i < k → ps[i] ≠ j) → gt xl j = 0
theorem SolTo.start (L : Nat) (R : Nat → Nat → F) (ps : List Nat) : SolTo L R ps 0 (List.replicate L 0) := ⟨by simp, fun i _ h => by omega, fun j _ => gt_replicate _ _⟩
theorem SolTo.step {L : Nat} {R : Nat → Nat → F} {ps : List Nat} {k : Nat} {xl : List F} (h : SolTo L R ps k xl) (hk : k < ps.length) (hinc : ps.Pairwise (· < ·)) (hlt : ps[k] < L) : SolTo L R ps (k + 1) (xl.set ps[k] (R k L)) := by
  have hl := h.len
  refine ⟨by simp [hl], fun i hi hik => ?_, fun j hj => ?_⟩
  · rw [gt_set _ _ _ _ (by omega)]
    by_cases e : i = k
    · subst e; rw [if_pos rfl]
    · have hne : ps[i] ≠ ps[k] := by
        have := List.pairwise_iff_getElem.1 hinc i k hi hk (by omega)
        omega
      rw [if_neg hne]
      exact h.at_ i hi (by omega)
  · rw [gt_set _ _ _ _ (by omega), if_neg (fun e => hj k hk (by omega) e.symm)]
    exact h.off j fun i hi hik => hj i hi (by omega)
theorem SolTo.fin {L : Nat} {R : Nat → Nat → F} {ps : List Nat} {xl : List F} (h : SolTo L R ps ps.length xl) : SolX L R ps (gt xl) :=
  ⟨fun k hk => h.at_ k hk hk, fun j hj hn => h.off j fun i hi _ e => hn (e ▸ List.getElem_mem hi)⟩
set_option maxHeartbeats 4000000 in
theorem Solve_yes {w : World} {A : Option Addr} {n cap : Nat} {RA : Nat → Option Addr} {RL RC : Nat → Nat} {R : Nat → List F} (h : MIn w A n cap RA RL RC R) (B : Option Addr) (cb : Nat) (rt : List F) (hb : Row w B n rt) (hr : isR n RL) (hn : n ≤ 1048576) (hw : wid n RL ≤ 1048576) :
    Calls Try.prog 38 #[.slice A n cap, .slice B n cb] w fun e w' => SolRes w w' n (wid n RL) (redTo (augC (wid n RL) (mat R) (gt rt)) n (wid n RL)) e ∧ Below w.heap.size w w' := by
  have h1 := Right_c h
  rw [decide_eq_true hr] at h1
  have H1 := Lib.hid h1
  have HA := Lib.hid hr.all
  have hwi := width_w h
  clear h1 hr
  obtain ⟨L, hL⟩ : ∃ L, L = wid n RL := ⟨_, rfl⟩
  rw [← hL] at hwi HA hw ⊢
  have hne : ((n : Int) != (n : Int)) = false := by simp
  clear hL
  go_enter Try.func38, Try.ntmps38
  go_wp2_with (first
    | (go_at_call 42; refine H1.out.mono ?_; rintro e w' ⟨rfl, rfl⟩)
    | (go_at_call 43; refine hwi.mono ?_; rintro e w' ⟨rfl, rfl⟩))
  refine (widened_c h HA.out 1 (by omega) (by omega)).mono ?_
  rintro e w1 ⟨g, G, rfl, hM, hb1⟩
  have hb2 := hb.below hb1
  obtain ⟨hi, hhi⟩ : ∃ hi, hi = w1.heap.size := ⟨_, rfl⟩
  rw [← hhi] at hM
  have hs1 := hb1.size
  have HHI := Lib.hid hhi
  clear hhi
  have hM0 : Mat w1 w.heap.size hi g n (L + 1) (fun _ => L + 1) G (augTo L (mat R) (gt rt) 0) := by rw [augTo_zero]; exact hM
  clear hM
  go_wp2
  go_loopw [32] (fun i wr => ∃ k : Nat, k ≤ n ∧ i = .int .i64 k ∧ Mat wr w.heap.size hi g n (L + 1) (fun _ => L + 1) G (augTo L (mat R) (gt rt) k) ∧ Below w.heap.size w wr) (fun i _ => n - (intOf i).toNat)
  case atStart => exact ⟨0, by omega, rfl, hM0, hb1⟩
  case round =>
    clear hM0 hb1 hb2
    obtain ⟨k, hk, rfl, hM, hbel⟩ := hrel
    by_cases hlt : k < n
    · have hkn : (k : Int) < n := by omega
      obtain ⟨b, o, e, lb, qb⟩ := (hb.below hbel).at_ hlt
      subst e
      have q1 := hM.topAt hlt
      have q2 := hM.cellAt hlt (j := L) (by omega)
      have fz := (hM.rows k hlt).frozen L
      have hLL : (L : Int) < (L : Int) + 1 := by omega
      have hst := (hM.rows k hlt).set L (.int .u8 (gt rt k).n)
      have hM2 := Lib.hid ((hM.change hlt (setCell_grown wr (G k) L (.int .u8 (gt rt k).n)) (f := fun j => if j = L then gt rt k else mat R k j) (hst.congr fun j hj => by
        by_cases e : j = L
        · subst e; rw [if_pos rfl, if_pos rfl]
        · rw [if_neg e, if_neg e]
          unfold augTo
          rw [if_neg (fun e => by omega)])).congr (fun r hr j hj => (augTo_next L (mat R) (gt rt) k r j).symm))
      have hgl := (hM.rlo k hlt).1
      clear hst hM
      go_wp2
      go_roundw
      case rel => exact ⟨k + 1, by omega, by go_num, hM2.out, hbel.setCell hgl _⟩
      case measure => simp [intOf]; omega
    · obtain rfl : k = n := by omega
      have hMa := hM.congr (fun r hr j _ => augTo_all L (mat R) (gt rt) k r hr j)
      clear hM
      generalize hX : redTo (augC L (mat R) (gt rt)) k L = X
      have hred := reduce_c hMa (Nat.le_refl k) (by unfold maxLen; omega) L (by omega) (by omega) (by omega)
      rw [Int.toNat_natCast, hX] at hred
      have hrref : Hid (Rref k L X.1 X.2) := by rw [← hX]; exact redTo_rref _ _ _
      have HX := Lib.hid hX
      clear hMa hX
      go_wp2_with fail
      refine hred.mono ?_
      rintro e w3 ⟨P, r, pc, rfl, ⟨K', G', hrl, hown, hM3⟩, hb3⟩
      have hbel3 := hbel.trans hb3
      obtain ⟨i0, hi0, hz0, hz1, hz2⟩ := info_parts info_u8
      have hrn : r ≤ k := by rw [hrl.out]; exact hrref.out.len
      obtain ⟨m, hm⟩ : ∃ m, m = k - r := ⟨_, rfl⟩
      have hsub : k - r = m := hm.symm
      have hrm : r + m = k := by omega
      have hrk : (r : Int) ≤ k := by omega
      clear hm
      obtain ⟨XA, hXA, hXA2⟩ : ∃ XA, (if k = r then (some ⟨g, 0, none⟩ : Option Addr) else some ⟨g, r, none⟩) = XA ∧ Hid (0 < m → XA = some ⟨g, r, none⟩) := ⟨_, rfl, fun h => if_neg (by omega)⟩
      have hhi3 := hM3.hle
      have hw13 := hb3.size
      go_wp2
      go_loop [53] (fun i => ∃ j : Nat, j ≤ m ∧ i = .int .i64 j ∧ Hid (∀ i, r ≤ i → i < r + j → X.1 i L = 0)) (fun i => m - (intOf i).toNat)
      case atStart => exact ⟨0, by omega, rfl, fun i h1 h2 => by omega⟩
      case round =>
        obtain ⟨j, hj, rfl, hs⟩ := hrel
        by_cases hlj : j < m
        · have hjm : (j : Int) < m := by omega
          obtain rfl := hXA2.out (by omega)
          have q1 := hM3.topAt (r := r + j) (by omega)
          have q2 := hM3.cellAt (r := r + j) (j := L) (by omega) (by omega)
          have hLL : (L : Int) < (L : Int) + 1 := by omega
          have hnb := n_bne (X.1 (r + j) L)
          by_cases hz : X.1 (r + j) L = 0
          · rw [decide_eq_true hz] at hnb
            have HZ := Lib.hid hz
            clear hz
            go_wp2
            go_round
            case rel =>
              refine ⟨j + 1, by omega, by go_num, fun i h1 h2 => ?_⟩
              by_cases e : i = r + j
              · rw [e]; exact HZ.out
              · exact hs.out i h1 (by omega)
            case measure => simp [intOf]; omega
          · rw [decide_eq_false hz] at hnb
            have HC : Hid (¬ Cons X k L) := fun hc => hz (hc (r + j) (by rw [← hrl.out]; omega) (by omega))
            clear hz
            go_wp2
            go_ret2
            rw [HX.out]
            exact ⟨.inr ⟨HC.out, rfl⟩, hbel3⟩
        · have HC : Hid (Cons X k L) := fun i h1 h2 => hs.out i (by rw [hrl.out]; exact h1) (by omega)
          go_wp2_with (at_make; refine wpList_make_full _ rfl _ _ 22 rfl w3.heap.size 5 i0 (.int .u8 0) 1 Try.underlying22 hi0 hz0 hz1 _ _ _ _ L rfl rfl rfl rfl (by rw [hz2]; omega) (by unfold maxLen; omega) (Nat.le_refl _) ?_; intro w4 hown4 hgrow4)
          have e0 : madeCells (Value.int .u8 0).cells (L * 1) = madeCells #[.int .u8 0] L := by rw [Nat.mul_one]; rfl
          rw [e0, toList_madeCells_one, ← cs_replicate] at hown4
          have hb4 := (Below.refl w3.heap.size w3).grown hgrow4 (Nat.le_refl _) (fun z e => by cases e)
          go_loopw [67] (fun i wr2 => ∃ (j2 : Nat) (xl : List F), j2 ≤ r ∧ i = .int .i64 j2 ∧ wr2.ownsRow w3.heap.size 5 1 (.slice (some ⟨w3.heap.size, 0, none⟩) L L) L (cs xl) ∧ Below w3.heap.size w3 wr2 ∧ Hid (SolTo L X.1 X.2 j2 xl)) (fun i _ => r - (intOf i).toNat)
          case atStart => exact ⟨0, _, by omega, rfl, hown4, hb4, SolTo.start _ _ _⟩
          case round =>
            clear hown4 hgrow4 hb4 e0
            obtain ⟨j2, xl, hj2, rfl, hown4, hb4, hsol⟩ := hrel
            by_cases hlj2 : j2 < r
            · have hjr : (j2 : Int) < r := by omega
              have hp := own_below hown hb4
              obtain ⟨gp, cp, hv, hgp1, hgp2⟩ := hp.form (by omega)
              injection hv with hv1 _ hv3
              subst hv1 hv3
              have qp := (RowV.own hp).cell hlj2
              have hlx : j2 < X.2.length := by rw [← hrl.out]; exact hlj2
              have hpv : (pivC X.2).getD j2 undef = .int .i64 ((X.2[j2] : Nat) : Int) := by
                unfold pivC
                rw [List.getD_eq_getElem?_getD, List.getElem?_map, List.getElem?_eq_getElem hlx]
                rfl
              rw [hpv] at qp
              have hcl : X.2[j2] < L := hrref.out.lt _ (List.getElem_mem hlx)
              obtain ⟨c, hc⟩ : ∃ c, c = X.2[j2] := ⟨_, rfl⟩
              rw [← hc] at qp hcl
              have hM4 := hM3.below (hb4.mono hhi3)
              have q1 := hM4.topAt (r := j2) (by omega)
              have q2 := hM4.cellAt (r := j2) (j := L) (by omega) (by omega)
              have hLL : (L : Int) < (L : Int) + 1 := by omega
              have hcL : (c : Int) < L := by omega
              have hlen4 := own_len hown4
              have qx := hown4.cellAt c (by omega)
              rw [cs_at (by omega)] at qx
              have fx := hown4.frozenAt c
              have hst := Lib.hid (hown4.stored c (.int .u8 (X.1 j2 L).n)).1
              have hsol2 : Hid (SolTo L X.1 X.2 (j2 + 1) (xl.set c (X.1 j2 L))) := by
                rw [hc]
                exact hsol.out.step hlx hrref.out.inc (by rw [← hc]; exact hcl)
              clear hc hpv hM4 hp hown4 hsol hlen4
              go_wp2
              go_roundw
              case rel =>
                refine ⟨j2 + 1, _, by omega, by go_num, ?_, hb4.setCell (Nat.le_refl _) _, hsol2⟩
                have h := hst.out
                rw [cs_set] at h
                exact h
              case measure => simp [intOf]; omega
            · obtain rfl : j2 = r := by omega
              have hfin : Hid (SolX L X.1 X.2 (gt xl)) := by
                have h := hsol.out
                rw [hrl.out] at h
                exact h.fin
              go_wp2
              go_ret2
              rw [HX.out]
              exact ⟨.inl ⟨HC.out, _, xl, rfl, hown4.mono hbel3.size, hfin.out⟩, hbel3.trans (hb4.mono hbel3.size)⟩
end Go.Proofs.Ytcodgamhgfafnaa
