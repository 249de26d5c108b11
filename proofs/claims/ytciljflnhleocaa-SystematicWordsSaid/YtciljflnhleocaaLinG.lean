/-
  THE CONTRACT OF linear.Inverse. Rows and columns of at most 2^20.
-/
import Derived.Test.YtciljflnhleocaaLinF
namespace Go.Proofs.Ytciljflnhleocaa
open Go.RowKit
set_option maxRecDepth 100000
set_option linter.unusedVariables false

theorem Row.keptLo {w w' : World} {A : Option Addr} {n b lo : Nat} {l : List F} (h : Row w A n l) (hg : w.grownBy w' (some b)) (hA : ∀ z, A = some z → lo ≤ z.block) (hb : b < lo) : Row w' A n l :=
  h.kept hg (fun z e e2 => by injection e2 with e2; have := hA z e; omega)
set_option maxHeartbeats 1000000 in
theorem Inverse_no {w : World} {A : Option Addr} {n cap : Nat} {RA : Nat → Option Addr} {RL RC : Nat → Nat} {R : Nat → List F} (h : MIn w A n cap RA RL RC R) (hr : ¬ (isR n RL ∧ n = wid n RL)) (hw : wid n RL ≤ 9223372036854775807) :
    Calls Try.prog 40 #[.slice A n cap] w fun e w' => e = .returned (.tuple #[.slice none 0 0, .bool false]) ∧ w = w' := by
  have h1 := Right_c h
  have hnm := h.nmax
  have hwi := width_w h
  by_cases hr1 : isR n RL
  · have hne : ((n : Int) != (wid n RL : Int)) = true := by
      rw [bne_iff_ne]
      intro e
      exact hr ⟨hr1, by omega⟩
    rw [decide_eq_true hr1] at h1
    have H1 := Lib.hid h1
    generalize wid n RL = L at *
    clear h1 hr hr1
    go_enter Try.func40, Try.ntmps40
    go_wp2_with (first
      | (go_at_call 14; refine H1.out.mono ?_; rintro e w' ⟨rfl, rfl⟩)
      | (go_at_call 43; refine hwi.mono ?_; rintro e w' ⟨rfl, rfl⟩))
    go_ret2
    exact ⟨rfl, rfl⟩
  · rw [decide_eq_false hr1] at h1
    have H1 := Lib.hid h1
    clear h1 hr hr1
    go_enter Try.func40, Try.ntmps40
    go_wp2_with (go_at_call 14; refine H1.out.mono ?_; rintro e w' ⟨rfl, rfl⟩)
    go_ret2
    exact ⟨rfl, rfl⟩
/-- so far as the ones are laid behind -/
def idTo (n : Nat) (M : Nat → Nat → F) (k : Nat) : Nat → Nat → F := fun r j => if r < k ∧ j = n + r then 1 else M r j
theorem idTo_zero (n : Nat) (M : Nat → Nat → F) : idTo n M 0 = M := by
  funext r j
  exact if_neg (by omega)
theorem idTo_next (n : Nat) (M : Nat → Nat → F) (k : Nat) (r j : Nat) : idTo n M (k + 1) r j = (fun s => if s = k then (fun j => if j = n + k then 1 else M k j) else idTo n M k s) r j := by
  unfold idTo
  show _ = (if r = k then (fun j => if j = n + k then 1 else M k j) else fun j => if r < k ∧ j = n + r then 1 else M r j) j
  by_cases h : r = k
  · subst h
    rw [if_pos rfl]
    show _ = if j = n + r then 1 else M r j
    by_cases hj : j = n + r
    · rw [if_pos ⟨by omega, hj⟩, if_pos hj]
    · rw [if_neg (fun e => hj e.2), if_neg hj]
  · rw [if_neg h]
    show _ = if r < k ∧ j = n + r then 1 else M r j
    by_cases h2 : r < k ∧ j = n + r
    · rw [if_pos h2, if_pos ⟨by omega, h2.2⟩]
    · rw [if_neg h2, if_neg (fun e => h2 ⟨by omega, e.2⟩)]
theorem idTo_all {n : Nat} {R : Nat → List F} (hl : ∀ r, r < n → (R r).length = n) : ∀ r, r < n → ∀ j, idTo n (mat R) n r j = augI n (mat R) r j := fun r hr j => by
  unfold idTo augI
  by_cases h : j < n
  · rw [if_neg (fun e => by omega), if_pos h]
  · rw [if_neg h]
    by_cases h2 : j = n + r
    · rw [if_pos ⟨hr, h2⟩, if_pos h2]
    · rw [if_neg (fun e => h2 e.2), if_neg h2]
      exact gt_ge (by rw [hl r hr]; omega)
/-- what stands behind -/
def behind (n : Nat) (M : Nat → Nat → F) : Nat → List F := fun r => mkF (fun j => M r (n + j)) n
/-- what Inverse answers -/
def InvRes (w w' : World) (n : Nat) (X : (Nat → Nat → F) × List Nat) (e : Ending) : Prop :=
  (X.2.length = n ∧ ∃ g RA RC, e = .returned (.tuple #[.slice (some ⟨g, 0, none⟩) n n, .bool true]) ∧ MIn w' (some ⟨g, 0, none⟩) n n RA (fun _ => n) RC (behind n X.1)) ∨
  (X.2.length < n ∧ e = .returned (.tuple #[.slice none 0 0, .bool false]))
set_option maxHeartbeats 4000000 in
theorem Inverse_yes {w : World} {A : Option Addr} {n cap : Nat} {RA : Nat → Option Addr} {RL RC : Nat → Nat} {R : Nat → List F} (h : MIn w A n cap RA RL RC R) (hr : isR n RL) (hnw : n = wid n RL) (hn : n ≤ 1048576) :
    Calls Try.prog 40 #[.slice A n cap] w fun e w' => InvRes w w' n (redTo (augI n (mat R)) n n) e ∧ Below w.heap.size w w' := by
  have h1 := Right_c h
  rw [decide_eq_true hr] at h1
  have H1 := Lib.hid h1
  have hall := hr.all
  rw [← hnw] at hall
  have HA := Lib.hid hall
  have hwi := width_w h
  rw [← hnw] at hwi
  have HWI := Lib.hid hwi
  have hlen : Hid (∀ r, r < n → (R r).length = n) := fun r hr => by rw [(h.row r hr).row.len, hall r hr]
  have hne : ((n : Int) != (n : Int)) = false := by simp
  clear h1 hr hnw hall hwi
  go_enter Try.func40, Try.ntmps40
  go_wp2_with (first
    | (go_at_call 14; refine H1.out.mono ?_; rintro e w' ⟨rfl, rfl⟩)
    | (go_at_call 43; refine HWI.out.mono ?_; rintro e w' ⟨rfl, rfl⟩))
  refine (widened_c h HA.out n (by omega) (by omega)).mono ?_
  rintro e w1 ⟨g, G, rfl, hM, hb1⟩
  obtain ⟨hi, hhi⟩ : ∃ hi, hi = w1.heap.size := ⟨_, rfl⟩
  rw [← hhi] at hM
  have hs1 := hb1.size
  clear hhi
  obtain ⟨C, hC⟩ : ∃ C, C = n + n := ⟨_, rfl⟩
  rw [← hC] at hM
  have hC20 : C ≤ 2097152 := by omega
  have HC := Lib.hid hC
  have hM0 : Mat w1 w.heap.size hi g n C (fun _ => C) G (idTo n (mat R) 0) := by rw [idTo_zero]; exact hM
  clear hM hC
  go_wp2
  go_loopw [27] (fun i wr => ∃ k : Nat, k ≤ n ∧ i = .int .i64 k ∧ Mat wr w.heap.size hi g n C (fun _ => C) G (idTo n (mat R) k) ∧ Below w.heap.size w wr) (fun i _ => n - (intOf i).toNat)
  case atStart => exact ⟨0, by omega, rfl, hM0, hb1⟩
  case round =>
    clear hM0 hb1
    obtain ⟨k, hk, rfl, hM, hbel⟩ := hrel
    by_cases hlt : k < n
    · have hkn : (k : Int) < n := by omega
      have hCn := HC.out
      obtain ⟨m, hm⟩ : ∃ m, m = n + k := ⟨_, rfl⟩
      have hmi : (n : Int) + (k : Int) = (m : Int) := by omega
      have hmC : m < C := by omega
      have hmCi : (m : Int) < C := by omega
      have q1 := hM.topAt hlt
      have q2 := hM.cellAt hlt hmC
      have fz := (hM.rows k hlt).frozen m
      have hst := (hM.rows k hlt).set m (.int .u8 (1 : F).n)
      have hM2 := Lib.hid ((hM.change hlt (setCell_grown wr (G k) m (.int .u8 (1 : F).n)) (f := fun j => if j = n + k then 1 else mat R k j) (hst.congr fun j hj => by
        by_cases e : j = m
        · subst e; rw [if_pos rfl, if_pos hm]
        · rw [if_neg e, if_neg (by omega)]
          unfold idTo
          rw [if_neg (fun e => by omega)])).congr (fun r hr j hj => (idTo_next n (mat R) k r j).symm))
      have hgl := (hM.rlo k hlt).1
      clear hst hM hm hCn
      go_wp2
      go_roundw
      case rel => exact ⟨k + 1, by omega, by go_num, hM2.out, hbel.setCell hgl _⟩
      case measure => simp [intOf]; omega
    · obtain rfl : k = n := by omega
      have hMa := hM.congr (fun r hr j _ => idTo_all hlen.out r hr j)
      clear hM
      generalize hX : redTo (augI k (mat R)) k k = X
      have hred := reduce_c hMa (Nat.le_refl k) (by unfold maxLen; omega) k (by have := HC.out; omega) (by omega) (by omega)
      rw [Int.toNat_natCast, hX] at hred
      have hrref : Hid (Rref k k X.1 X.2) := by rw [← hX]; exact redTo_rref _ _ _
      have HX := Lib.hid hX
      clear hMa hX
      go_wp2_with fail
      refine hred.mono ?_
      rintro e w3 ⟨P, r, pc, rfl, ⟨K', G', hrl, hown, hM3⟩, hb3⟩
      have hbel3 := hbel.trans hb3
      have hrn : r ≤ k := by rw [hrl.out]; exact hrref.out.len
      by_cases hlr : r < k
      · have hlri : (r : Int) < k := by omega
        have HLR : Hid (X.2.length < k) := by unfold Hid; rw [← hrl.out]; exact hlr
        clear hown hM3 hb3 hlr
        go_wp2
        go_ret2
        rw [HX.out]
        exact ⟨.inr ⟨HLR.out, rfl⟩, hbel3⟩
      · have HLR : Hid (X.2.length = k) := by unfold Hid; rw [← hrl.out]; omega
        obtain rfl : k = r := by omega
        clear hown hlr
        have hMS : Hid (Mat w3 w.heap.size hi g k C K' G' X.1) := hM3
        have htop3 := hM3.top
        have hhi3 := hM3.hle
        have hglo := hM3.glo
        go_wp2
        go_loopw [46] (fun i wr2 => ∃ (j : Nat) (CA : Nat → Option Addr) (CC : Nat → Nat), j ≤ k ∧ i = .int .i64 j ∧ RowV wr2 g k (fun s => if s < j then .slice (CA s) k (CC s) else .slice (some ⟨G' s, 0, none⟩) C (K' s)) ∧
          Hid (∀ s, s < j → RowIn wr2 (CA s) k (CC s) (behind k X.1 s) ∧ ∀ z, CA s = some z → hi ≤ z.block) ∧ Hid (∀ s, s < k → RowV wr2 (G' s) C fun j => .int .u8 (X.1 s j).n) ∧ Hid (Below w.heap.size w3 wr2 ∧ w3.heap.size ≤ wr2.heap.size)) (fun i _ => k - (intOf i).toNat)
        case atStart => exact ⟨0, fun _ => none, fun _ => 0, by omega, rfl, htop3.congr fun s hs => by rw [if_neg (by omega)], fun s hs => by omega, hM3.rows, Below.refl _ _, Nat.le_refl _⟩
        case round =>
          clear htop3
          obtain ⟨j, CA, CC, hj, rfl, htop, hdone, hrows, hb4⟩ := hrel
          by_cases hlj : j < k
          · have hjk : (j : Int) < k := by omega
            have q1 := htop.cell hlj
            rw [if_neg (by omega)] at q1
            have hCk := HC.out
            obtain ⟨hK1, hK2⟩ := hMS.out.cap j hlj
            unfold maxLen at hK2
            have hKne : K' j ≠ k := by omega
            have hCki : (k : Int) ≤ C := by omega
            have hsubC : C - k = k := by omega
            have hrow : Row wr (some ⟨G' j, k, none⟩) k (behind k X.1 j) := (hrows.out j hlj).row (by unfold maxLen; omega) (by omega)
            have hgne := Lib.hid hMS.out.gne
            have hwrs := hb4.out.2
            clear hCk
            go_wp2_with fail
            refine (Clone_c _ k _ (behind k X.1 j) wr hrow (by omega)).mono ?_
            rintro e w5 ⟨A5, c5, rfl, hown5, hb5⟩
            have htop5 := htop.below hb5 htop.lt
            have fz := htop5.frozen j
            have q5 := htop5.cell hlj
            rw [if_neg (by omega)] at q5
            have hgr := setCell_grown w5 g j (.slice A5 k c5)
            have htop6 := Lib.hid (htop5.set j (.slice A5 k c5))
            have hin5 := own_in hown5
            have hA5 : ∀ z, A5 = some z → hi ≤ z.block := fun z e => by
              subst e
              have := (hown5.lt z.block rfl).1
              omega
            have hdone6 : Hid (∀ s, s < j + 1 → RowIn (w5.setCell ⟨g, j, none⟩ (.slice A5 k c5)) ((fun s => if s = j then A5 else CA s) s) k ((fun s => if s = j then c5 else CC s) s) (behind k X.1 s) ∧ ∀ z, (fun s => if s = j then A5 else CA s) s = some z → hi ≤ z.block) := by
              intro s hs
              by_cases e : s = j
              · subst e
                simp only [if_pos]
                exact ⟨⟨hin5.row.keptLo hgr hA5 (by omega), hin5.le, hin5.max⟩, hA5⟩
              · simp only [if_neg e]
                obtain ⟨h1, h2⟩ := hdone.out s (by omega)
                exact ⟨⟨(h1.below hb5).row.keptLo hgr h2 (by omega), h1.le, h1.max⟩, h2⟩
            have hrows6 : Hid (∀ s, s < k → RowV (w5.setCell ⟨g, j, none⟩ (.slice A5 k c5)) (G' s) C fun j => .int .u8 (X.1 s j).n) := fun s hs =>
              ((hrows.out s hs).below hb5 (hrows.out s hs).lt).setOther (by exact hgne.out s hs) _
            have hb6 : Hid (Below w.heap.size w3 (w5.setCell ⟨g, j, none⟩ (.slice A5 k c5)) ∧ w3.heap.size ≤ (w5.setCell ⟨g, j, none⟩ (.slice A5 k c5)).heap.size) := by
              have h1 : Below w.heap.size w3 (w5.setCell ⟨g, j, none⟩ (.slice A5 k c5)) := (hb4.out.1.trans (hb5.mono (by omega))).setCell (show w.heap.size ≤ g from hglo.1) _
              exact ⟨h1, h1.size⟩
            clear htop htop5 hdone hrows hb4 hrow hown5 hb5 hin5 q1 hgr
            go_wp2
            go_roundw
            case rel =>
              refine ⟨j + 1, _, _, by omega, by go_num, htop6.out.congr fun s hs => ?_, hdone6, hrows6, hb6⟩
              by_cases e : s = j
              · subst e; rw [if_pos rfl, if_pos (by omega), if_pos rfl, if_pos rfl]
              · rw [if_neg e, if_neg e, if_neg e]
                by_cases e2 : s < j
                · rw [if_pos e2, if_pos (by omega)]
                · rw [if_neg e2, if_neg (by omega)]
            case measure => simp [intOf]; omega
          · obtain rfl : j = k := by omega
            have hmin : Hid (MIn wr (some ⟨g, 0, none⟩) j j CA (fun _ => j) CC (behind j X.1)) := ⟨Nat.le_refl _, by unfold maxLen; omega, fun _ => ⟨g, 0, rfl, htop.lt, fun s hs => by
              have h := htop.cell hs
              rw [if_pos hs] at h
              rw [Nat.zero_add]
              exact h⟩, fun s hs => (hdone.out s hs).1⟩
            have hb5 := hbel3.trans hb4.out.1
            clear htop
            go_wp2
            go_ret2
            rw [HX.out]
            exact ⟨.inl ⟨HLR.out, g, CA, CC, rfl, hmin.out⟩, hb5⟩
end Go.Proofs.Ytciljflnhleocaa
