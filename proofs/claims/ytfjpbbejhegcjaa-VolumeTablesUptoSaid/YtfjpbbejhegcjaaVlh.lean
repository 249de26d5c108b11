/-
  VOLUMES: Clone. No conditions (but for how many slots there are, and bytes).
-/
import Derived.Test.YtfjpbbejhegcjaaVlg
namespace Go.Proofs.Ytfjpbbejhegcjaa
open Go.RowKit
set_option maxRecDepth 100000
set_option linter.unusedVariables false

/-- a table's cells -/
def tcs (TH : Nat → Bool) (RA : Nat → Option Addr) (RL RC : Nat → Nat) : Nat → List Value
  | 0 => []
  | k + 1 => tcs TH RA RL RC k ++ [.bool (TH k), .slice (RA k) (RL k) (RC k)]
section
variable {TH : Nat → Bool} {RA : Nat → Option Addr} {RL RC : Nat → Nat} {R : Nat → List F}
theorem tcs_length : ∀ n, (tcs TH RA RL RC n).length = n * 2
  | 0 => rfl
  | k + 1 => by
    show (tcs TH RA RL RC k ++ _).length = _
    rw [List.length_append, tcs_length k]
    simp
    omega
theorem tcs_at : ∀ n r, r < n → (tcs TH RA RL RC n)[r * 2]? = some (.bool (TH r)) ∧ (tcs TH RA RL RC n)[r * 2 + 1]? = some (.slice (RA r) (RL r) (RC r))
  | 0, _, h => absurd h (by omega)
  | k + 1, r, h => by
    have hl := tcs_length (TH := TH) (RA := RA) (RL := RL) (RC := RC) k
    show (tcs TH RA RL RC k ++ [.bool (TH k), .slice (RA k) (RL k) (RC k)])[r * 2]? = _ ∧ (tcs TH RA RL RC k ++ [.bool (TH k), .slice (RA k) (RL k) (RC k)])[r * 2 + 1]? = _
    by_cases e : r = k
    · subst e
      rw [List.getElem?_append_right (by omega), List.getElem?_append_right (by omega), hl, Nat.sub_self, show r * 2 + 1 - r * 2 = 1 by omega]
      exact ⟨rfl, rfl⟩
    · obtain ⟨h1, h2⟩ := tcs_at k r (by omega)
      rw [List.getElem?_append_left (by omega), List.getElem?_append_left (by omega)]
      exact ⟨h1, h2⟩
theorem tcs_one : ∀ n, ∀ u ∈ tcs TH RA RL RC n, u.oneCell' = true
  | 0, u, h => by cases h
  | k + 1, u, h => by
    rcases List.mem_append.1 h with h | h
    · exact tcs_one k u h
    · rcases List.mem_cons.1 h with rfl | h
      · rfl
      · rcases List.mem_cons.1 h with rfl | h
        · rfl
        · cases h
theorem tcs_cells {w : World} {b off : Nat} {n : Nat} (h : ∀ r, r < n → w.cell? ⟨b, off + r * 2, none⟩ = some (.bool (TH r)) ∧ w.cell? ⟨b, off + r * 2 + 1, none⟩ = some (.slice (RA r) (RL r) (RC r))) : ∀ j u, (tcs TH RA RL RC n)[j]? = some u → w.cell? ((⟨b, off, none⟩ : Addr).add j) = some u := by
  intro j u hu
  have hj : j < n * 2 := by rw [← tcs_length (TH := TH) (RA := RA) (RL := RL) (RC := RC) n]; exact (List.getElem?_eq_some_iff.1 hu).1
  have e : (⟨b, off, none⟩ : Addr).add j = ⟨b, off + j, none⟩ := by unfold Addr.add; split <;> simp_all
  rw [e]
  obtain ⟨h1, h2⟩ := tcs_at (TH := TH) (RA := RA) (RL := RL) (RC := RC) n (j / 2) (by omega)
  obtain ⟨g1, g2⟩ := h (j / 2) (by omega)
  rcases (show j = j / 2 * 2 ∨ j = j / 2 * 2 + 1 by omega) with e2 | e2
  · rw [e2] at hu ⊢
    rw [h1] at hu
    rw [g1, ← hu]
  · rw [e2] at hu ⊢
    rw [h2] at hu
    rw [← Nat.add_assoc, g2, ← hu]
end
theorem own_shape2 {w : World} {base n s : Nat} {e : TypeId} {v : Value} {xs : List Value} (h : w.ownsRow base e s v n xs) : ∃ A c, v = .slice A n c ∧ (n ≤ c ∧ c ≤ maxLen) ∧ (0 < n → ∃ g, A = some ⟨g, 0, none⟩ ∧ base ≤ g) := by
  rcases h.2 with ⟨rfl, rfl⟩ | ⟨g, cap, _, rfl, hb, _, h1, h2, _⟩
  · exact ⟨none, 0, rfl, ⟨Nat.le_refl _, by unfold maxLen; omega⟩, fun h => absurd h (by omega)⟩
  · exact ⟨_, cap, rfl, ⟨h1, h2⟩, fun _ => ⟨g, rfl, hb⟩⟩
theorem RowV.own2 {w : World} {base b n c s : Nat} {e : TypeId} {xs : List Value} (h : w.ownsRow base e s (.slice (some ⟨b, 0, none⟩) n c) n xs) : RowV w b (n * s) (fun i => xs.getD i undef) := by
  rcases h.2 with ⟨hv, _⟩ | ⟨g, cap, cur, hv, _, hg, hnc, _, hsz, ht⟩
  · injection hv with h1; cases h1
  · injection hv with h1 _ h3
    injection h1 with h1
    injection h1 with h1 _ _
    subst h1
    have hl := h.1
    have hle : n * s ≤ cap * s := Nat.mul_le_mul_right _ hnc
    refine ⟨cur, e, hg, by omega, fun i hi => ?_⟩
    have h2 : xs[i]? = cur[i]? := by
      rw [← ht, List.getElem?_take, if_pos (by omega)]
      simp
    rw [← h2, List.getElem?_eq_getElem (by omega)]
    simp [show i < xs.length by omega]
theorem info_sl : (Try.prog.info? 27).map (fun i => (i.zero, i.size, i.bytes)) = some (some (.agg #[.bool false, .slice none 0 0]), 2, 32) := by kernel_rfl
/-- what Clone answers -/
def ClR (w : World) (n : Nat) (TH : Nat → Bool) (RL : Nat → Nat) (R : Nat → List F) (e : Ending) (w' : World) : Prop :=
  ∃ (A' : Option Addr) (c' : Nat) (RA' : Nat → Option Addr) (RC' : Nat → Nat), e = .returned (.slice A' n c') ∧ TIn w' A' n c' TH RA' RL RC' R ∧ Below w.heap.size w w'
theorem ClR.of {w : World} {n : Nat} {TH : Nat → Bool} {RL : Nat → Nat} {R : Nat → List F} {e : Ending} {w' : World} (A' : Option Addr) (c' : Nat) (RA' : Nat → Option Addr) (RC' : Nat → Nat) (h1 : e = .returned (.slice A' n c')) (h2 : TIn w' A' n c' TH RA' RL RC' R) (h3 : Below w.heap.size w w') : ClR w n TH RL R e w' := ⟨A', c', RA', RC', h1, h2, h3⟩
/-- the cells of a table whose first k rows are others -/
def tcf (TH : Nat → Bool) (RA : Nat → Option Addr) (RL RC : Nat → Nat) (RA' : Nat → Option Addr) (RC' : Nat → Nat) (k i : Nat) : Value :=
  if i % 2 = 0 then .bool (TH (i / 2)) else if i / 2 < k then .slice (RA' (i / 2)) (RL (i / 2)) (RC' (i / 2)) else .slice (RA (i / 2)) (RL (i / 2)) (RC (i / 2))
theorem CloneS_c {w : World} {A : Option Addr} {n cap : Nat} {TH : Nat → Bool} {RA : Nat → Option Addr} {RL RC : Nat → Nat} {R : Nat → List F} (h : TIn w A n cap TH RA RL RC R) (hn : n ≤ 1000) :
    Calls Try.prog 25 #[.slice A n cap] w fun e w' => ∃ v, e = .returned v ∧ w'.ownsRow w.heap.size 27 2 v n (tcs TH RA RL RC n) ∧ Below w.heap.size w w' := by
  obtain ⟨i0, hi, hz0, hz1, hz2⟩ := info_parts info_sl
  have q22 : ∀ (w : World) (a : Option Addr) (n c n' c' : Nat), (binOp .eql 22 (.slice a n c) (.slice none n' c')).run Try.prog w = .ok (.bool a.isNone) w := fun w a n c n' c' => Lib.run_eql_slice_nil w _ _ a n c n' c' Try.underlying22
  cases A with
  | none =>
    have hn0 : n = 0 := by
      rcases Nat.eq_zero_or_pos n with e | e
      · exact e
      · obtain ⟨b, off, e2, _⟩ := h.top e
        cases e2
    subst hn0
    go_enter Try.func25, Try.ntmps25
    go_wp2
    go_ret
    exact ⟨_, rfl, World.ownsRow_nil _ _ _ _, Below.refl _ _⟩
  | some ad =>
    have hb := (Below.refl w.heap.size w).alloc (Nat.le_refl _) (.cells #[] 27)
    have h1 : ∀ j u, (tcs TH RA RL RC n)[j]? = some u → (w.alloc (.cells #[] 27)).cell? (ad.add j) = some u := by
      rcases Nat.eq_zero_or_pos n with e | e
      · subst e
        intro j u hu
        simp [tcs] at hu
      · obtain ⟨b, off, e2, _, hc⟩ := (h.below hb).top e
        injection e2 with e2
        subst e2
        exact tcs_cells hc
    have HC := Lib.hid h1
    clear h1 h hb
    go_enter Try.func25, Try.ntmps25
    go_wp2_with (at_builtin; refine wpList_append_own _ rfl _ _ 22 rfl w.heap.size 27 i0 (.agg #[.bool false, .slice none 0 0]) 2 32 Try.underlying22 hi hz0 hz1 hz2 rfl (by decide) _ _ _ rfl (World.ownsRow_made w #[] 0 (Nat.le_refl _) (Nat.zero_le _) rfl) ad n cap (tcs TH RA RL RC n) rfl (tcs_length n) HC.out (tcs_one n) (by unfold maxLen; omega) (by omega) (by simp) ?_; intro v' w1 hown hgrow hnil)
    go_ret
    refine ⟨_, rfl, by simpa using hown, ?_⟩
    exact ((Below.refl _ w).alloc (Nat.le_refl _) _).grown hgrow (by simp) (fun k hk => by cases hk; exact Nat.le_refl _)
set_option maxHeartbeats 4000000 in
theorem CloneT_c {w : World} {A : Option Addr} {n cap : Nat} {TH : Nat → Bool} {RA : Nat → Option Addr} {RL RC : Nat → Nat} {R : Nat → List F} (h : TIn w A n cap TH RA RL RC R) (hn : n ≤ 1000) (hl : ∀ r, r < n → RL r ≤ 1048576) :
    Calls Try.prog 12 #[.slice A n cap] w fun e w' => ClR w n TH RL R e w' := by
  have H := Lib.hid h
  have HL := Lib.hid hl
  have HC := Lib.hid (CloneS_c h hn)
  clear h hl
  go_enter Try.func12, Try.ntmps12
  go_wp2_with fail
  refine HC.out.mono ?_
  rintro e w1 ⟨v, rfl, hown, hb1⟩
  obtain ⟨A1, c1, rfl, hc1, hA1⟩ := own_shape2 hown
  have HB1 := Lib.hid hb1
  clear hb1 HC
  rcases Nat.eq_zero_or_pos n with hz | hz
  · subst hz
    have HT : Hid (∀ w', TIn w' A1 0 c1 TH RA RL RC R) := fun w' => ⟨Nat.zero_le _, hc1.2, fun h => absurd h (by omega), fun r hr => absurd hr (by omega)⟩
    clear hown hA1 hc1
    go_wp2
    go_loopw [9] (fun iv wr => iv = .int .i64 0 ∧ Hid (Below w.heap.size w wr)) (fun iv _ => 0)
    case atStart => exact ⟨rfl, HB1⟩
    case round =>
      obtain ⟨rfl, hb⟩ := hrel
      go_wp2
      go_ret
      exact ClR.of A1 c1 RA RC rfl (HT.out _) hb.out
  · obtain ⟨g, rfl, hg0⟩ := hA1 hz
    have hV : RowV w1 g (n * 2) (tcf TH RA RL RC RA RC 0) := (RowV.own2 hown).congr fun i hi => by
      obtain ⟨h1, h2⟩ := tcs_at (TH := TH) (RA := RA) (RL := RL) (RC := RC) n (i / 2) (by omega)
      unfold tcf
      rw [List.getD_eq_getElem?_getD]
      rcases (show i = i / 2 * 2 ∨ i = i / 2 * 2 + 1 by omega) with e2 | e2
      · rw [if_pos (by omega)]
        rw [← e2] at h1
        rw [h1]
        rfl
      · rw [if_neg (by omega), if_neg (by omega)]
        rw [← e2] at h2
        rw [h2]
        rfl
    have HV := Lib.hid hV
    have HG0 := Lib.hid hg0
    clear hown hV hA1
    go_wp2
    go_loopw [9] (fun iv wr => ∃ (k : Nat) (RA' : Nat → Option Addr) (RC' : Nat → Nat), k ≤ n ∧ iv = .int .i64 k ∧ Hid (RowV wr g (n * 2) (tcf TH RA RL RC RA' RC' k)) ∧ Hid (∀ r, r < k → RowIn wr (RA' r) (RL r) (RC' r) (R r) ∧ ∀ b o, RA' r = some ⟨b, o, none⟩ → b ≠ g) ∧ Hid (Below w.heap.size w wr)) (fun iv _ => n - (intOf iv).toNat)
    case atStart => exact ⟨0, RA, RC, by omega, rfl, HV, fun r hr => absurd hr (by omega), HB1⟩
    case round =>
      obtain ⟨k, RA', RC', hk, rfl, hV, hR, hb⟩ := hrel
      by_cases hlt : k < n
      · have hkn : (k : Int) < n := by omega
        have hM := H.out.below hb.out
        obtain ⟨b1, o1, rfl, l1, q0, q1⟩ := hM.at_ hlt
        have hrow := (hM.row k hlt).row
        have hlk := HL.out k hlt
        have HC := Lib.hid (Clone_c (RA k) (RL k) (RC k) (R k) wr hrow (by omega))
        clear hM hrow
        go_wp2_with fail
        refine HC.out.mono ?_
        rintro e w4 ⟨A4, c4, rfl, hown4, hb4⟩
        have hV4 := hV.out.below hb4 hV.out.lt
        have hlt2 : k * 2 + 1 < n * 2 := by omega
        have x0 := hV4.cell hlt2
        have xf := hV4.frozen (k * 2 + 1)
        have hset := hV4.set (k * 2 + 1) (.slice A4 (RL k) c4)
        have hA4 := own_ne hown4 hV.out.lt
        have HV5 : Hid (RowV (w4.setCell ⟨g, k * 2 + 1, none⟩ (.slice A4 (RL k) c4)) g (n * 2) (tcf TH RA RL RC (fun r => if r = k then A4 else RA' r) (fun r => if r = k then c4 else RC' r) (k + 1))) := hset.congr fun i hi => by
          unfold tcf
          by_cases e : i = k * 2 + 1
          · have e3 : i / 2 = k := by omega
            rw [if_pos e, if_neg (by omega), e3, if_pos (by omega)]
            simp
          · rw [if_neg e]
            by_cases e2 : i % 2 = 0
            · rw [if_pos e2, if_pos e2]
            · rw [if_neg e2, if_neg e2]
              have e4 : i / 2 ≠ k := by omega
              by_cases e3 : i / 2 < k
              · rw [if_pos e3, if_pos (by omega)]
                simp [e4]
              · rw [if_neg e3, if_neg (by omega)]
        have HR5 : Hid (∀ r, r < k + 1 → RowIn (w4.setCell ⟨g, k * 2 + 1, none⟩ (.slice A4 (RL k) c4)) ((fun r => if r = k then A4 else RA' r) r) (RL r) ((fun r => if r = k then c4 else RC' r) r) (R r) ∧ ∀ b o, (fun r => if r = k then A4 else RA' r) r = some ⟨b, o, none⟩ → b ≠ g) := fun r hr => by
          by_cases e : r = k
          · subst e
            simp only [if_pos]
            exact ⟨(own_in hown4).setOtherV hA4 _, hA4⟩
          · simp only [if_neg e]
            obtain ⟨g1, g2⟩ := hR.out r (by omega)
            exact ⟨(g1.below hb4).setOtherV g2 _, g2⟩
        have HB5 : Hid (Below w.heap.size w (w4.setCell ⟨g, k * 2 + 1, none⟩ (.slice A4 (RL k) c4))) := (hb.out.trans (hb4.mono hb.out.size)).setCell (p := ⟨g, k * 2 + 1, none⟩) HG0.out _
        clear hV4 hset hA4 hown4 hb4 hV hR hb q0 q1 HC hlt2
        go_wp2
        go_roundw
        case rel => exact ⟨k + 1, _, _, by omega, by go_num, HV5, HR5, HB5⟩
        case measure => simp [intOf]; omega
      · obtain rfl : k = n := by omega
        have hMI : TIn wr (some ⟨g, 0, none⟩) k c1 TH RA' RL RC' R := ⟨hc1.1, hc1.2, fun h0 => ⟨g, 0, rfl, hV.out.lt, fun r hr => by
          have h5 := hV.out.cell (i := r * 2) (by omega)
          have h6 := hV.out.cell (i := r * 2 + 1) (by omega)
          unfold tcf at h5 h6
          rw [if_pos (by omega), show r * 2 / 2 = r by omega] at h5
          rw [if_neg (by omega), show (r * 2 + 1) / 2 = r by omega, if_pos hr] at h6
          rw [Nat.zero_add]
          exact ⟨h5, h6⟩⟩, fun r hr => (hR.out r hr).1⟩
        have HMI := Lib.hid hMI
        clear hMI hc1
        go_wp2
        go_ret
        exact ClR.of _ c1 RA' RC' rfl HMI.out hb.out
end Go.Proofs.Ytfjpbbejhegcjaa
