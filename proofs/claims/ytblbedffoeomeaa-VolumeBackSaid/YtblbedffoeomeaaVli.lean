/-
  VOLUMES: Clone, whose rows are the call's own, all different; a row whose bytes are turned. No conditions.
-/
import Derived.Test.YtblbedffoeomeaaVlh
namespace Go.Proofs.Ytblbedffoeomeaa
open Go.RowKit
set_option maxRecDepth 100000
set_option linter.unusedVariables false

theorem own_baseV {w : World} {b b' n s : Nat} {e : TypeId} {v : Value} {xs : List Value} (h : w.ownsRow b e s v n xs) (hb : b' ≤ b) : w.ownsRow b' e s v n xs := by
  obtain ⟨h1, h2⟩ := h
  refine ⟨h1, ?_⟩
  rcases h2 with h2 | ⟨g, cap, cur, hv, hg, r⟩
  · exact .inl h2
  · exact .inr ⟨g, cap, cur, hv, Nat.le_trans hb hg, r⟩
theorem own_setNe {w : World} {base n s : Nat} {e : TypeId} {v : Value} {xs : List Value} (h : w.ownsRow base e s v n xs) {a : Addr} (ha : ∀ k, v.ownBlock = some k → k ≠ a.block) (u : Value) : (w.setCell a u).ownsRow base e s v n xs := by
  obtain ⟨h1, h2⟩ := h
  refine ⟨h1, ?_⟩
  rcases h2 with h2 | ⟨g, cap, cur, hv, hg, hh, r⟩
  · exact .inl h2
  · have hne := ha g (by rw [hv]; rfl)
    exact .inr ⟨g, cap, cur, hv, hg, by rw [Below.heap_setCell _ _ _ _ hne]; exact hh, r⟩
/-- the first rows are one's own, and all different -/
def MyRows (w : World) (base g : Nat) (RA : Nat → Option Addr) (RL RC : Nat → Nat) (R : Nat → List F) (k : Nat) : Prop :=
  ∀ r, r < k → w.ownsRow base 5 1 (.slice (RA r) (RL r) (RC r)) (RL r) (cs (R r)) ∧ ∀ b, (Value.slice (RA r) (RL r) (RC r)).ownBlock = some b → b ≠ g ∧ b < w.heap.size ∧ ∀ s, s < r → (Value.slice (RA s) (RL s) (RC s)).ownBlock ≠ some b
/-- a table's cells by their places -/
def tcv (TH : Nat → Bool) (RA : Nat → Option Addr) (RL RC : Nat → Nat) (i : Nat) : Value :=
  if i % 2 = 0 then .bool (TH (i / 2)) else .slice (RA (i / 2)) (RL (i / 2)) (RC (i / 2))
/-- what Clone answers -/
def ClO (w : World) (n : Nat) (TH : Nat → Bool) (RL : Nat → Nat) (R : Nat → List F) (e : Ending) (w' : World) : Prop :=
  ∃ (A' : Option Addr) (c' : Nat) (RA' : Nat → Option Addr) (RC' : Nat → Nat), e = .returned (.slice A' n c') ∧ n ≤ c' ∧ c' ≤ maxLen ∧ Below w.heap.size w w' ∧ (0 < n → ∃ g, A' = some ⟨g, 0, none⟩ ∧ w.heap.size ≤ g ∧ RowV w' g (n * 2) (tcv TH RA' RL RC') ∧ MyRows w' w.heap.size g RA' RL RC' R n)
theorem ClO.of {w : World} {n : Nat} {TH : Nat → Bool} {RL : Nat → Nat} {R : Nat → List F} {e : Ending} {w' : World} (A' : Option Addr) (c' : Nat) (RA' : Nat → Option Addr) (RC' : Nat → Nat) (h1 : e = .returned (.slice A' n c')) (h2 : n ≤ c') (h3 : c' ≤ maxLen) (h4 : Below w.heap.size w w') (h5 : 0 < n → ∃ g, A' = some ⟨g, 0, none⟩ ∧ w.heap.size ≤ g ∧ RowV w' g (n * 2) (tcv TH RA' RL RC') ∧ MyRows w' w.heap.size g RA' RL RC' R n) : ClO w n TH RL R e w' := ⟨A', c', RA', RC', h1, h2, h3, h4, h5⟩
set_option maxHeartbeats 4000000 in
theorem CloneO_c {w : World} {A : Option Addr} {n cap : Nat} {TH : Nat → Bool} {RA : Nat → Option Addr} {RL RC : Nat → Nat} {R : Nat → List F} (h : TIn w A n cap TH RA RL RC R) (hn : n ≤ 1000) (hl : ∀ r, r < n → RL r ≤ 1048576) :
    Calls Try.prog 15 #[.slice A n cap] w fun e w' => ClO w n TH RL R e w' := by
  have H := Lib.hid h
  have HL := Lib.hid hl
  have HC := Lib.hid (CloneS_c h hn)
  clear h hl
  go_enter Try.func15, Try.ntmps15
  go_wp2_with fail
  refine HC.out.mono ?_
  rintro e w1 ⟨v, rfl, hown, hb1⟩
  obtain ⟨A1, c1, rfl, hc1, hA1⟩ := own_shape2 hown
  have HB1 := Lib.hid hb1
  clear hb1 HC
  rcases Nat.eq_zero_or_pos n with hz | hz
  · subst hz
    have HC1 := Lib.hid hc1
    clear hown hA1 hc1
    go_wp2
    go_loopw [9] (fun iv wr => iv = .int .i64 0 ∧ Hid (Below w.heap.size w wr)) (fun iv _ => 0)
    case atStart => exact ⟨rfl, HB1⟩
    case round =>
      obtain ⟨rfl, hb⟩ := hrel
      go_wp2
      go_ret
      exact ClO.of A1 c1 RA RC rfl HC1.out.1 HC1.out.2 hb.out (fun h => absurd h (by omega))
  · obtain ⟨g, rfl, hg0⟩ := hA1 hz
    have hV : RowV w1 g (n * 2) (tcf TH RA RL RC RA RC 0) := (RowV.own2 hown).congr fun i hi => by
      obtain ⟨h1, h2⟩ := tcs_at (TH := TH) (RA := RA) (RL := RL) (RC := RC) n (i / 2) (by omega)
      unfold tcf
      rw [List.getD_eq_getElem?_getD]
      rcases (show i = i / 2 * 2 ∨ i = i / 2 * 2 + 1 by omega) with e2 | e2
      · rw [if_pos (by omega)]
        rw [← e2] at h1
        rw [h1]
        rfl
      · rw [if_neg (by omega), if_neg (by omega)]
        rw [← e2] at h2
        rw [h2]
        rfl
    have HV := Lib.hid hV
    have HG0 := Lib.hid hg0
    clear hown hV hA1
    go_wp2
    go_loopw [9] (fun iv wr => ∃ (k : Nat) (RA' : Nat → Option Addr) (RC' : Nat → Nat), k ≤ n ∧ iv = .int .i64 k ∧ Hid (RowV wr g (n * 2) (tcf TH RA RL RC RA' RC' k)) ∧ Hid (MyRows wr w.heap.size g RA' RL RC' R k) ∧ Hid (Below w.heap.size w wr)) (fun iv _ => n - (intOf iv).toNat)
    case atStart => exact ⟨0, RA, RC, by omega, rfl, HV, fun r hr => absurd hr (by omega), HB1⟩
    case round =>
      obtain ⟨k, RA', RC', hk, rfl, hV, hR, hb⟩ := hrel
      by_cases hlt : k < n
      · have hkn : (k : Int) < n := by omega
        have hM := H.out.below hb.out
        obtain ⟨b1, o1, rfl, l1, q0, q1⟩ := hM.at_ hlt
        have hrow := (hM.row k hlt).row
        have hlk := HL.out k hlt
        have HC := Lib.hid (Clone_c (RA k) (RL k) (RC k) (R k) wr hrow (by omega))
        clear hM hrow
        go_wp2_with fail
        refine HC.out.mono ?_
        rintro e w4 ⟨A4, c4, rfl, hown4, hb4⟩
        have hV4 := hV.out.below hb4 hV.out.lt
        have hlt2 : k * 2 + 1 < n * 2 := by omega
        have x0 := hV4.cell hlt2
        have xf := hV4.frozen (k * 2 + 1)
        have hset := hV4.set (k * 2 + 1) (.slice A4 (RL k) c4)
        have hA4 := own_ne hown4 hV.out.lt
        have HV5 : Hid (RowV (w4.setCell ⟨g, k * 2 + 1, none⟩ (.slice A4 (RL k) c4)) g (n * 2) (tcf TH RA RL RC (fun r => if r = k then A4 else RA' r) (fun r => if r = k then c4 else RC' r) (k + 1))) := hset.congr fun i hi => by
          unfold tcf
          by_cases e : i = k * 2 + 1
          · have e3 : i / 2 = k := by omega
            rw [if_pos e, if_neg (by omega), e3, if_pos (by omega)]
            simp
          · rw [if_neg e]
            by_cases e2 : i % 2 = 0
            · rw [if_pos e2, if_pos e2]
            · rw [if_neg e2, if_neg e2]
              have e4 : i / 2 ≠ k := by omega
              by_cases e3 : i / 2 < k
              · rw [if_pos e3, if_pos (by omega)]
                simp [e4]
              · rw [if_neg e3, if_neg (by omega)]
        have HR5 : Hid (MyRows (w4.setCell ⟨g, k * 2 + 1, none⟩ (.slice A4 (RL k) c4)) w.heap.size g (fun r => if r = k then A4 else RA' r) RL (fun r => if r = k then c4 else RC' r) R (k + 1)) := fun r hr => by
          by_cases e : r = k
          · subst e
            simp only [if_pos]
            have hl4 := hown4.lt
            refine ⟨own_setNe (own_baseV hown4 hb.out.size) (fun q hq => by have := hl4 q hq; have := hV.out.lt; simp; omega) _, fun q hq => ⟨by have := hl4 q hq; have := hV.out.lt; omega, by have := hl4 q hq; simp [World.setCell]; omega, fun s hs e2 => ?_⟩⟩
            rw [if_neg (by omega), if_neg (by omega)] at e2
            have h9 := (hR.out s (by omega)).2 q e2
            have := hl4 q hq
            omega
          · simp only [if_neg e]
            obtain ⟨g1, g2⟩ := hR.out r (by omega)
            refine ⟨own_setNe (own_below g1 hb4) (fun q hq => by have := g2 q hq; simp; omega) _, fun q hq => ⟨(g2 q hq).1, by have := (g2 q hq).2.1; have := hb4.size; simp [World.setCell]; omega, fun s hs e2 => ?_⟩⟩
            rw [if_neg (by omega), if_neg (by omega)] at e2
            exact (g2 q hq).2.2 s hs e2
        have HB5 : Hid (Below w.heap.size w (w4.setCell ⟨g, k * 2 + 1, none⟩ (.slice A4 (RL k) c4))) := (hb.out.trans (hb4.mono hb.out.size)).setCell (p := ⟨g, k * 2 + 1, none⟩) HG0.out _
        clear hV4 hset hA4 hown4 hb4 hV hR hb q0 q1 HC hlt2
        go_wp2
        go_roundw
        case rel => exact ⟨k + 1, _, _, by omega, by go_num, HV5, HR5, HB5⟩
        case measure => simp [intOf]; omega
      · obtain rfl : k = n := by omega
        have hVV : RowV wr g (k * 2) (tcv TH RA' RL RC') := hV.out.congr fun i hi => by
          unfold tcf tcv
          by_cases e2 : i % 2 = 0
          · rw [if_pos e2, if_pos e2]
          · rw [if_neg e2, if_neg e2, if_pos (by omega)]
        have HVV := Lib.hid hVV
        have HC1 := Lib.hid hc1
        clear hVV hc1
        go_wp2
        go_ret
        exact ClO.of _ c1 RA' RC' rfl HC1.out.1 HC1.out.2 hb.out (fun _ => ⟨g, rfl, HG0.out, HVV.out, hR.out⟩)
theorem cs_setV (l : List F) (j : Nat) (x : F) : (cs l).set j (.int .u8 x.n) = cs (l.set j x) := by simp [cs, List.map_set]
theorem MyRows.store {w : World} {base g : Nat} {RA : Nat → Option Addr} {RL RC : Nat → Nat} {R : Nat → List F} {n : Nat} (h : MyRows w base g RA RL RC R n) {i : Nat} (hi : i < n) {q : Nat} (hq : RA i = some ⟨q, 0, none⟩) (j : Nat) (x : F) : MyRows (w.setCell ⟨q, j, none⟩ (.int .u8 x.n)) base g RA RL RC (fun r => if r = i then (R i).set j x else R r) n := by
  intro r hr
  obtain ⟨g1, g2⟩ := h r hr
  have hob : (Value.slice (RA i) (RL i) (RC i)).ownBlock = some q := by rw [hq]; rfl
  refine ⟨?_, fun b hb => ⟨(g2 b hb).1, by have := (g2 b hb).2.1; simp [World.setCell]; omega, (g2 b hb).2.2⟩⟩
  by_cases e : r = i
  · subst e
    simp only [if_pos]
    rw [← cs_setV]
    rw [hq] at g1 ⊢
    exact (g1.stored j _).1
  · simp only [if_neg e]
    refine own_setNe g1 (fun b hb e2 => ?_) _
    have e3 : b = q := e2
    subst e3
    rcases Nat.lt_or_gt_of_ne e with hlt | hgt
    · exact ((h i hi).2 b hob).2.2 r hlt hb
    · exact (g2 b hb).2.2 i hgt hob
/-- the bytes ahead of a place are turned -/
def Turned (n : Nat) (RL : Nat → Nat) (R R' : Nat → List F) (i j : Nat) : Prop :=
  ∀ r, r < n → (R' r).length = RL r ∧ ∀ q, q < RL r → gt (R' r) q = if r < i ∨ (r = i ∧ q < j) then gt (R r) q + ofN 1 else gt (R r) q
theorem gt_setV (l : List F) (j q : Nat) (x : F) (hj : j < l.length) : gt (l.set j x) q = if q = j then x else gt l q := by
  unfold gt
  rw [List.getD_eq_getElem?_getD, List.getD_eq_getElem?_getD, List.getElem?_set]
  by_cases e : q = j
  · subst e
    simp [hj]
  · rw [if_neg (fun h => e h.symm), if_neg e]
theorem Turned.step {n : Nat} {RL : Nat → Nat} {R R' : Nat → List F} {i j : Nat} (h : Turned n RL R R' i j) (hi : i < n) (hj : j < RL i) : Turned n RL R (fun r => if r = i then (R' i).set j (gt (R' i) j + ofN 1) else R' r) i (j + 1) := by
  intro r hr
  obtain ⟨h1, h2⟩ := h r hr
  by_cases e : r = i
  · subst e
    simp only [if_pos]
    refine ⟨by rw [List.length_set]; exact h1, fun q hq => ?_⟩
    rw [gt_setV _ _ _ _ (by omega)]
    by_cases e2 : q = j
    · subst e2
      have h3 := h2 q hq
      rw [if_neg (by omega)] at h3
      simp [h3]
    · rw [if_neg e2, h2 q hq]
      by_cases e3 : q < j
      · simp [e3, show q < j + 1 by omega]
      · simp [e3, show ¬ q < j + 1 by omega]
  · simp only [if_neg e]
    refine ⟨h1, fun q hq => ?_⟩
    rw [h2 q hq]
    by_cases e3 : r < i
    · rw [if_pos (by omega), if_pos (by omega)]
    · rw [if_neg (by omega), if_neg (by omega)]
theorem Turned.row {n : Nat} {RL : Nat → Nat} {R R' : Nat → List F} {i : Nat} (h : Turned n RL R R' i (RL i)) : Turned n RL R R' (i + 1) 0 := by
  intro r hr
  obtain ⟨h1, h2⟩ := h r hr
  refine ⟨h1, fun q hq => ?_⟩
  rw [h2 q hq]
  by_cases e : r = i
  · subst e
    rw [if_pos (by omega), if_pos (by omega)]
  · by_cases e3 : r < i
    · rw [if_pos (by omega), if_pos (by omega)]
    · rw [if_neg (by omega), if_neg (by omega)]
theorem add_one_ne (x : F) : x + ofN 1 ≠ x := fun h => by
  have h2 : x + (x + ofN 1) = x + x := by rw [h]
  rw [← add_assoc, add_self] at h2
  exact absurd h2 (by decide)
theorem Turned.differs {n : Nat} {RL : Nat → Nat} {R R' : Nat → List F} (h : Turned n RL R R' n 0) {r : Nat} (hr : r < n) (h0 : 0 < RL r) : R' r ≠ R r := fun e => by
  have h2 := (h r hr).2 0 h0
  rw [if_pos (by omega), e] at h2
  exact add_one_ne _ h2.symm
theorem bits_one (x : F) : bits BinOp.xor IntKind.u8 (x.n : Int) 1 = ((x + ofN 1).n : Int) := bits_xor x (ofN 1)
end Go.Proofs.Ytblbedffoeomeaa
