/-
  VOLUMES: Row. No conditions (but for how many slots there are, and bytes).
-/
import Derived.Test.YtfjpbbejhegcjaaVlf
namespace Go.Proofs.Ytfjpbbejhegcjaa
open Go.RowKit
set_option maxRecDepth 100000
set_option linter.unusedVariables false

def badS (x : Bool) (n : Nat) : Bool := !x || decide (n = 0)
theorem Row1_c (x : Bool) (A : Option Addr) (n c : Nat) (w : World) :
    Calls Try.prog 19 #[.agg #[.bool x, .slice A n c]] w fun e w' => e = .returned (.bool (badS x n)) ∧ Below w.heap.size w w' := by
  have HB := Lib.hid ((Below.refl w.heap.size w).alloc (Nat.le_refl _) (.cells #[.bool x, .slice A n c] 27))
  cases x
  · go_enter Try.func19, Try.ntmps19
    go_wp2
    go_ret
    exact ⟨rfl, HB.out⟩
  · by_cases hn : n = 0
    · have b1 : ((n : Int) == 0) = true := by rw [beq_iff_eq]; omega
      have hd : badS true n = true := by simp [badS, hn]
      have HD := Lib.hid hd
      clear hd hn
      go_enter Try.func19, Try.ntmps19
      go_wp2
      go_ret
      exact ⟨ret_bool HD.out.symm, HB.out⟩
    · have b1 : ((n : Int) == 0) = false := by rw [beq_eq_false_iff_ne]; omega
      have hd : badS true n = false := by simp [badS, hn]
      have HD := Lib.hid hd
      clear hd hn
      go_enter Try.func19, Try.ntmps19
      go_wp2
      go_ret
      exact ⟨ret_bool HD.out.symm, HB.out⟩
/-- the first slot that isn't right -/
def IxR (w : World) (TH : Nat → Bool) (RL : Nat → Nat) (n : Nat) (e : Ending) (w' : World) : Prop :=
  ((∃ r : Nat, r < n ∧ badS (TH r) (RL r) = true ∧ (∀ s, s < r → badS (TH s) (RL s) = false) ∧ e = .returned (.int .i64 (r : Int))) ∨ ((∀ s, s < n → badS (TH s) (RL s) = false) ∧ e = .returned (.int .i64 (-1)))) ∧ Below w.heap.size w w'
theorem IxR.hit {w : World} {TH : Nat → Bool} {RL : Nat → Nat} {n : Nat} {e : Ending} {w' : World} (r : Nat) (h1 : r < n) (h2 : badS (TH r) (RL r) = true) (h3 : ∀ s, s < r → badS (TH s) (RL s) = false) (h4 : e = .returned (.int .i64 (r : Int))) (h5 : Below w.heap.size w w') : IxR w TH RL n e w' := ⟨.inl ⟨r, h1, h2, h3, h4⟩, h5⟩
theorem IxR.none_ {w : World} {TH : Nat → Bool} {RL : Nat → Nat} {n : Nat} {e : Ending} {w' : World} (h1 : ∀ s, s < n → badS (TH s) (RL s) = false) (h4 : e = .returned (.int .i64 (-1))) (h5 : Below w.heap.size w w') : IxR w TH RL n e w' := ⟨.inr ⟨h1, h4⟩, h5⟩
set_option maxHeartbeats 1000000 in
theorem IndexFunc_c {w : World} {A : Option Addr} {n cap : Nat} {TH : Nat → Bool} {RA : Nat → Option Addr} {RL RC : Nat → Nat} {R : Nat → List F} (h : TIn w A n cap TH RA RL RC R) :
    Calls Try.prog 18 #[.slice A n cap, .func (.func 19) #[] #[]] w fun e w' => IxR w TH RL n e w' := by
  have hn := h.nmax
  have H := Lib.hid h
  clear h
  go_enter Try.func18, Try.ntmps18
  go_wp2
  go_loopw [8] (fun i wr => ∃ k : Nat, k ≤ n ∧ i = .int .i64 k ∧ Hid (∀ s, s < k → badS (TH s) (RL s) = false) ∧ Hid (Below w.heap.size w wr)) (fun i _ => n - (intOf i).toNat)
  case atStart => exact ⟨0, by omega, rfl, fun r hr => absurd hr (by omega), Below.refl _ _⟩
  case round =>
    obtain ⟨k, hk, rfl, hS, hb⟩ := hrel
    by_cases hlt : k < n
    · have hkn : (k : Int) < n := by omega
      obtain ⟨b1, o1, rfl, l1, q0, q1⟩ := (H.out.below hb.out).at_ hlt
      obtain ⟨sv, hsv⟩ : ∃ sv, sv = badS (TH k) (RL k) := ⟨_, rfl⟩
      have hC := fun W => Row1_c (TH k) (RA k) (RL k) (RC k) W
      rw [← hsv] at hC
      have HSV := Lib.hid hsv
      have HC := Lib.hid hC
      clear hsv hC
      go_wp2_with fail
      refine (HC.out _).mono ?_
      rintro e w3 ⟨rfl, hb3⟩
      have HB3 := Lib.hid (hb.out.trans (hb3.mono hb.out.size))
      clear hb3 q0 q1
      cases sv
      case true =>
        go_wp2
        go_ret
        exact IxR.hit k hlt HSV.out.symm hS.out rfl HB3.out
      case false =>
        have hS2 : Hid (∀ s, s < k + 1 → badS (TH s) (RL s) = false) := fun r hr => by
          by_cases e : r = k
          · subst e; exact HSV.out.symm
          · exact hS.out r (by omega)
        go_wp2
        go_roundw
        case rel => exact ⟨k + 1, by omega, by go_num, hS2, HB3⟩
        case measure => simp [intOf]; omega
    · obtain rfl : k = n := by omega
      go_wp2
      go_ret
      exact IxR.none_ hS.out rfl hb.out
/-- the error of the first slots -/
def rwG (TH : Nat → Bool) (RL : Nat → Nat) : Nat → Nat → Int
  | 0, _ => 0
  | m + 1, k => if TH k = false then 52 else if RL k = 0 then 20 else rwG TH RL m (k + 1)
theorem rwG_ok {TH : Nat → Bool} {RL : Nat → Nat} : ∀ (m k : Nat), (∀ s, k ≤ s → s < k + m → badS (TH s) (RL s) = false) → rwG TH RL m k = 0
  | 0, _, _ => rfl
  | m + 1, k, h => by
    have h0 := h k (Nat.le_refl _) (by omega)
    simp [badS] at h0
    show (if TH k = false then (52 : Int) else if RL k = 0 then 20 else rwG TH RL m (k + 1)) = 0
    rw [if_neg (by rw [h0.1]; decide), if_neg h0.2]
    exact rwG_ok m (k + 1) fun s h1 h2 => h s (by omega) (by omega)
theorem rwG_bad {TH : Nat → Bool} {RL : Nat → Nat} {r : Nat} (hr : badS (TH r) (RL r) = true) : ∀ (m k : Nat), k ≤ r → r < k + m → (∀ s, k ≤ s → s < r → badS (TH s) (RL s) = false) → rwG TH RL m k = if TH r = false then 52 else 20
  | 0, _, _, h2, _ => by omega
  | m + 1, k, h1, h2, h => by
    show (if TH k = false then (52 : Int) else if RL k = 0 then 20 else rwG TH RL m (k + 1)) = _
    by_cases e : k = r
    · subst e
      by_cases g : TH k = false
      · rw [if_pos g, if_pos g]
      · rw [if_neg g, if_neg g]
        have g2 : TH k = true := by cases hh : TH k <;> simp_all
        rw [if_pos (by simp [badS, g2] at hr; exact hr)]
    · have h0 := h k (Nat.le_refl _) (by omega)
      simp [badS] at h0
      rw [if_neg (by rw [h0.1]; decide), if_neg h0.2]
      exact rwG_bad hr m (k + 1) (by omega) (by omega) fun s h1 h2 => h s (by omega) (by omega)
def rwE (TH : Nat → Bool) (RL : Nat → Nat) (N : Nat) (n : Int) : Int := if n < 1 ∨ (N : Int) < n then 1 else rwG TH RL n.toNat 0
/-- what Row answers -/
def RwR (w : World) (TH : Nat → Bool) (RL : Nat → Nat) (R : Nat → List F) (N : Nat) (n : Int) (e : Ending) (w' : World) : Prop :=
  (rwE TH RL N n ≠ 0 ∧ e = .returned (.tuple #[.slice none 0 0, .int .i64 (rwE TH RL N n)]) ∧ Below w.heap.size w w') ∨
    (∃ (n0 : Nat) (A' : Option Addr) (c' : Nat) (RA' : Nat → Option Addr) (RC' : Nat → Nat), rwE TH RL N n = 0 ∧ n = (n0 : Int) ∧ 1 ≤ n0 ∧ n0 ≤ N ∧ e = .returned (.tuple #[.slice A' n0 c', .int .i64 0]) ∧ MIn w' A' n0 c' RA' RL RC' R ∧ Below w.heap.size w w')
theorem RwR.no {w : World} {TH : Nat → Bool} {RL : Nat → Nat} {R : Nat → List F} {N : Nat} {n : Int} {e : Ending} {w' : World} (k : Int) (h0 : rwE TH RL N n = k) (h1 : k ≠ 0) (h2 : e = .returned (.tuple #[.slice none 0 0, .int .i64 k])) (h3 : Below w.heap.size w w') : RwR w TH RL R N n e w' := .inl ⟨by rw [h0]; exact h1, by rw [h0]; exact h2, h3⟩
theorem RwR.yes {w : World} {TH : Nat → Bool} {RL : Nat → Nat} {R : Nat → List F} {N : Nat} {n : Int} {e : Ending} {w' : World} (n0 : Nat) (A' : Option Addr) (c' : Nat) (RA' : Nat → Option Addr) (RC' : Nat → Nat) (h0 : rwE TH RL N n = 0) (h1 : n = (n0 : Int)) (h2 : 1 ≤ n0) (h3 : n0 ≤ N) (h4 : e = .returned (.tuple #[.slice A' n0 c', .int .i64 0])) (h5 : MIn w' A' n0 c' RA' RL RC' R) (h6 : Below w.heap.size w w') : RwR w TH RL R N n e w' := .inr ⟨n0, A', c', RA', RC', h0, h1, h2, h3, h4, h5, h6⟩
theorem info_bs : (Try.prog.info? 25).map (fun i => (i.zero, i.size, i.bytes)) = some (some (.slice none 0 0), 1, 24) := by kernel_rfl
theorem RowIn.setOtherV {w : World} {A : Option Addr} {n c : Nat} {l : List F} (h : RowIn w A n c l) {a : Addr} (hne : ∀ b o, A = some ⟨b, o, none⟩ → b ≠ a.block) (v : Value) : RowIn (w.setCell a v) A n c l := ⟨h.row.setOther hne v, h.le, h.max⟩
set_option maxHeartbeats 4000000 in
theorem RowV_c {w : World} {A : Option Addr} {N cap : Nat} {TH : Nat → Bool} {RA : Nat → Option Addr} {RL RC : Nat → Nat} {R : Nat → List F} (h : TIn w A N cap TH RA RL RC R) (hN : N ≤ 1000) (hl : ∀ r, r < N → RL r ≤ 1048576) (n : Int) (hw : (Lit.int .i64 n).wf = true) :
    Calls Try.prog 6 #[.slice A N cap, .int .i64 n] w fun e w' => RwR w TH RL R N n e w' := by
  have hwn := wf_i64 hw
  have H := Lib.hid h
  have HL := Lib.hid hl
  have hle := h.le
  clear h hl hw
  by_cases h1 : n < 1
  · have HE : Hid (rwE TH RL N n = 1) := if_pos (.inl h1)
    go_enter Try.func6, Try.ntmps6
    go_wp2
    go_ret2
    exact RwR.no 1 HE.out (by decide) rfl (Below.refl _ _)
  · obtain ⟨n0, rfl⟩ : ∃ n0 : Nat, n = (n0 : Int) := ⟨n.toNat, by omega⟩
    have i1 : ¬ ((n0 : Int) < 1) := h1
    by_cases h2 : (N : Int) < (n0 : Int)
    · have HE : Hid (rwE TH RL N (n0 : Int) = 1) := if_pos (.inr h2)
      go_enter Try.func6, Try.ntmps6
      go_wp2
      go_ret2
      exact RwR.no 1 HE.out (by decide) rfl (Below.refl _ _)
    · have HE : Hid (rwE TH RL N (n0 : Int) = rwG TH RL n0 0) := by
        unfold Hid rwE
        rw [if_neg (by omega)]
        rfl
      have hnN : n0 ≤ N := by omega
      have hn1 : 1 ≤ n0 := by omega
      have i3 : (0 : Int) ≤ (n0 : Int) := by omega
      have i4 : (n0 : Int) ≤ (cap : Int) := by omega
      clear h1 hwn
      go_enter Try.func6, Try.ntmps6
      go_wp2_with fail
      refine (IndexFunc_c (H.out.take hnN)).mono ?_
      rintro e w1 ⟨hq, hb1⟩
      have HB1 := Lib.hid hb1
      clear hb1
      rcases hq with ⟨r, hr, hbad, hfst, rfl⟩ | ⟨hall, rfl⟩
      · have hg := rwG_bad hbad n0 0 (Nat.zero_le _) (by omega) fun s _ h2 => hfst s h2
        have hrN : r < N := by omega
        have j1 : (0 : Int) ≤ (r : Int) := by omega
        have j2 : (r : Int) < (N : Int) := by omega
        obtain ⟨b1, o1, rfl, l1, q0, q1⟩ := (H.out.below HB1.out).at_ hrN
        cases hth : TH r
        · rw [hth] at q0 hg
          have HG : Hid (rwE TH RL N (n0 : Int) = 52) := HE.out.trans hg
          clear hg hbad hfst hth
          go_wp2
          go_ret2
          exact RwR.no 52 HG.out (by decide) rfl HB1.out
        · rw [hth] at q0 hg
          have HG : Hid (rwE TH RL N (n0 : Int) = 20) := HE.out.trans hg
          clear hg hbad hfst hth
          go_wp2
          go_ret2
          exact RwR.no 20 HG.out (by decide) rfl HB1.out
      · have hg := rwG_ok n0 0 fun s _ h2 => hall s (by omega)
        have HG : Hid (rwE TH RL N (n0 : Int) = 0) := HE.out.trans hg
        obtain ⟨i0, hi, hz0, hz1, hz2⟩ := info_parts info_bs
        clear hg hall
        go_wp2_with (at_make; refine wpList_make_full _ rfl _ _ 24 rfl w.heap.size 25 i0 (.slice none 0 0) 1 Try.underlying24 hi hz0 hz1 _ _ _ _ n0 rfl rfl rfl rfl (by rw [hz2]; omega) (by unfold maxLen; omega) HB1.out.size ?_; intro w3 hown3 hg3)
        have hmk : (madeCells (Value.slice none 0 0).cells (n0 * 1)).toList = List.replicate n0 (.slice none 0 0) := by
          rw [Nat.mul_one]
          exact toList_madeCells_one _ n0
        rw [hmk] at hown3
        have HB3 := Lib.hid (HB1.out.grown hg3 HB1.out.size (fun g hg => by cases hg))
        have hgs : w1.heap.size < w3.heap.size := (hown3.lt _ rfl).2
        have hV3 : RowV w3 w1.heap.size n0 (fun r => if r < 0 then .slice (RA r) (RL r) (RC r) else .slice none 0 0) := (RowV.own hown3).congr fun i hi => by
          rw [if_neg (by omega)]
          simp [List.getD, hi]
        have HV3 := Lib.hid hV3
        have HGW : Hid (w.heap.size ≤ w1.heap.size) := HB1.out.size
        clear hmk hown3 hg3 hgs hV3
        generalize w1.heap.size = g at *
        go_loopw [39] (fun iv wr => ∃ (k : Nat) (RA' : Nat → Option Addr) (RC' : Nat → Nat), k ≤ n0 ∧ iv = .int .i64 k ∧ Hid (RowV wr g n0 (fun r => if r < k then .slice (RA' r) (RL r) (RC' r) else .slice none 0 0)) ∧ Hid (∀ r, r < k → RowIn wr (RA' r) (RL r) (RC' r) (R r) ∧ ∀ b o, RA' r = some ⟨b, o, none⟩ → b ≠ g) ∧ Hid (Below w.heap.size w wr)) (fun iv _ => n0 - (intOf iv).toNat)
        case atStart => exact ⟨0, RA, RC, by omega, rfl, HV3, fun r hr => absurd hr (by omega), HB3⟩
        case round =>
          obtain ⟨k, RA', RC', hk, rfl, hV, hR, hb⟩ := hrel
          by_cases hlt : k < n0
          · have hkn : (k : Int) < n0 := by omega
            have hkN : k < N := by omega
            have j2 : (k : Int) < (N : Int) := by omega
            have hM := H.out.below hb.out
            obtain ⟨b1, o1, rfl, l1, q0, q1⟩ := hM.at_ hkN
            have hrow := (hM.row k hkN).row
            have hlk := HL.out k hkN
            have HC := Lib.hid (Clone_c (RA k) (RL k) (RC k) (R k) wr hrow (by omega))
            clear hM hrow
            go_wp2_with fail
            refine HC.out.mono ?_
            rintro e w4 ⟨A4, c4, rfl, hown4, hb4⟩
            have hV4 := hV.out.below hb4 hV.out.lt
            have x0 := hV4.cell hlt
            have xf := hV4.frozen k
            have hset := hV4.set k (.slice A4 (RL k) c4)
            have hA4 := own_ne hown4 hV.out.lt
            have HV5 : Hid (RowV (w4.setCell ⟨g, k, none⟩ (.slice A4 (RL k) c4)) g n0 (fun r => if r < k + 1 then .slice ((fun r => if r = k then A4 else RA' r) r) (RL r) ((fun r => if r = k then c4 else RC' r) r) else .slice none 0 0)) := hset.congr fun i hi => by
              by_cases e : i = k
              · subst e
                simp
              · simp only [if_neg e]
                by_cases e2 : i < k
                · rw [if_pos e2, if_pos (by omega)]
                · rw [if_neg e2, if_neg (by omega)]
            have HR5 : Hid (∀ r, r < k + 1 → RowIn (w4.setCell ⟨g, k, none⟩ (.slice A4 (RL k) c4)) ((fun r => if r = k then A4 else RA' r) r) (RL r) ((fun r => if r = k then c4 else RC' r) r) (R r) ∧ ∀ b o, (fun r => if r = k then A4 else RA' r) r = some ⟨b, o, none⟩ → b ≠ g) := fun r hr => by
              by_cases e : r = k
              · subst e
                simp only [if_pos]
                exact ⟨(own_in hown4).setOtherV hA4 _, hA4⟩
              · simp only [if_neg e]
                obtain ⟨g1, g2⟩ := hR.out r (by omega)
                exact ⟨(g1.below hb4).setOtherV g2 _, g2⟩
            have HB5 : Hid (Below w.heap.size w (w4.setCell ⟨g, k, none⟩ (.slice A4 (RL k) c4))) := (hb.out.trans (hb4.mono hb.out.size)).setCell (p := ⟨g, k, none⟩) HGW.out _
            have x1 : w4.cell? ⟨g, k, none⟩ = some (.slice none 0 0) := by
              rw [x0, if_neg (by omega)]
            clear hV4 x0 hset hA4 hown4 hb4 hV hR hb q0 q1 HC
            go_wp2
            go_roundw
            case rel => exact ⟨k + 1, _, _, by omega, by go_num, HV5, HR5, HB5⟩
            case measure => simp [intOf]; omega
          · obtain rfl : k = n0 := by omega
            have hMI : MIn wr (some ⟨g, 0, none⟩) k k RA' RL RC' R := ⟨Nat.le_refl _, by unfold maxLen; omega, fun h0 => ⟨g, 0, rfl, hV.out.lt, fun r hr => by
              have h5 := hV.out.cell hr
              rw [if_pos hr] at h5
              rw [Nat.zero_add]
              exact h5⟩, fun r hr => (hR.out r hr).1⟩
            have HMI := Lib.hid hMI
            clear hMI
            go_wp2
            go_ret2
            exact RwR.yes k _ _ RA' RC' HG.out rfl hn1 hnN rfl HMI.out hb.out
end Go.Proofs.Ytfjpbbejhegcjaa
