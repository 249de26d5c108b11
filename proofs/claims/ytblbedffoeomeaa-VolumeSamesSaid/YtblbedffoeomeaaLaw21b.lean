/-
  LAW 21: VolumeSames. No conditions.
-/
import Derived.Test.YtblbedffoeomeaaLaw21
namespace Go.Proofs.Ytblbedffoeomeaa
open Go.RowKit
set_option maxRecDepth 100000
set_option linter.unusedVariables false

/-- all slots so far are there, and none is empty -/
def allB (TH : Nat → Bool) (RL : Nat → Nat) : Nat → Bool
  | 0 => true
  | k + 1 => allB TH RL k && (TH k && !decide (RL k = 0))
theorem allB_iff {TH : Nat → Bool} {RL : Nat → Nat} : ∀ k, allB TH RL k = true ↔ ∀ s, s < k → badS (TH s) (RL s) = false
  | 0 => ⟨fun _ s h => absurd h (by omega), fun _ => rfl⟩
  | k + 1 => by
    show (allB TH RL k && (TH k && !decide (RL k = 0))) = true ↔ _
    rw [Bool.and_eq_true, allB_iff k]
    constructor
    · rintro ⟨h1, h2⟩ s hs
      by_cases e : s = k
      · subst e
        simp [badS] at h2 ⊢
        exact h2
      · exact h1 s (by omega)
    · intro h
      refine ⟨fun s hs => h s (by omega), ?_⟩
      have h3 := h k (by omega)
      simp [badS] at h3 ⊢
      exact h3
theorem rwG_iff {TH : Nat → Bool} {RL : Nat → Nat} : ∀ (m k : Nat), rwG TH RL m k = 0 ↔ ∀ s, k ≤ s → s < k + m → badS (TH s) (RL s) = false
  | 0, k => ⟨fun _ s h1 h2 => absurd h2 (by omega), fun _ => rfl⟩
  | m + 1, k => by
    show (if TH k = false then (52 : Int) else if RL k = 0 then 20 else rwG TH RL m (k + 1)) = 0 ↔ _
    constructor
    · intro h s h1 h2
      by_cases g1 : TH k = false
      · rw [if_pos g1] at h; omega
      · rw [if_neg g1] at h
        by_cases g2 : RL k = 0
        · rw [if_pos g2] at h; omega
        · rw [if_neg g2] at h
          by_cases e : s = k
          · subst e
            have g3 : TH s = true := by cases hh : TH s <;> simp_all
            simp [badS, g3, g2]
          · exact (rwG_iff m (k + 1)).1 h s (by omega) (by omega)
    · intro h
      exact rwG_ok (m + 1) k h
theorem cntS_all {TH : Nat → Bool} {RL : Nat → Nat} : ∀ k, (∀ s, s < k → badS (TH s) (RL s) = false) → cntS TH k = k
  | 0, _ => rfl
  | k + 1, h => by
    have h1 := cntS_all k fun s hs => h s (by omega)
    have h2 := h k (by omega)
    simp [badS] at h2
    show cntS TH k + (if TH k = true then 1 else 0) = k + 1
    rw [h1, if_pos h2.1]
theorem sameS_self (a : Bool) (l : List F) : sameS a l a l = true := by simp [sameS]
theorem sameS_comm (a : Bool) (l : List F) (b : Bool) (m : List F) : sameS a l b m = sameS b m a l := by
  unfold sameS
  cases a <;> cases b <;> simp [eq_comm]
theorem sameT_self (n : Nat) (TH : Nat → Bool) (R : Nat → List F) : sameT n TH R n TH R := ⟨rfl, fun r _ => sameS_self _ _⟩
theorem sameT_comm (n : Nat) (TH : Nat → Bool) (R : Nat → List F) (m : Nat) (TH' : Nat → Bool) (R' : Nat → List F) : decide (sameT m TH' R' n TH R) = decide (sameT n TH R m TH' R') := by
  rw [decide_eq_decide]
  constructor
  · rintro ⟨rfl, h⟩
    exact ⟨rfl, fun r hr => by rw [sameS_comm]; exact h r hr⟩
  · rintro ⟨rfl, h⟩
    exact ⟨rfl, fun r hr => by rw [sameS_comm]; exact h r hr⟩
theorem tcs_congr {TH : Nat → Bool} {RA RA' : Nat → Option Addr} {RL RL' RC RC' : Nat → Nat} : ∀ k, (∀ r, r < k → RA r = RA' r ∧ RL r = RL' r ∧ RC r = RC' r) → tcs TH RA RL RC k = tcs TH RA' RL' RC' k
  | 0, _ => rfl
  | k + 1, h => by
    obtain ⟨h1, h2, h3⟩ := h k (by omega)
    show tcs TH RA RL RC k ++ _ = tcs TH RA' RL' RC' k ++ _
    rw [tcs_congr k fun r hr => h r (by omega), h1, h2, h3]
theorem two_cells (W : World) (v u : Value) (t : TypeId) (g : Nat) (hg : g = W.heap.size) : ∀ j x, [v, u][j]? = some x → (W.alloc (.cells #[v, u] t)).cell? ((⟨g, 0, none⟩ : Addr).add j) = some x := by
  subst hg
  intro j x hx
  have hK := Blk.new W t #[v, u]
  have e : (⟨W.heap.size, 0, none⟩ : Addr).add j = ⟨W.heap.size, j, none⟩ := by unfold Addr.add; split <;> simp_all
  rw [e, hK.cell j]
  simpa using hx
def upd {α : Type} (f : Nat → α) (k : Nat) (v : α) : Nat → α := fun r => if r = k then v else f r
theorem upd_at {α : Type} (f : Nat → α) (k : Nat) (v : α) : upd f k v k = v := if_pos rfl
theorem upd_ne {α : Type} (f : Nat → α) {k r : Nat} (v : α) (h : r ≠ k) : upd f k v r = f r := if_neg h
theorem tcs_upd {TH : Nat → Bool} {RA : Nat → Option Addr} {RL RC : Nat → Nat} (k : Nat) (a : Option Addr) (l c : Nat) : tcs TH RA RL RC k ++ [.bool (TH k), .slice a l c] = tcs TH (upd RA k a) (upd RL k l) (upd RC k c) (k + 1) := by
  show _ = tcs TH (upd RA k a) (upd RL k l) (upd RC k c) k ++ [.bool (TH k), .slice (upd RA k a k) (upd RL k l k) (upd RC k c k)]
  rw [upd_at, upd_at, upd_at]
  rw [tcs_congr k fun r hr => ⟨(upd_ne RA a (show r ≠ k by omega)).symm, (upd_ne RL l (show r ≠ k by omega)).symm, (upd_ne RC c (show r ≠ k by omega)).symm⟩]
theorem all_iff {TH : Nat → Bool} {RL : Nat → Nat} (n : Nat) : (decide (0 < n) && allB TH RL n) = true ↔ rwE TH RL n (n : Int) = 0 := by
  rw [Bool.and_eq_true, decide_eq_true_iff, allB_iff]
  unfold rwE
  by_cases h0 : 0 < n
  · rw [if_neg (by omega), Int.toNat_natCast, rwG_iff]
    exact ⟨fun h s _ hs => h.2 s (by omega), fun h => ⟨h0, fun s hs => h s (Nat.zero_le _) (by omega)⟩⟩
  · rw [if_pos (by omega)]
    exact ⟨fun h => absurd h.1 h0, fun h => absurd h (by decide)⟩
theorem own_two {w : World} {base : Nat} {T : TypeId} {n : Nat} {TH : Nat → Bool} {RA RA2 : Nat → Option Addr} {RL RC RL2 RC2 : Nat → Nat} {R : Nat → List F} {A : Option Addr} {cap : Nat} {v : Value} (hown : w.ownsRow base T 2 v n (tcs TH RA2 RL2 RC2 n)) (h : TIn w A n cap TH RA RL RC R) (hag : ∀ r, r < n → TH r = true → RA2 r = RA r ∧ RL2 r = RL r ∧ RC2 r = RC r) : ∃ A2 c2, v = .slice A2 n c2 ∧ TIn2 w A2 n c2 TH RA2 RL2 RC2 R := by
  obtain ⟨A2, c2, rfl, hc, hA⟩ := own_shape2 hown
  refine ⟨A2, c2, rfl, hc.1, hc.2, fun h0 => ?_, fun r hr ht => ?_⟩
  · obtain ⟨g, rfl, hg⟩ := hA h0
    refine ⟨g, 0, rfl, (hown.lt g rfl).2, fun r hr => ?_⟩
    obtain ⟨h1, h2⟩ := tcs_at (TH := TH) (RA := RA2) (RL := RL2) (RC := RC2) n r hr
    rw [Nat.zero_add]
    exact ⟨(hown.cellAt (r * 2) (by omega)).trans h1, (hown.cellAt (r * 2 + 1) (by omega)).trans h2⟩
  · obtain ⟨e1, e2, e3⟩ := hag r hr ht
    rw [e1, e2, e3]
    exact h.row r hr
/-- the loop's rounds -/
def SmI (w : World) (n : Nat) (TH : Nat → Bool) (RA : Nat → Option Addr) (RL RC : Nat → Nat) (bl al iv : Value) (wr : World) : Prop :=
  ∃ (k : Nat) (b : Bool) (RA2 : Nat → Option Addr) (RL2 RC2 : Nat → Nat), k ≤ n ∧ iv = .int .i64 k ∧ al = .bool b ∧ Hid (b = (decide (0 < n) && allB TH RL k)) ∧ Hid (wr.ownsRow w.heap.size 27 2 bl k (tcs TH RA2 RL2 RC2 k)) ∧ Hid (∀ r, r < k → TH r = true → RA2 r = RA r ∧ RL2 r = RL r ∧ RC2 r = RC r) ∧ Hid (∀ r, r < k → RL r ≤ 60) ∧ Hid (Below w.heap.size w wr)
theorem SmI.next {w : World} {n : Nat} {TH : Nat → Bool} {RA : Nat → Option Addr} {RL RC : Nat → Nat} {k : Nat} {b : Bool} {RA2 : Nat → Option Addr} {RL2 RC2 : Nat → Nat} {bl iv : Value} {wr : World} (a : Option Addr) (l c : Nat) (b' : Bool) (hk : k < n) (hb : b = (decide (0 < n) && allB TH RL k)) (hb' : b' = (b && (TH k && !decide (RL k = 0)))) (hown : wr.ownsRow w.heap.size 27 2 bl (k + 1) (tcs TH RA2 RL2 RC2 k ++ [.bool (TH k), .slice a l c])) (hag : ∀ r, r < k → TH r = true → RA2 r = RA r ∧ RL2 r = RL r ∧ RC2 r = RC r) (hk2 : TH k = true → a = RA k ∧ l = RL k ∧ c = RC k) (h60 : ∀ r, r < k → RL r ≤ 60) (hk60 : RL k ≤ 60) (hbl : Below w.heap.size w wr) (hiv : iv = .int .i64 ((k + 1 : Nat) : Int)) : SmI w n TH RA RL RC bl (.bool b') iv wr := by
  refine ⟨k + 1, b', upd RA2 k a, upd RL2 k l, upd RC2 k c, by omega, hiv, rfl, ?_, ?_, ?_, ?_, hbl⟩
  · show b' = (decide (0 < n) && (allB TH RL k && (TH k && !decide (RL k = 0))))
    rw [hb', hb, Bool.and_assoc]
  · rw [← tcs_upd]; exact hown
  · intro r hr ht
    by_cases e : r = k
    · subst e
      rw [upd_at, upd_at, upd_at]
      exact hk2 ht
    · rw [upd_ne _ _ e, upd_ne _ _ e, upd_ne _ _ e]
      exact hag r (by omega) ht
  · intro r hr
    by_cases e : r = k
    · subst e; exact hk60
    · exact h60 r (by omega)
set_option maxHeartbeats 8000000 in
theorem sames_main (w : World) (A : Option Addr) (n cap : Nat) (TH : Nat → Bool) (RA : Nat → Option Addr) (RL RC : Nat → Nat) (R : Nat → List F) (h : TIn w A n cap TH RA RL RC R) (B : Option Addr) (m cap' : Nat) (TH' : Nat → Bool) (RA' : Nat → Option Addr) (RL' RC' : Nat → Nat) (R' : Nat → List F) (h' : TIn w B m cap' TH' RA' RL' RC' R') (hn : n ≤ 20) (hm : m ≤ 20) :
    Calls Try.prog 6 #[.slice A n cap, .slice B m cap'] w fun e w' => e = .returned (.bool true) ∧ Below w.heap.size w w' := by
  obtain ⟨i0, hi, hz0, hz1, hz2⟩ := info_parts info_sl
  have hcv := fun (w : World) (C : Array Value) (n c : Nat) => Lib.run_convert_bytes_const (P := Try.prog) w 25 5 C n c Try.underlying25 Try.underlying5
  have HCV := Lib.hid hcv
  have H := Lib.hid h
  have H' := Lib.hid h'
  have i1 : ¬ (20 : Int) < (n : Int) := by omega
  have i2 : ¬ (20 : Int) < (m : Int) := by omega
  clear h h' hcv
  go_enter Try.func6, Try.ntmps6
  go_wp2_with fail
  refine (alive21_c _).mono ?_
  rintro e W1 ⟨rfl, hb1⟩
  have HB1 := Lib.hid (hb1.alloc hb1.size (.cells #[] 27))
  have HO1 := Lib.hid (World.ownsRow_made (base := w.heap.size) (e := 27) (size := 2) W1 #[] 0 hb1.size (Nat.zero_le _) rfl)
  clear hb1
  go_wp2
  go_loopw [5, 6, 27] (fun bl al iv wr => SmI w n TH RA RL RC bl al iv wr) (fun _ _ iv _ => n - (intOf iv).toNat)
  case atStart => exact ⟨0, decide (0 < n), RA, RL, RC, Nat.zero_le _, rfl, rfl, (Bool.and_true _).symm, HO1, fun r hr => absurd hr (by omega), fun r hr => absurd hr (by omega), HB1⟩
  case round =>
    obtain ⟨k, b, RA2, RL2, RC2, hk, rfl, rfl, hbe, hown, hag, h60, hb⟩ := hrel
    by_cases hlt : k < n
    · have hkn : (k : Int) < n := by omega
      obtain ⟨b1, o1, rfl, _, q0, q1⟩ := (H.out.below hb.out).at_ hlt
      by_cases g60 : 60 < RL k
      · have j60 : (60 : Int) < RL k := by omega
        have HBA := Lib.hid (fun C => hb.out.alloc hb.out.size (.cells C 27))
        go_wp2
        go_ret
        exact ⟨rfl, HBA.out _⟩
      · have j60 : ¬ (60 : Int) < RL k := by omega
        have hO := hown.out.alloc (.cells #[.bool (TH k), .slice (RA k) (RL k) (RC k)] 27)
        have HK := Lib.hid (Blk.new wr 27 #[.bool (TH k), .slice (RA k) (RL k) (RC k)])
        have HBA := Lib.hid (fun C => hb.out.alloc hb.out.size (.cells C 27))
        have HO := Lib.hid hO
        clear hO
        obtain ⟨th, hth⟩ : ∃ th, th = TH k := ⟨_, rfl⟩
        rw [← hth] at q0 HK HO
        have HTH := Lib.hid hth
        clear hth
        cases th
        case true =>
          have HBB := Lib.hid (fun C D => (HBA.out C).alloc (HBA.out C).size (.cells D 27))
          have HSZ : Hid (∀ C D, w.heap.size ≤ ((wr.alloc (.cells C 27)).alloc (.cells D 27)).heap.size) := fun C D => (HBB.out C D).size
          cases b
          case false =>
            go_wp2_with (at_builtin; refine wpList_append_own _ rfl _ _ 22 rfl w.heap.size 27 i0 (.agg #[.bool false, .slice none 0 0]) 2 32 Try.underlying22 hi hz0 hz1 hz2 rfl (by decide) _ k _ rfl (HO.out.alloc _) ⟨wr.heap.size + 1, 0, none⟩ 1 1 [.bool true, .slice (RA k) (RL k) (RC k)] rfl rfl (two_cells _ _ _ _ _ (by simp)) (by intro u hu; simp at hu; rcases hu with rfl | rfl <;> rfl) (by unfold maxLen; omega) (by omega) (HSZ.out _ _) ?_; intro v' w3 hown' hgrow hnil)
            go_roundw
            case rel => exact SmI.next (RA k) (RL k) (RC k) _ hlt hbe.out rfl (by rw [← HTH.out]; exact hown') hag.out (fun _ => ⟨rfl, rfl, rfl⟩) h60.out (by omega) ((HBB.out _ _).grown hgrow (HSZ.out _ _) (fun q hq => (hown.out.lt q hq).1)) (by go_num)
            case measure => simp [intOf]; omega
          case true =>
            by_cases hz : 0 < RL k
            · have hzi : (0 : Int) < RL k := by omega
              have hfl : Hid (true = (true && (TH k && !decide (RL k = 0)))) := by unfold Hid; rw [← HTH.out]; simp; omega
              go_wp2_with (at_builtin; refine wpList_append_own _ rfl _ _ 22 rfl w.heap.size 27 i0 (.agg #[.bool false, .slice none 0 0]) 2 32 Try.underlying22 hi hz0 hz1 hz2 rfl (by decide) _ k _ rfl (HO.out.alloc _) ⟨wr.heap.size + 1, 0, none⟩ 1 1 [.bool true, .slice (RA k) (RL k) (RC k)] rfl rfl (two_cells _ _ _ _ _ (by simp)) (by intro u hu; simp at hu; rcases hu with rfl | rfl <;> rfl) (by unfold maxLen; omega) (by omega) (HSZ.out _ _) ?_; intro v' w3 hown' hgrow hnil)
              go_roundw
              case rel => exact SmI.next (RA k) (RL k) (RC k) _ hlt hbe.out hfl.out (by rw [← HTH.out]; exact hown') hag.out (fun _ => ⟨rfl, rfl, rfl⟩) h60.out (by omega) ((HBB.out _ _).grown hgrow (HSZ.out _ _) (fun q hq => (hown.out.lt q hq).1)) (by go_num)
              case measure => simp [intOf]; omega
            · have hzi : ¬ (0 : Int) < RL k := by omega
              have hfl : Hid (false = (true && (TH k && !decide (RL k = 0)))) := by unfold Hid; rw [← HTH.out]; simp; omega
              go_wp2_with (at_builtin; refine wpList_append_own _ rfl _ _ 22 rfl w.heap.size 27 i0 (.agg #[.bool false, .slice none 0 0]) 2 32 Try.underlying22 hi hz0 hz1 hz2 rfl (by decide) _ k _ rfl (HO.out.alloc _) ⟨wr.heap.size + 1, 0, none⟩ 1 1 [.bool true, .slice (RA k) (RL k) (RC k)] rfl rfl (two_cells _ _ _ _ _ (by simp)) (by intro u hu; simp at hu; rcases hu with rfl | rfl <;> rfl) (by unfold maxLen; omega) (by omega) (HSZ.out _ _) ?_; intro v' w3 hown' hgrow hnil)
              go_roundw
              case rel => exact SmI.next (RA k) (RL k) (RC k) _ hlt hbe.out hfl.out (by rw [← HTH.out]; exact hown') hag.out (fun _ => ⟨rfl, rfl, rfl⟩) h60.out (by omega) ((HBB.out _ _).grown hgrow (HSZ.out _ _) (fun q hq => (hown.out.lt q hq).1)) (by go_num)
              case measure => simp [intOf]; omega
        case false =>
          have hcv2 := HCV.out (wr.alloc (.cells #[.bool false, .slice (RA k) (RL k) (RC k)] 27)) #[.int .u8 101, .int .u8 108, .int .u8 115, .int .u8 101] 4 4
          rw [World.size_alloc] at hcv2
          have HOE := Lib.hid (fun C E => (hown.out.alloc (.cells C 27)).alloc (.cells E 5 (4, 5)))
          have HBB := Lib.hid (fun C E D => ((HBA.out C).alloc (HBA.out C).size (.cells E 5 (4, 5))).alloc ((HBA.out C).alloc (HBA.out C).size (.cells E 5 (4, 5))).size (.cells D 27))
          have HSZ : Hid (∀ C E D, w.heap.size ≤ (((wr.alloc (.cells C 27)).alloc (.cells E 5 (4, 5))).alloc (.cells D 27)).heap.size) := fun C E D => (HBB.out C E D).size
          cases b
          case false =>
            have hfl : Hid (false = (false && (TH k && !decide (RL k = 0)))) := by unfold Hid; rw [← HTH.out]; rfl
            go_wp2_with (at_builtin; refine wpList_append_own _ rfl _ _ 22 rfl w.heap.size 27 i0 (.agg #[.bool false, .slice none 0 0]) 2 32 Try.underlying22 hi hz0 hz1 hz2 rfl (by decide) _ k _ rfl ((HOE.out _ _).alloc _) ⟨wr.heap.size + 2, 0, none⟩ 1 1 [.bool false, .slice (some ⟨wr.heap.size + 1, 0, none⟩) 4 4] rfl rfl (two_cells _ _ _ _ _ (by simp)) (by intro u hu; simp at hu; rcases hu with rfl | rfl <;> rfl) (by unfold maxLen; omega) (by omega) (HSZ.out _ _ _) ?_; intro v' w3 hown' hgrow hnil)
            go_roundw
            case rel => exact SmI.next (some ⟨wr.heap.size + 1, 0, none⟩) 4 4 _ hlt hbe.out hfl.out (by rw [← HTH.out]; exact hown') hag.out (fun e => absurd (HTH.out.trans e) (by decide)) h60.out (by omega) ((HBB.out _ _ _).grown hgrow (HSZ.out _ _ _) (fun q hq => (hown.out.lt q hq).1)) (by go_num)
            case measure => simp [intOf]; omega
          case true =>
            have hfl : Hid (false = (true && (TH k && !decide (RL k = 0)))) := by unfold Hid; rw [← HTH.out]; rfl
            go_wp2_with (at_builtin; refine wpList_append_own _ rfl _ _ 22 rfl w.heap.size 27 i0 (.agg #[.bool false, .slice none 0 0]) 2 32 Try.underlying22 hi hz0 hz1 hz2 rfl (by decide) _ k _ rfl ((HOE.out _ _).alloc _) ⟨wr.heap.size + 2, 0, none⟩ 1 1 [.bool false, .slice (some ⟨wr.heap.size + 1, 0, none⟩) 4 4] rfl rfl (two_cells _ _ _ _ _ (by simp)) (by intro u hu; simp at hu; rcases hu with rfl | rfl <;> rfl) (by unfold maxLen; omega) (by omega) (HSZ.out _ _ _) ?_; intro v' w3 hown' hgrow hnil)
            go_roundw
            case rel => exact SmI.next (some ⟨wr.heap.size + 1, 0, none⟩) 4 4 _ hlt hbe.out hfl.out (by rw [← HTH.out]; exact hown') hag.out (fun e => absurd (HTH.out.trans e) (by decide)) h60.out (by omega) ((HBB.out _ _ _).grown hgrow (HSZ.out _ _ _) (fun q hq => (hown.out.lt q hq).1)) (by go_num)
            case measure => simp [intOf]; omega
    · obtain rfl : k = n := by omega
      obtain ⟨A2, c2, rfl, hT2⟩ := own_two hown.out (H.out.below hb.out) hag.out
      have HT := Lib.hid (H.out.below hb.out)
      have HU := Lib.hid (H'.out.below hb.out)
      have HT2 := Lib.hid hT2
      have hl : ∀ r, r < k → RL r ≤ 1048576 := fun r hr => by have := h60.out r hr; omega
      obtain ⟨al0, hal0⟩ : ∃ al0, al0 = (decide (0 < k) && allB TH RL k) := ⟨_, rfl⟩
      have hbal : b = al0 := by rw [hal0]; exact hbe.out
      have HAL0 := Lib.hid hal0
      have HCO := Lib.hid (sameT_comm k TH R m TH' R')
      have HL60 := Lib.hid h60.out
      clear hT2 hown hag hbe hal0
      subst hbal
      have hwf : (Lit.int .i64 (k : Int)).wf = true := by simp [Lit.wf, IntKind.min, IntKind.max, IntKind.signed, IntKind.bits]; omega
      go_wp2_with fail
      refine (RowV_c HT.out (by omega) hl (k : Int) hwf).mono ?_
      rintro e W2 (⟨hne, rfl, hb2⟩ | ⟨n0, A6, c6, RA6, RC6, h0, hn0, hn1, _, rfl, hm6, hb6⟩)
      · have hbf : b = false := by
          cases hh : b
          · rfl
          · exact absurd ((all_iff (TH := TH) (RL := RL) k).1 (by rw [← HAL0.out]; exact hh)) hne
        subst hbf
        generalize rwE TH RL k (k : Int) = er at *
        have her : (er == 0) = false := by rw [beq_eq_false_iff_ne]; exact hne
        have HT_ := Lib.hid (HT.out.below hb2)
        have HU_ := Lib.hid (HU.out.below hb2)
        have HT2_ := Lib.hid (HT2.out.below hb2)
        have HB_ := Lib.hid (hb.out.trans (hb2.mono hb.out.size))
        clear hb2 HT HU HT2 hb hne
        go_wp2_with fail
        refine (SameT21_c HT_.out HU_.out.two).mono ?_
        rintro e W3 ⟨rfl, hb3⟩
        have HT3 := Lib.hid (HT_.out.below hb3)
        have HU3 := Lib.hid (HU_.out.below hb3)
        have HT23 := Lib.hid (HT2_.out.below hb3)
        have HB3 := Lib.hid (HB_.out.trans (hb3.mono HB_.out.size))
        clear hb3 HT_ HU_ HT2_ HB_
        go_wp2_with fail
        refine (SameT21_c HU3.out HT3.out.two).mono ?_
        rintro e W4 ⟨rfl, hb4⟩
        rw [HCO.out]
        generalize decide (sameT k TH R m TH' R') = sv at *
        have hsv : (sv == sv) = true := by cases sv <;> rfl
        have HT4 := Lib.hid (HT3.out.below hb4)
        have HU4 := Lib.hid (HU3.out.below hb4)
        have HT24 := Lib.hid (HT23.out.below hb4)
        have HB4 := Lib.hid (HB3.out.trans (hb4.mono HB3.out.size))
        clear hb4 HT3 HU3 HT23 HB3
        go_wp2_with fail
        refine (SameT21_c HT4.out HT24.out).mono ?_
        rintro e W5 ⟨rfl, hb5⟩
        rw [decide_eq_true (sameT_self k TH R)]
        have HT5 := Lib.hid (HT4.out.below hb5)
        have HU5 := Lib.hid (HU4.out.below hb5)
        have HT25 := Lib.hid (HT24.out.below hb5)
        have HB5 := Lib.hid (HB4.out.trans (hb5.mono HB4.out.size))
        clear hb5 HT4 HU4 HT24 HB4
        go_wp2_with fail
        refine (SameT21_c HT5.out HT5.out.two).mono ?_
        rintro e W6 ⟨rfl, hb6⟩
        rw [decide_eq_true (sameT_self k TH R)]
        have HT6 := Lib.hid (HT5.out.below hb6)
        have HU6 := Lib.hid (HU5.out.below hb6)
        have HT26 := Lib.hid (HT25.out.below hb6)
        have HB6 := Lib.hid (HB5.out.trans (hb6.mono HB5.out.size))
        clear hb6 HT5 HU5 HT25 HB5
        go_wp2
        go_ret
        exact ⟨rfl, HB6.out⟩
      · obtain rfl : k = n0 := by omega
        have hbt : b = true := HAL0.out.trans ((all_iff (TH := TH) (RL := RL) k).2 h0)
        subst hbt
        have HCN : Hid (cntS TH k = k) := cntS_all k fun s hs => (allB_iff (TH := TH) (RL := RL) k).1 (by
          have h9 := HAL0.out.symm
          rw [Bool.and_eq_true] at h9
          exact h9.2) s hs
        have HT_ := Lib.hid (HT.out.below hb6)
        have HU_ := Lib.hid (HU.out.below hb6)
        have HT2_ := Lib.hid (HT2.out.below hb6)
        have HB_ := Lib.hid (hb.out.trans (hb6.mono hb.out.size))
        clear hb6 hm6 HT HU HT2 hb h0
        go_wp2_with fail
        refine (SameT21_c HT_.out HU_.out.two).mono ?_
        rintro e W3 ⟨rfl, hb3⟩
        have HT3 := Lib.hid (HT_.out.below hb3)
        have HU3 := Lib.hid (HU_.out.below hb3)
        have HT23 := Lib.hid (HT2_.out.below hb3)
        have HB3 := Lib.hid (HB_.out.trans (hb3.mono HB_.out.size))
        clear hb3 HT_ HU_ HT2_ HB_
        go_wp2_with fail
        refine (SameT21_c HU3.out HT3.out.two).mono ?_
        rintro e W4 ⟨rfl, hb4⟩
        rw [HCO.out]
        generalize decide (sameT k TH R m TH' R') = sv at *
        have hsv : (sv == sv) = true := by cases sv <;> rfl
        have HT4 := Lib.hid (HT3.out.below hb4)
        have HU4 := Lib.hid (HU3.out.below hb4)
        have HT24 := Lib.hid (HT23.out.below hb4)
        have HB4 := Lib.hid (HB3.out.trans (hb4.mono HB3.out.size))
        clear hb4 HT3 HU3 HT23 HB3
        go_wp2_with fail
        refine (SameT21_c HT4.out HT24.out).mono ?_
        rintro e W5 ⟨rfl, hb5⟩
        rw [decide_eq_true (sameT_self k TH R)]
        have HT5 := Lib.hid (HT4.out.below hb5)
        have HU5 := Lib.hid (HU4.out.below hb5)
        have HT25 := Lib.hid (HT24.out.below hb5)
        have HB5 := Lib.hid (HB4.out.trans (hb5.mono HB4.out.size))
        clear hb5 HT4 HU4 HT24 HB4
        go_wp2_with fail
        refine (SameT21_c HT5.out HT5.out.two).mono ?_
        rintro e W6 ⟨rfl, hb6⟩
        rw [decide_eq_true (sameT_self k TH R)]
        have HT6 := Lib.hid (HT5.out.below hb6)
        have HU6 := Lib.hid (HU5.out.below hb6)
        have HT26 := Lib.hid (HT25.out.below hb6)
        have HB6 := Lib.hid (HB5.out.trans (hb6.mono HB5.out.size))
        clear hb6 HT5 HU5 HT25 HB5
        go_wp2_with fail
        refine (Count_c HT6.out).mono ?_
        rintro e W7 ⟨rfl, hb7⟩
        rw [HCN.out]
        have HB7 := Lib.hid (HB6.out.trans (hb7.mono HB6.out.size))
        clear hb7 HB6 HT6
        go_wp2
        go_ret
        exact ⟨rfl, HB7.out⟩
set_option maxHeartbeats 4000000 in
theorem walk_VolumeSames (w : World) (A : Option Addr) (n cap : Nat) (TH : Nat → Bool) (RA : Nat → Option Addr) (RL RC : Nat → Nat) (R : Nat → List F) (h : TIn w A n cap TH RA RL RC R) (B : Option Addr) (m cap' : Nat) (TH' : Nat → Bool) (RA' : Nat → Option Addr) (RL' RC' : Nat → Nat) (R' : Nat → List F) (h' : TIn w B m cap' TH' RA' RL' RC' R') :
    Calls Try.prog 6 #[.slice A n cap, .slice B m cap'] w fun e w' => e = .returned (.bool true) ∧ Below w.heap.size w w' := by
  by_cases c1 : 20 < n
  · have i1 : (20 : Int) < (n : Int) := by omega
    go_enter Try.func6, Try.ntmps6
    go_wp2_with fail
    refine (alive21_c _).mono ?_
    rintro e W1 ⟨rfl, hb1⟩
    have HB1 := Lib.hid hb1
    clear hb1
    go_wp2
    go_ret
    exact ⟨rfl, HB1.out⟩
  by_cases c2 : 20 < m
  · have i1 : ¬ (20 : Int) < (n : Int) := by omega
    have i2 : (20 : Int) < (m : Int) := by omega
    go_enter Try.func6, Try.ntmps6
    go_wp2_with fail
    refine (alive21_c _).mono ?_
    rintro e W1 ⟨rfl, hb1⟩
    have HB1 := Lib.hid hb1
    clear hb1
    go_wp2
    go_ret
    exact ⟨rfl, HB1.out⟩
  exact sames_main w A n cap TH RA RL RC R h B m cap' TH' RA' RL' RC' R' h' (by omega) (by omega)
end Go.Proofs.Ytblbedffoeomeaa
