/-
  TABLES OF SLOTS THAT COME IN; Count, Same. No conditions.
-/
import Derived.Test.YtfjpbbejhegcjaaVla
import Derived.Deep.RegionWith
namespace Go.Proofs.Ytfjpbbejhegcjaa
open Go.RowKit
set_option maxRecDepth 100000
set_option linter.unusedVariables false

/-- a row of slots -/
structure TIn (w : World) (A : Option Addr) (n cap : Nat) (TH : Nat → Bool) (RA : Nat → Option Addr) (RL RC : Nat → Nat) (R : Nat → List F) : Prop where
  le : n ≤ cap
  max : cap ≤ maxLen
  top : 0 < n → ∃ b off, A = some ⟨b, off, none⟩ ∧ b < w.heap.size ∧ ∀ r, r < n → w.cell? ⟨b, off + r * 2, none⟩ = some (.bool (TH r)) ∧ w.cell? ⟨b, off + r * 2 + 1, none⟩ = some (.slice (RA r) (RL r) (RC r))
  row : ∀ r, r < n → RowIn w (RA r) (RL r) (RC r) (R r)
namespace TIn
variable {w w' : World} {A : Option Addr} {n cap : Nat} {TH : Nat → Bool} {RA : Nat → Option Addr} {RL RC : Nat → Nat} {R : Nat → List F}
theorem below (h : TIn w A n cap TH RA RL RC R) (hb : Below w.heap.size w w') : TIn w' A n cap TH RA RL RC R :=
  ⟨h.le, h.max, fun hn => by
    obtain ⟨b, off, e, hl, hc⟩ := h.top hn
    exact ⟨b, off, e, by have := hb.size; omega, fun r hr => ⟨(hb.cell (p := ⟨b, off + r * 2, none⟩) hl).trans (hc r hr).1, (hb.cell (p := ⟨b, off + r * 2 + 1, none⟩) hl).trans (hc r hr).2⟩⟩, fun r hr => (h.row r hr).below hb⟩
theorem drewN (h : TIn w A n cap TH RA RL RC R) (q : Nat) : TIn (w.drewN q) A n cap TH RA RL RC R := ⟨h.le, h.max, h.top, fun r hr => (h.row r hr).drewN q⟩
theorem at_ (h : TIn w A n cap TH RA RL RC R) {r : Nat} (hr : r < n) : ∃ b off, A = some ⟨b, off, none⟩ ∧ b < w.heap.size ∧ w.cell? ⟨b, off + r * 2, none⟩ = some (.bool (TH r)) ∧ w.cell? ⟨b, off + r * 2 + 1, none⟩ = some (.slice (RA r) (RL r) (RC r)) := by
  obtain ⟨b, off, e, hl, hc⟩ := h.top (by omega)
  exact ⟨b, off, e, hl, hc r hr⟩
theorem nmax (h : TIn w A n cap TH RA RL RC R) : n ≤ 9223372036854775807 := by have := h.le; have := h.max; unfold maxLen at this; omega
theorem nil (w : World) (TH : Nat → Bool) (RA : Nat → Option Addr) (RL RC : Nat → Nat) (R : Nat → List F) : TIn w none 0 0 TH RA RL RC R := ⟨Nat.le_refl _, by unfold maxLen; omega, fun h => by omega, fun r hr => by omega⟩
theorem take (h : TIn w A n cap TH RA RL RC R) {k : Nat} (hk : k ≤ n) : TIn w A k cap TH RA RL RC R :=
  ⟨Nat.le_trans hk h.le, h.max, fun h0 => by
    obtain ⟨b, off, e, hl, hc⟩ := h.top (by omega)
    exact ⟨b, off, e, hl, fun r hr => hc r (by omega)⟩, fun r hr => h.row r (by omega)⟩
end TIn
/-- how many are there -/
def cntS (TH : Nat → Bool) : Nat → Nat
  | 0 => 0
  | k + 1 => cntS TH k + (if TH k then 1 else 0)
theorem cntS_le (TH : Nat → Bool) : ∀ k, cntS TH k ≤ k
  | 0 => Nat.le_refl _
  | k + 1 => by
    have := cntS_le TH k
    show cntS TH k + _ ≤ k + 1
    split <;> omega
theorem Count_c {w : World} {A : Option Addr} {n cap : Nat} {TH : Nat → Bool} {RA : Nat → Option Addr} {RL RC : Nat → Nat} {R : Nat → List F} (h : TIn w A n cap TH RA RL RC R) :
    Calls Try.prog 9 #[.slice A n cap] w fun e w' => e = .returned (.int .i64 (cntS TH n : Nat)) ∧ Below w.heap.size w w' := by
  have hn := h.nmax
  go_enter Try.func9, Try.ntmps9
  go_wp2
  go_loopw [3, 8] (fun s i wr => ∃ k t : Nat, k ≤ n ∧ i = .int .i64 k ∧ s = .int .i64 t ∧ Hid (t = cntS TH k) ∧ Hid (Below w.heap.size w wr)) (fun _ i _ => n - (intOf i).toNat)
  case atStart => exact ⟨0, 0, by omega, rfl, rfl, rfl, Below.refl _ _⟩
  case round =>
    obtain ⟨k, t, hk, rfl, rfl, ht, hb⟩ := hrel
    have htk : t ≤ k := by rw [ht.out]; exact cntS_le TH k
    by_cases hlt : k < n
    · have hkn : (k : Int) < n := by omega
      obtain ⟨b1, o1, rfl, _, q0, q1⟩ := (h.below hb.out).at_ hlt
      have hba := fun C => hb.out.alloc hb.out.size (.cells C 27)
      have HBA := Lib.hid hba
      have hs : cntS TH (k + 1) = cntS TH k + (if TH k then 1 else 0) := rfl
      have HSS := Lib.hid hs
      clear hs hba
      generalize RA k = ra at *
      generalize RL k = rl at *
      generalize RC k = rc at *
      generalize TH k = th at *
      cases th
      case true =>
        have hnext : Hid (t + 1 = cntS TH (k + 1)) := by unfold Hid; rw [HSS.out, ht.out]; rfl
        go_wp2
        go_roundw
        case rel => exact ⟨k + 1, t + 1, by omega, by go_num, by go_num, hnext, Lib.hid (HBA.out _)⟩
        case measure => simp [intOf]; omega
      case false =>
        have hnext : Hid (t = cntS TH (k + 1)) := by unfold Hid; rw [HSS.out, ht.out]; rfl
        go_wp2
        go_roundw
        case rel => exact ⟨k + 1, t, by omega, by go_num, rfl, hnext, Lib.hid (HBA.out _)⟩
        case measure => simp [intOf]; omega
    · obtain rfl : k = n := by omega
      go_wp2
      go_ret
      exact ⟨by rw [ht.out]; rfl, hb.out⟩
/-- two slots are the same -/
def sameS (a : Bool) (l : List F) (b : Bool) (m : List F) : Bool := (a == b) && (!a || decide (l = m))
theorem EqualV_c (A B : Option Addr) (n m ca cb : Nat) (a b : List F) (w : World) (ha : Row w A n a) (hb : Row w B m b) :
    Calls Try.prog 24 #[.slice A n ca, .slice B m cb] w fun e w' => e = .returned (.bool (decide (a = b))) ∧ w = w' := by
  have h1 := run_row_string ca ha
  have h2 := run_row_string cb hb
  have h3 : ((strB a).toList == (strB b).toList) = decide (a = b) := by
    have e : ∀ l : List F, (strB l).toList = l.map toB := fun l => by rw [ByteArray.toList_eq]; simp [strB]
    rw [e, e]
    by_cases h : a = b
    · subst h; simp
    · rw [decide_eq_false h, beq_eq_false_iff_ne]
      exact fun e => h ((List.map_inj_right (fun x y e => e)).1 e)
  have H3 := Lib.hid h3
  clear h3
  go_enter Try.func24, Try.ntmps24
  go_wp2
  go_ret
  exact ⟨ret_bool H3.out, rfl⟩
theorem Same1_c (x y : Bool) (A B : Option Addr) (n m ca cb : Nat) (a b : List F) (w : World) (ha : x = true → Row w A n a) (hb : y = true → Row w B m b) :
    Calls Try.prog 23 #[.agg #[.bool x, .slice A n ca], .agg #[.bool y, .slice B m cb]] w fun e w' => e = .returned (.bool (sameS x a y b)) ∧ Below w.heap.size w w' := by
  have hb2 := ((Below.refl w.heap.size w).alloc (Nat.le_refl _) (.cells #[.bool x, .slice A n ca] 27)).alloc (by simp) (.cells #[.bool y, .slice B m cb] 27)
  have HB2 := Lib.hid hb2
  have HE := Lib.hid (fun (hx : x = true) (hy : y = true) => EqualV_c A B n m ca cb a b _ ((ha hx).keep hb2.size fun p hp => hb2.cell hp) ((hb hy).keep hb2.size fun p hp => hb2.cell hp))
  clear hb2 ha hb
  cases x
  · cases y
    · go_enter Try.func23, Try.ntmps23
      go_wp2
      go_ret
      exact ⟨rfl, HB2.out⟩
    · go_enter Try.func23, Try.ntmps23
      go_wp2
      go_ret
      exact ⟨rfl, HB2.out⟩
  · cases y
    · go_enter Try.func23, Try.ntmps23
      go_wp2
      go_ret
      exact ⟨rfl, HB2.out⟩
    · go_enter Try.func23, Try.ntmps23
      go_wp2_with (go_at_call 24; refine (HE.out rfl rfl).mono ?_; rintro e _ ⟨rfl, rfl⟩)
      go_ret
      exact ⟨by simp [sameS], HB2.out⟩
/-- a row of slots, of whose bytes those alone are told that are there -/
structure TIn2 (w : World) (A : Option Addr) (n cap : Nat) (TH : Nat → Bool) (RA : Nat → Option Addr) (RL RC : Nat → Nat) (R : Nat → List F) : Prop where
  le : n ≤ cap
  max : cap ≤ maxLen
  top : 0 < n → ∃ b off, A = some ⟨b, off, none⟩ ∧ b < w.heap.size ∧ ∀ r, r < n → w.cell? ⟨b, off + r * 2, none⟩ = some (.bool (TH r)) ∧ w.cell? ⟨b, off + r * 2 + 1, none⟩ = some (.slice (RA r) (RL r) (RC r))
  row : ∀ r, r < n → TH r = true → RowIn w (RA r) (RL r) (RC r) (R r)
namespace TIn2
variable {w w' : World} {A : Option Addr} {n cap : Nat} {TH : Nat → Bool} {RA : Nat → Option Addr} {RL RC : Nat → Nat} {R : Nat → List F}
theorem below (h : TIn2 w A n cap TH RA RL RC R) (hb : Below w.heap.size w w') : TIn2 w' A n cap TH RA RL RC R :=
  ⟨h.le, h.max, fun hn => by
    obtain ⟨b, off, e, hl, hc⟩ := h.top hn
    exact ⟨b, off, e, by have := hb.size; omega, fun r hr => ⟨(hb.cell (p := ⟨b, off + r * 2, none⟩) hl).trans (hc r hr).1, (hb.cell (p := ⟨b, off + r * 2 + 1, none⟩) hl).trans (hc r hr).2⟩⟩, fun r hr ht => (h.row r hr ht).below hb⟩
theorem at_ (h : TIn2 w A n cap TH RA RL RC R) {r : Nat} (hr : r < n) : ∃ b off, A = some ⟨b, off, none⟩ ∧ b < w.heap.size ∧ w.cell? ⟨b, off + r * 2, none⟩ = some (.bool (TH r)) ∧ w.cell? ⟨b, off + r * 2 + 1, none⟩ = some (.slice (RA r) (RL r) (RC r)) := by
  obtain ⟨b, off, e, hl, hc⟩ := h.top (by omega)
  exact ⟨b, off, e, hl, hc r hr⟩
theorem nmax (h : TIn2 w A n cap TH RA RL RC R) : n ≤ 9223372036854775807 := by have := h.le; have := h.max; unfold maxLen at this; omega
end TIn2
theorem TIn.two {w : World} {A : Option Addr} {n cap : Nat} {TH : Nat → Bool} {RA : Nat → Option Addr} {RL RC : Nat → Nat} {R : Nat → List F} (h : TIn w A n cap TH RA RL RC R) : TIn2 w A n cap TH RA RL RC R := ⟨h.le, h.max, h.top, fun r hr _ => h.row r hr⟩
/-- two tables are the same -/
def sameT (n : Nat) (TH : Nat → Bool) (R : Nat → List F) (m : Nat) (TH' : Nat → Bool) (R' : Nat → List F) : Prop := n = m ∧ ∀ r, r < n → sameS (TH r) (R r) (TH' r) (R' r) = true
instance (n : Nat) (TH : Nat → Bool) (R : Nat → List F) (m : Nat) (TH' : Nat → Bool) (R' : Nat → List F) : Decidable (sameT n TH R m TH' R') := by unfold sameT; infer_instance
set_option maxHeartbeats 1000000 in
theorem EqualFunc_c {w : World} {A : Option Addr} {n cap : Nat} {TH : Nat → Bool} {RA : Nat → Option Addr} {RL RC : Nat → Nat} {R : Nat → List F} (h : TIn w A n cap TH RA RL RC R) {A' : Option Addr} {m cap' : Nat} {TH' : Nat → Bool} {RA' : Nat → Option Addr} {RL' RC' : Nat → Nat} {R' : Nat → List F} (h' : TIn2 w A' m cap' TH' RA' RL' RC' R') :
    Calls Try.prog 22 #[.slice A n cap, .slice A' m cap', .func (.func 23) #[] #[]] w fun e w' => e = .returned (.bool (decide (sameT n TH R m TH' R'))) ∧ Below w.heap.size w w' := by
  have hn := h.nmax
  have hm := h'.nmax
  have H := Lib.hid h
  have H' := Lib.hid h'
  clear h h'
  by_cases hnm : n = m
  · subst hnm
    go_enter Try.func22, Try.ntmps22
    go_wp2
    go_loopw [17] (fun i wr => ∃ k : Nat, k ≤ n ∧ i = .int .i64 k ∧ Hid (∀ r, r < k → sameS (TH r) (R r) (TH' r) (R' r) = true) ∧ Hid (Below w.heap.size w wr)) (fun i _ => n - (intOf i).toNat)
    case atStart => exact ⟨0, by omega, rfl, fun r hr => absurd hr (by omega), Below.refl _ _⟩
    case round =>
      obtain ⟨k, hk, rfl, hS, hb⟩ := hrel
      by_cases hlt : k < n
      · have hkn : (k : Int) < n := by omega
        have hM := H.out.below hb.out
        have hM' := H'.out.below hb.out
        obtain ⟨b1, o1, rfl, l1, q0, q1⟩ := hM.at_ hlt
        obtain ⟨b2, o2, rfl, l2, p0, p1⟩ := hM'.at_ hlt
        have HR := Lib.hid (hM.row k hlt).row
        have HR' := Lib.hid (fun ht => (hM'.row k hlt ht).row)
        clear hM hM'
        obtain ⟨sv, hsv⟩ : ∃ sv, sv = sameS (TH k) (R k) (TH' k) (R' k) := ⟨_, rfl⟩
        have hC := fun W ha hb => Same1_c (TH k) (TH' k) (RA k) (RA' k) (RL k) (RL' k) (RC k) (RC' k) (R k) (R' k) W (fun _ => ha) hb
        rw [← hsv] at hC
        have HSV := Lib.hid hsv
        have HC := Lib.hid hC
        clear hsv hC
        have hba := (hb.out.alloc hb.out.size (.cells #[.bool (TH k), .slice (RA k) (RL k) (RC k)] 27))
        have hbb := hba.alloc hba.size (.cells #[.bool (TH' k), .slice (RA' k) (RL' k) (RC' k)] 27)
        have h0 := ((Below.refl wr.heap.size wr).alloc (Nat.le_refl _) (.cells #[.bool (TH k), .slice (RA k) (RL k) (RC k)] 27)).alloc (by simp) (.cells #[.bool (TH' k), .slice (RA' k) (RL' k) (RC' k)] 27)
        have HRa := Lib.hid (HR.out.keep h0.size fun p hp => h0.cell hp)
        have HRb := Lib.hid (fun ht => (HR'.out ht).keep h0.size fun p hp => h0.cell hp)
        have HBB := Lib.hid hbb
        clear hba hbb h0
        go_wp2_with fail
        refine (HC.out _ HRa.out HRb.out).mono ?_
        rintro e w3 ⟨rfl, hb3⟩
        have HB3 := Lib.hid (HBB.out.trans (hb3.mono HBB.out.size))
        clear hb3 q0 q1 p0 p1
        cases sv
        case true =>
          have hS2 : Hid (∀ r, r < k + 1 → sameS (TH r) (R r) (TH' r) (R' r) = true) := fun r hr => by
            by_cases e : r = k
            · subst e; exact HSV.out.symm
            · exact hS.out r (by omega)
          go_wp2
          go_roundw
          case rel => exact ⟨k + 1, by omega, by go_num, hS2, HB3⟩
          case measure => simp [intOf]; omega
        case false =>
          have hd : decide (sameT n TH R n TH' R') = false := decide_eq_false fun e => by
            have h2 := e.2 k hlt
            rw [← HSV.out] at h2
            cases h2
          have HD := Lib.hid hd
          clear hd
          go_wp2
          go_ret
          exact ⟨ret_bool HD.out.symm, HB3.out⟩
      · obtain rfl : k = n := by omega
        have hd : decide (sameT k TH R k TH' R') = true := decide_eq_true ⟨rfl, hS.out⟩
        have HD := Lib.hid hd
        clear hd
        go_wp2
        go_ret
        exact ⟨ret_bool HD.out.symm, hb.out⟩
  · have hne : ((n : Int) != (m : Int)) = true := by rw [bne_iff_ne]; omega
    have hd : decide (sameT n TH R m TH' R') = false := decide_eq_false fun e => hnm e.1
    have HD := Lib.hid hd
    clear hd
    go_enter Try.func22, Try.ntmps22
    go_wp2
    go_ret
    exact ⟨ret_bool HD.out.symm, Below.refl _ _⟩
theorem SameT21_c {w : World} {A : Option Addr} {n cap : Nat} {TH : Nat → Bool} {RA : Nat → Option Addr} {RL RC : Nat → Nat} {R : Nat → List F} (h : TIn w A n cap TH RA RL RC R) {A' : Option Addr} {m cap' : Nat} {TH' : Nat → Bool} {RA' : Nat → Option Addr} {RL' RC' : Nat → Nat} {R' : Nat → List F} (h' : TIn2 w A' m cap' TH' RA' RL' RC' R') :
    Calls Try.prog 10 #[.slice A n cap, .slice A' m cap'] w fun e w' => e = .returned (.bool (decide (sameT n TH R m TH' R'))) ∧ Below w.heap.size w w' := by
  have HC := Lib.hid (EqualFunc_c h h')
  clear h h'
  generalize decide (sameT n TH R m TH' R') = sv at *
  go_enter Try.func10, Try.ntmps10
  go_wp2_with fail
  refine HC.out.mono ?_
  rintro e w1 ⟨rfl, hb⟩
  go_wp2
  go_ret
  exact ⟨rfl, hb⟩
end Go.Proofs.Ytfjpbbejhegcjaa
