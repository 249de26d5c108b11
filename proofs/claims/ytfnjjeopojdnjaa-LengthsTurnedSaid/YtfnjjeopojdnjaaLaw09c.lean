/-
  LAW 09: LengthsOften. No conditions.
-/
import Derived.Test.YtfnjjeopojdnjaaLaw09
import Derived.Lib.MinMax
import Derived.Deep.QuietTactic
import Derived.Deep.RegionHeld3
import Derived.IntWalk
import Derived.Deep.AppendLies
namespace Go.Proofs.Ytfnjjeopojdnjaa
open Go.RowKit
set_option maxRecDepth 100000
set_option linter.unusedVariables false

/-- a row of numbers, told by a function -/
def lsF (f : Nat → Int) (n : Nat) : List Int := (List.range n).map f
def iF (f : Nat → Int) (n : Nat) : List Value := (List.range n).map fun v => .int .i64 (f v)
theorem lsF_at (f : Nat → Int) {n v : Nat} (h : v < n) : gi (lsF f n) v = f v := by
  unfold gi lsF
  simp [List.getD_eq_getElem?_getD, h]
theorem iF_succ (f : Nat → Int) (n : Nat) : iF f (n + 1) = iF f n ++ [.int .i64 (f n)] := by simp [iF, List.range_succ]
theorem iF_length (f : Nat → Int) (n : Nat) : (iF f n).length = n := by simp [iF]
theorem iF_at (f : Nat → Int) {n v : Nat} (h : v < n) : (iF f n)[v]? = some (.int .i64 (f v)) := by simp [iF, h]
theorem wf_in {x : Int} (h : -9223372036854775808 ≤ x ∧ x ≤ 9223372036854775807) : (Lit.int .i64 x).wf = true := by
  have hmin : IntKind.i64.min = -9223372036854775808 := rfl
  have hmax : IntKind.i64.max = 9223372036854775807 := rfl
  simp only [Lit.wf, Bool.and_eq_true, decide_eq_true_eq]
  omega
theorem IRow.ofF {w : World} {base c n : Nat} {O : Option Addr} {f : Nat → Int} (h : w.ownsRow base 3 1 (.slice O n c) n (iF f n)) (hs : ∀ v, v < n → -9223372036854775808 ≤ f v ∧ f v ≤ 9223372036854775807) (hn : n ≤ 1000) : IRow w O n .i64 (lsF f n) := by
  refine ⟨by simp [lsF], by unfold maxLen; omega, fun h0 => ?_, fun i hi => ?_⟩
  · obtain ⟨g', cap, hv, _, hlt⟩ := h.form h0
    injection hv with hv1 _ hv3
    subst hv1 hv3
    refine ⟨g', 0, rfl, hlt, fun i hi => ?_⟩
    rw [Nat.zero_add, h.cellAt i (by omega), iF_at f hi, lsF_at f hi]
  · rw [lsF_at f hi]
    exact wf_in (hs i hi)
theorem comeN_congr {fr fr' : List Int} : ∀ k, (∀ v, v < k → (0 < gi fr v ↔ 0 < gi fr' v)) → comeN fr k = comeN fr' k := by
  intro k
  induction k with
  | zero => intro _; rfl
  | succ k ih =>
    intro h
    show comeN fr k ++ (if 0 < gi fr k then [k] else []) = comeN fr' k ++ (if 0 < gi fr' k then [k] else [])
    rw [ih fun v hv => h v (by omega)]
    congr 1
    by_cases h0 : 0 < gi fr k
    · rw [if_pos h0, if_pos ((h k (by omega)).1 h0)]
    · rw [if_neg h0, if_neg fun h1 => h0 ((h k (by omega)).2 h1)]
theorem FreqB_of {fr : List Int} {n : Nat} (h : ∀ i, i < n → 0 ≤ gi fr i ∧ gi fr i ≤ 1073741824) : FreqB fr n = true := by
  induction n with
  | zero => rfl
  | succ n ih => unfold FreqB; rw [ih fun i hi => h i (by omega), decide_eq_true (h n (by omega))]; rfl
theorem chk_of {fr : List Int} {n : Nat} {L : Int} (hL : 1 ≤ L ∧ L ≤ 15) (hn : n ≤ 288) (hf : ∀ i, i < n → 0 ≤ gi fr i ∧ gi fr i ≤ 1073741824) (hm : (comeN fr n).length ≤ 2 ^ L.toNat) : chkE fr n L = 0 := by
  unfold chkE
  rw [if_neg (by omega), if_neg (by omega), if_neg (by rw [FreqB_of hf]; decide), if_neg (by omega)]
def dbF (fr : List Int) (v : Nat) : Int := 2 * gi fr v
theorem co_double (fr : List Int) (o : Nat → Nat) (n : Nat) (hf : ∀ i, i < n → 0 ≤ gi fr i) : ∀ k, k ≤ n → coF (lsF (dbF fr) n) o k = 2 * coF fr o k := by
  intro k
  induction k with
  | zero => intro _; rfl
  | succ k ih =>
    intro hk
    show coF (lsF (dbF fr) n) o k + (gi (lsF (dbF fr) n) k).toNat * o k = 2 * (coF fr o k + (gi fr k).toNat * o k)
    rw [ih (by omega), lsF_at _ (by omega)]
    have h1 := hf k (by omega)
    rw [show (dbF fr k).toNat = 2 * (gi fr k).toNat by unfold dbF; omega, Nat.mul_add, Nat.mul_assoc]
theorem kr_same {fr fr' : List Int} (o : Nat → Nat) {n : Nat} (h : ∀ v, v < n → (0 < gi fr v ↔ 0 < gi fr' v)) : krF fr o n = krF fr' o n := by
  refine sumF_congr fun v hv => ?_
  by_cases h0 : 0 < gi fr v
  · rw [if_pos h0, if_pos ((h v hv).1 h0)]
  · rw [if_neg h0, if_neg fun h1 => h0 ((h v hv).2 h1)]
theorem MadeX.kr_le {fr : List Int} {n L m : Nat} {A : Nat → Nat} (h : MadeX fr n L m A) : krF fr A n ≤ 32768 := by
  rw [h.full]
  split
  · omega
  · split <;> omega
/-- twice as often, twice the cost -/
theorem twice_cost {fr : List Int} {n L m m' : Nat} {A A' : Nat → Nat} (h : MadeX fr n L m A) (h' : MadeX (lsF (dbF fr) n) n L m' A') (hf : ∀ i, i < n → 0 ≤ gi fr i) : coF (lsF (dbF fr) n) A' n = 2 * coF fr A n := by
  have hp : ∀ v, v < n → (0 < gi fr v ↔ 0 < gi (lsF (dbF fr) n) v) := fun v hv => by
    rw [lsF_at _ hv]
    unfold dbF
    omega
  have h1 := h.least A' (fun v hv h0 => ⟨h'.pos v hv ((hp v hv).1 h0), h'.most v⟩) (by rw [kr_same A' hp]; exact h'.kr_le)
  have h2 := h'.least A (fun v hv h0 => ⟨h.pos v hv ((hp v hv).2 h0), h.most v⟩) (by rw [← kr_same A hp]; exact h.kr_le)
  have e1 := co_double fr A' n hf n (Nat.le_refl _)
  have e2 := co_double fr A n hf n (Nat.le_refl _)
  omega
theorem more_cost {fr : List Int} {n L L' m : Nat} {A A' : Nat → Nat} (h : MadeX fr n L m A) (h' : MadeX fr n L' m A') (hL : L ≤ L') : coF fr A' n ≤ coF fr A n :=
  h'.least A (fun v hv h0 => ⟨h.pos v hv h0, Nat.le_trans (h.most v) hL⟩) h.kr_le
theorem pow_mono {a b : Nat} (h : a ≤ b) : 2 ^ a ≤ 2 ^ b := Nat.pow_le_pow_right (by decide) h
theorem hN_in2 {x : Int} {b : Nat} (h0 : 0 ≤ x) (h1 : x ≤ b) : hN x b = x.toNat := by unfold hN; omega
theorem cst_madeX {fr : List Int} {n L m : Nat} {A : Nat → Nat} (h : MadeX fr n L m A) (hL : L ≤ 15) (hf : ∀ i, i < n → 0 ≤ gi fr i ∧ gi fr i ≤ 1073741824) : ∀ k, k ≤ n → cst fr (nI (arr A n)) k = coF fr A k := by
  intro k
  induction k with
  | zero => intro _; rfl
  | succ k ih =>
    intro hk
    show cst fr _ k + _ = coF fr A k + (gi fr k).toNat * A k
    have h1 := hf k (by omega)
    have h2 := h.most k
    rw [ih (by omega), hN_in2 h1.1 (by omega), arr_gi A (show k < n by omega), hN_in2 (by omega) (by omega), Int.toNat_natCast]
theorem one_cellF (w : World) (x : Int) : ∀ j u, ([.int .i64 x] : List Value)[j]? = some u → (w.alloc (.cells #[.int .i64 x] 3)).cell? ((⟨w.heap.size, 0, none⟩ : Addr).add j) = some u := by
  have h := World.news_of_block (cs := #[.int .i64 x]) (t := 3) (fr := (0, 0)) (heap_alloc_new w (.cells #[.int .i64 x] 3))
  exact h
set_option maxRecDepth 1000000 in
set_option maxHeartbeats 16000000 in
theorem walk_LengthsOften (w : World) (A : Option Addr) (n ca : Nat) (fr : List Int) (ha : IRow w A n .i64 fr) (L : Int) (_hL : (Lit.int .i64 L).wf = true) :
    Calls Try.prog 6 #[.slice A n ca, .int .i64 L] w fun e w' => e = .returned (.bool true) ∧ Below w.heap.size w w' := by
  obtain ⟨i0, hi, hz0, hz1, hz2⟩ := info_parts info_int
  have hm1 := ha.max'
  by_cases h1 : (100 : Int) < n
  · go_enter Try.func6, Try.ntmps6
    go_wp2_with fail
    refine (alive09_c w).mono ?_
    rintro e w1 ⟨rfl, hb1⟩
    go_wp2
    go_ret
    exact ⟨rfl, hb1⟩
  · by_cases hno : chkE fr n L = 0
    · obtain ⟨hL, hn, hfb, hmany⟩ := chk_no hno
      have HFR := Lib.hid (FreqB_all hfb)
      obtain ⟨Lk, rfl⟩ : ∃ k : Nat, L = (k : Int) := ⟨L.toNat, by omega⟩
      have hLk : Lk ≤ 15 := by omega
      have hL1 : 1 ≤ Lk := by omega
      have HNO := Lib.hid hno
      have HMY := Lib.hid hmany
      obtain ⟨L2, hL2⟩ : ∃ L2, L2 = min (Lk + 1) 15 := ⟨_, rfl⟩
      have hL2i : min ((Lk : Int) + 1) 15 = (L2 : Int) := by omega
      have HNO2 : Hid (chkE fr n (L2 : Int) = 0) := chk_of (by omega) hn HFR.out (Nat.le_trans HMY.out (by rw [Int.toNat_natCast, Int.toNat_natCast]; exact pow_mono (by omega)))
      have HL2 : Hid (Lk ≤ L2 ∧ L2 ≤ 15) := by unfold Hid; omega
      clear hno hfb hmany hL2
      go_enter Try.func6, Try.ntmps6
      go_wp2_with fail
      refine (alive09_c w).mono ?_
      rintro e w1 ⟨rfl, hb1⟩
      have ha1 := ha.below hb1
      clear ha
      go_wp2_with fail
      refine (Check_c A n ca fr Lk w1 ha1).mono ?_
      rintro e w3 ⟨rfl, q, rfl⟩
      rw [HNO.out]
      have ha3 := ha1.drewN q
      have hB3 := below_drewN hb1 q
      generalize w1.drewN q = w3 at *
      clear ha1 hb1
      have hnn : ((n : Int) != (n : Int)) = false := by simp
      go_wp2
      go_loopw [5, 31] (fun vd vk wr => ∃ (k c : Nat) (O : Option Addr), k ≤ n ∧ vk = .int .i64 k ∧ vd = .slice O k c ∧ wr.ownsRow w3.heap.size 3 1 (.slice O k c) k (iF (dbF fr) k) ∧ Hid (∀ v, v < k → gi fr v ≤ 1048576) ∧ Below w3.heap.size w3 wr)
        (fun _ vk _ => n - (intOf vk).toNat)
      case atStart => exact ⟨0, 0, some ⟨w3.heap.size, 0, none⟩, by omega, rfl, rfl, World.ownsRow_made w3 #[] 0 (Nat.le_refl _) (Nat.zero_le _) rfl, fun v hv => by omega, (Below.refl _ _).alloc (Nat.le_refl _) _⟩
      case round =>
        obtain ⟨k, c, O, hk, rfl, rfl, hown, hsm, hbel⟩ := hrel
        by_cases hlt : k < n
        · have hkn : (k : Int) < n := by omega
          obtain ⟨b1, o1, rfl, _, q1⟩ := (ha3.below hbel).at_ hlt
          have hf0 := (HFR.out k hlt).1
          by_cases hbig : 1048576 < gi fr k
          · generalize gi fr k = f at *
            go_wp2
            go_ret
            exact ⟨rfl, hB3.trans (hbel.mono hB3.size)⟩
          · have hsm2 : Hid (∀ v, v < k + 1 → gi fr v ≤ 1048576) := fun v hv => by
              rcases (show v < k ∨ v = k by omega) with h3 | rfl
              · exact hsm.out v h3
              · omega
            have hdb : Hid (iF (dbF fr) (k + 1) = iF (dbF fr) k ++ [.int .i64 (2 * gi fr k)]) := iF_succ _ _
            generalize gi fr k = f at *
            obtain ⟨t, ht⟩ : ∃ t, t = 2 * f := ⟨_, rfl⟩
            have hti : 2 * f = t := ht.symm
            have ht9 : 0 ≤ t ∧ t ≤ 2097152 := by omega
            have htw : IntKind.i64.wrap t = t := IntWalk.i64_in _ (by omega)
            rw [hti] at hdb
            clear ht
            have hs3 := hbel.size
            go_wp2_with (at_builtin; refine wpList_append_lies _ rfl _ _ 22 rfl w3.heap.size 3 i0 (.int .i64 0) 1 8 Try.underlying22 hi hz0 hz1 hz2 rfl (by decide) (.slice O k c) k (iF (dbF fr) k) rfl (hown.alloc _) ⟨wr.heap.size, 0, none⟩ 1 1 [.int .i64 t] rfl rfl (one_cellF wr t) (by intro u hu; simp at hu; subst hu; rfl) (by omega) (by unfold maxLen; omega) (by omega) (by simp; omega) _ rfl ?_; intro gg cap w5 hown5 hgrow hat hlt5)
            go_wp2
            go_roundw
            case rel => exact ⟨k + 1, cap, some ⟨gg, 0, none⟩, by omega, by go_num, by go_num, by rw [hdb.out]; exact hown5, hsm2, (hbel.alloc hs3 _).grown hgrow (by simp; omega) (fun j hj => (hown.lt j hj).1)⟩
            case measure => simp [intOf]; omega
        · obtain rfl : k = n := by omega
          have hkn : ¬ (k : Int) < (k : Int) := by omega
          have hrD := IRow.ofF hown (fun v hv => by have := hsm.out v hv; have := (HFR.out v hv).1; unfold dbF; omega) (by omega)
          have hdv : ∀ v, v < k → gi (lsF (dbF fr) k) v = 2 * gi fr v := fun v hv => lsF_at _ hv
          have hdr : ∀ v, v < k → 0 ≤ gi (lsF (dbF fr) k) v ∧ gi (lsF (dbF fr) k) v ≤ 1073741824 := fun v hv => by
            rw [hdv v hv]
            have := hsm.out v hv; have := (HFR.out v hv).1
            omega
          have HDR := Lib.hid hdr
          have HNO3 : Hid (chkE (lsF (dbF fr) k) k (Lk : Int) = 0) := chk_of (by omega) hn hdr (by rw [← comeN_congr (fr := fr) k (fun v hv => by rw [hdv v hv]; omega)]; exact HMY.out)
          have ha4 := ha3.below hbel
          have hB4 := hB3.trans (hbel.mono hB3.size)
          clear hdr hdv hown hbel ha3 hB3
          go_wp2_with fail
          refine (Make_x A k ca fr Lk wr ha4 HNO.out).mono ?_
          rintro e w5 ⟨g1, rfl, A1, hr1, hx1, hb5⟩
          rw [Int.toNat_natCast] at hx1
          have ha5 := ha4.below hb5
          have hD5 := hrD.below hb5
          have hB5 := hB4.trans (hb5.mono hB4.size)
          have HX1 := Lib.hid hx1
          clear ha4 hrD hB4 hb5 hx1
          go_wp2_with fail
          refine (Make_x A k ca fr L2 w5 ha5 HNO2.out).mono ?_
          rintro e w6 ⟨g2, rfl, A2, hr2, hx2, hb6⟩
          rw [Int.toNat_natCast] at hx2
          have ha6 := ha5.below hb6
          have hD6 := hD5.below hb6
          have hr16 := hr1.below hb6
          have hB6 := hB5.trans (hb6.mono hB5.size)
          have HX2 := Lib.hid hx2
          clear ha5 hD5 hr1 hB5 hb6 hx2
          go_wp2_with fail
          refine (Make_x O k c (lsF (dbF fr) k) Lk w6 hD6 HNO3.out).mono ?_
          rintro e w7 ⟨g3, rfl, A3, hr3, hx3, hb7⟩
          rw [Int.toNat_natCast] at hx3
          have ha7 := ha6.below hb7
          have hD7 := hD6.below hb7
          have hr17 := hr16.below hb7
          have hr27 := hr2.below hb7
          have hB7 := hB6.trans (hb7.mono hB6.size)
          have HX3 := Lib.hid hx3
          clear ha6 hD6 hr16 hr2 hB6 hb7 hx3
          go_wp2
          go_loopw [70] (fun vi wr => ∃ i q : Nat, i ≤ k ∧ vi = .int .i64 i ∧ Hid (wr = w7.drewN q)) (fun vi _ => k - (intOf vi).toNat)
          case atStart => exact ⟨0, 0, by omega, rfl, rfl⟩
          case round =>
            obtain ⟨i, q, hik, rfl, hw⟩ := hrel
            by_cases hlti : i < k
            · have hii : (i : Int) < k := by omega
              go_wp2
              go_loopw [75] (fun vj wr => ∃ j q : Nat, j ≤ k ∧ vj = .int .i64 j ∧ Hid (wr = w7.drewN q)) (fun vj _ => k - (intOf vj).toNat)
              case atStart => exact ⟨0, q, by omega, rfl, hw⟩
              case round =>
                clear hw
                obtain ⟨j, q, hjk, rfl, hw⟩ := hrel
                by_cases hltj : j < k
                · have hjj : (j : Int) < k := by omega
                  have ha8 := ha7.drewN q
                  have hr8 := hr17.drewN q
                  rw [← hw.out] at ha8 hr8
                  obtain ⟨b1, o1, rfl, _, q1⟩ := ha8.at_ hlti
                  obtain ⟨b2, o2, e2, _, q2⟩ := ha8.at_ hltj
                  injection e2 with e2
                  injection e2 with e2 e2'
                  subst e2 e2'
                  obtain ⟨b3, o3, e3, _, q3⟩ := hr8.at_ hlti
                  injection e3 with e3
                  injection e3 with e3 e3'
                  subst e3 e3'
                  obtain ⟨b4, o4, e4, _, q4⟩ := hr8.at_ hltj
                  injection e4 with e4
                  injection e4 with e4 e4'
                  subst e4 e4'
                  rw [Nat.zero_add, arr_gi A1 hlti] at q3
                  rw [Nat.zero_add, arr_gi A1 hltj] at q4
                  have hfall := HX1.out.falls i j hlti hltj
                  generalize gi fr i = fi at *
                  generalize gi fr j = fj at *
                  generalize A1 i = xi at *
                  generalize A1 j = xj at *
                  clear ha8 hr8
                  by_cases hc1 : fj < fi
                  · by_cases hc2 : 0 < fj
                    · have hc3 : ¬ (xj : Int) < (xi : Int) := by have := hfall hc2 hc1; omega
                      clear hfall
                      go_wp2
                      go_region_held3 (fun w' => w'.cell? ⟨b1, o1 + i, none⟩ = some (.int .i64 fi) ∧ w'.cell? ⟨b1, o1 + j, none⟩ = some (.int .i64 fj) ∧ w'.cell? ⟨g1, i, none⟩ = some (.int .i64 (xi : Nat)) ∧ w'.cell? ⟨g1, j, none⟩ = some (.int .i64 (xj : Nat))) (go_keep) (fail)
                      go_wp2
                      go_roundw
                      case rel => exact ⟨j + 1, q + 1, by omega, by go_num, by unfold Hid; rw [hw.out]; rfl⟩
                      case measure => simp [intOf]; omega
                    · clear hfall
                      have hd1 : decide (fj < fi) = true := decide_eq_true hc1
                      have hd2 : decide (0 < fj) = false := decide_eq_false hc2
                      go_wp2
                      go_quiet (fail)
                      go_wp2
                      go_roundw
                      case rel => exact ⟨j + 1, q + nq, by omega, by go_num, by unfold Hid; rw [hw.out, World.drewN_drewN]⟩
                      case measure => simp [intOf]; omega
                  · clear hfall
                    have hd1 : decide (fj < fi) = false := decide_eq_false hc1
                    go_wp2
                    go_quiet (fail)
                    go_wp2
                    go_roundw
                    case rel => exact ⟨j + 1, q + nq, by omega, by go_num, by unfold Hid; rw [hw.out, World.drewN_drewN]⟩
                    case measure => simp [intOf]; omega
                · obtain rfl : j = k := by omega
                  have hjj : ¬ (j : Int) < (j : Int) := by omega
                  go_wp2
                  go_roundw
                  case rel => exact ⟨i + 1, q, by omega, by go_num, hw⟩
                  case measure => simp [intOf]; omega
            · obtain rfl : i = k := by omega
              have hii : ¬ (i : Int) < (i : Int) := by omega
              have ha8 := ha7.drewN q
              have hD8 := hD7.drewN q
              have hr18 := hr17.drewN q
              have hr28 := hr27.drewN q
              have hr38 := hr3.drewN q
              have hB8 := below_drewN hB7 q
              rw [← hw.out] at ha8 hD8 hr18 hr28 hr38 hB8
              have e1 := cst_madeX HX1.out hLk HFR.out i (Nat.le_refl _)
              have e2 := cst_madeX HX2.out HL2.out.2 HFR.out i (Nat.le_refl _)
              have e3 := cst_madeX HX3.out hLk HDR.out i (Nat.le_refl _)
              have m1 := more_cost HX1.out HX2.out HL2.out.1
              have m2 := twice_cost HX1.out HX3.out (fun v hv => (HFR.out v hv).1)
              rw [← e1, ← e2] at m1
              rw [← e1, ← e3] at m2
              have hb9 := cst_le fr (nI (arr A1 i)) i
              have C1 := fun W h1 h2 => Cost_c A (some ⟨g1, 0, none⟩) i i ca i fr (nI (arr A1 i)) W h1 h2 (by omega) (by omega)
              have C2 := fun W h1 h2 => Cost_c A (some ⟨g2, 0, none⟩) i i ca i fr (nI (arr A2 i)) W h1 h2 (by omega) (by omega)
              have C3 := fun W h1 h2 => Cost_c O (some ⟨g3, 0, none⟩) i i c i (lsF (dbF fr) i) (nI (arr A3 i)) W h1 h2 (by omega) (by omega)
              rw [Nat.min_self] at C1 C2 C3
              generalize cst fr (nI (arr A1 i)) i = x1 at *
              generalize cst fr (nI (arr A2 i)) i = x2 at *
              generalize cst (lsF (dbF fr) i) (nI (arr A3 i)) i = x3 at *
              have m1i : (x2 : Int) ≤ (x1 : Int) := by omega
              have m2i : 2 * (x1 : Int) = (x3 : Int) := by omega
              have hx3 : x3 ≤ 9223372036854775807 := by omega
              have hxw : IntKind.i64.wrap (x3 : Int) = (x3 : Int) := IntWalk.i64_in _ (by omega)
              clear e1 e2 e3 m1 m2 hw ha7 hD7 hr17 hr27 hr3 hB7
              go_wp2_with fail
              refine (C1 wr ha8 hr18).mono ?_
              rintro e w9 ⟨rfl, q9, rfl⟩
              have ha9 := ha8.drewN q9
              have hD9 := hD8.drewN q9
              have hr29 := hr28.drewN q9
              have hr39 := hr38.drewN q9
              have hB9 := below_drewN hB8 q9
              generalize wr.drewN q9 = w9 at *
              go_wp2_with fail
              refine (C2 w9 ha9 hr29).mono ?_
              rintro e w10 ⟨rfl, q10, rfl⟩
              have hD10 := hD9.drewN q10
              have hr310 := hr39.drewN q10
              have hB10 := below_drewN hB9 q10
              generalize w9.drewN q10 = w10 at *
              go_wp2_with fail
              refine (C3 w10 hD10 hr310).mono ?_
              rintro e w11 ⟨rfl, q11, rfl⟩
              go_wp2
              go_ret
              exact ⟨rfl, below_drewN hB10 q11⟩
    · have hnz : ((chkE fr n L : Int) != 0) = true := by simp; omega
      go_enter Try.func6, Try.ntmps6
      go_wp2_with fail
      refine (alive09_c w).mono ?_
      rintro e w1 ⟨rfl, hb1⟩
      have ha1 := ha.below hb1
      clear ha hno
      go_wp2_with fail
      refine (Check_c A n ca fr L w1 ha1).mono ?_
      rintro e w3 ⟨rfl, q, rfl⟩
      generalize chkE fr n L = x at *
      go_wp2
      go_ret
      exact ⟨rfl, below_drewN hb1 q⟩
end Go.Proofs.Ytfnjjeopojdnjaa
