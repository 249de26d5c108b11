/-
  THE CONTRACT OF lengths.Make: which length each symbol gets, or what is wrong. No conditions.
-/
import Derived.Test.YtfnjjeopojdnjaaLenI
namespace Go.Proofs.Ytfnjjeopojdnjaa
open Go.RowKit
set_option maxRecDepth 100000
set_option linter.unusedVariables false

def arr (A : Nat → Nat) (n : Nat) : List Nat := (List.range n).map A
theorem arr_length (A : Nat → Nat) (n : Nat) : (arr A n).length = n := by simp [arr]
theorem arr_at (A : Nat → Nat) {n v : Nat} (h : v < n) : (arr A n).getD v 0 = A v := by simp [arr, List.getD_eq_getElem?_getD, h]
theorem arr_cell (A : Nat → Nat) {n v : Nat} (h : v < n) : (iN (arr A n))[v]? = some (.int .i64 (A v : Nat)) := by
  rw [iN_at _ (by rw [arr_length]; exact h), arr_at A h]
theorem arr_set (A : Nat → Nat) {n s x : Nat} (h : s < n) : (iN (arr A n)).set s (.int .i64 (x : Nat)) = iN (arr (fun v => if v = s then x else A v) n) := by
  refine iN_ext (by rw [List.length_set, iN_length, arr_length, arr_length]) fun k hk => ?_
  rw [arr_length] at hk
  rw [arr_at _ hk, List.getElem?_set]
  by_cases e : s = k
  · subst e
    rw [if_pos rfl, if_pos (by rw [iN_length, arr_length]; exact h), if_pos rfl]
  · rw [if_neg e, if_neg (fun h => e h.symm), arr_cell A hk]
theorem cnD_two {d : Nat → Nat} {v i j m : Nat} (hij : i < j) (hj : j < m) (hi : d i = v) (hj2 : d j = v) : 2 ≤ cnD d v m := by
  have h1 : cnD d v (i + 1) = cnD d v i + 1 := by rw [cnD_succ, if_pos hi]
  have h2 : cnD d v (j + 1) = cnD d v j + 1 := by rw [cnD_succ, if_pos hj2]
  have h3 := cnD_mono d v (show i + 1 ≤ j by omega)
  have h4 := cnD_mono d v (show j + 1 ≤ m by omega)
  omega
theorem Come.inj {fr : List Int} {n m : Nat} {d : Nat → Nat} (h : Come fr n m d) {i j : Nat} (hi : i < m) (hj : j < m) (e : d i = d j) : i = j := by
  have h1 := h.cnt (d j)
  have h2 : cnD d (d j) m ≤ 1 := by rw [h1]; split <;> omega
  rcases Nat.lt_trichotomy i j with h3 | h3 | h3
  · have := cnD_two h3 hj e rfl; omega
  · exact h3
  · have := cnD_two h3 hi rfl e; omega
/-- the weights in a row's order -/
def wD (fr : List Int) (d : Nat → Nat) (m : Nat) : List Nat := wtsL fr (lsD d m) m
theorem wD_length (fr : List Int) (d : Nat → Nat) (m : Nat) : (wD fr d m).length = m := wtsL_length _ _ _
theorem wD_at (fr : List Int) (d : Nat → Nat) {p m : Nat} (h : p < m) : (wD fr d m).getD p 0 = (gi fr (d p)).toNat := by
  unfold wD
  rw [wtsL_at _ _ h, lsD_at d h]
  simp
/-- the length of the symbol at a place -/
def lenP (fr : List Int) (d : Nat → Nat) (m L p : Nat) : Nat := if m = 1 then 1 else lenC (bestC (wD fr d m) L) p
structure Made (fr : List Int) (n L m : Nat) (d A : Nat → Nat) : Prop where
  come : Come fr n m d
  many : m ≤ 2 ^ L
  at_ : ∀ p, p < m → A (d p) = lenP fr d m L p
  none : ∀ v, (∀ p, p < m → d p ≠ v) → A v = 0
theorem lenC_snoc (X : List Nat) (a p : Nat) : lenC (X ++ [a]) p = lenC X p + if p < a then 1 else 0 := by
  induction X with
  | nil => show (if p < a then 1 else 0) + lenC [] p = lenC [] p + _; unfold lenC; omega
  | cons x X ih => show (if p < x then 1 else 0) + lenC (X ++ [a]) p = (if p < x then 1 else 0) + lenC X p + _; rw [ih]; omega
theorem lenC_take (B : List Nat) {i : Nat} (h : i < B.length) (p : Nat) : lenC (B.take (i + 1)) p = lenC (B.take i) p + if p < B.getD i 0 then 1 else 0 := by
  rw [List.take_succ_eq_append_getElem h, lenC_snoc, List.getD_eq_getElem?_getD, List.getElem?_eq_getElem h]
  rfl
theorem chk_no {fr : List Int} {n : Nat} {L : Int} (h : chkE fr n L = 0) : (1 ≤ L ∧ L ≤ 15) ∧ n ≤ 288 ∧ FreqB fr n = true ∧ (comeN fr n).length ≤ 2 ^ L.toNat := by
  unfold chkE at h
  split at h
  · cases h
  · split at h
    · cases h
    · split at h
      · cases h
      · split at h
        · cases h
        · rename_i h1 h2 h3 h4
          refine ⟨by omega, by omega, ?_, by omega⟩
          cases hq : FreqB fr n with
          | true => rfl
          | false => exact absurd hq h3
theorem wD_srt {fr : List Int} {n m : Nat} {d : Nat → Nat} (h : Come fr n m d) : Srt (wD fr d m) := by
  refine List.pairwise_iff_getElem.2 fun i j hi hj hij => ?_
  rw [wD_length] at hi hj
  have h1 := wD_at fr d hi
  have h2 := wD_at fr d hj
  rw [List.getD_eq_getElem?_getD, List.getElem?_eq_getElem (by rw [wD_length]; exact hi)] at h1
  rw [List.getD_eq_getElem?_getD, List.getElem?_eq_getElem (by rw [wD_length]; exact hj)] at h2
  simp only [Option.getD_some] at h1 h2
  rw [h1, h2]
  have := h.srt i j (by omega) hij hj
  omega
theorem wD_small {fr : List Int} {n m : Nat} {d : Nat → Nat} (h : Come fr n m d) (hf : ∀ i, i < n → 0 ≤ gi fr i ∧ gi fr i ≤ 1073741824) : ∀ x ∈ wD fr d m, x ≤ 1073741824 := by
  intro x hx
  obtain ⟨i, hi, rfl⟩ := List.mem_iff_getElem.1 hx
  have hi' := hi
  rw [wD_length] at hi'
  have h1 := wD_at fr d hi'
  rw [List.getD_eq_getElem?_getD, List.getElem?_eq_getElem hi] at h1
  simp only [Option.getD_some] at h1
  rw [h1]
  have := hf (d i) (h.sym i hi')
  omega
set_option maxHeartbeats 8000000 in
theorem Make_ok (FA : Option Addr) (n cf : Nat) (fr : List Int) (Li : Int) (w : World) (hf : IRow w FA n .i64 fr) (hok : chkE fr n Li = 0) :
    Calls Try.prog 10 #[.slice FA n cf, .int .i64 Li] w fun e w' => ∃ g, e = .returned (.tuple #[.slice (some ⟨g, 0, none⟩) n n, .int .i64 0]) ∧ ∃ m d A, w'.ownsRow w.heap.size 3 1 (.slice (some ⟨g, 0, none⟩) n n) n (iN (arr A n)) ∧ Made fr n Li.toNat m d A ∧ Below w.heap.size w w' := by
  obtain ⟨i0, hi, hz0, hz1, hz2⟩ := info_parts info_int
  obtain ⟨hL, hn, hfb, hmany⟩ := chk_no hok
  have hfr := FreqB_all hfb
  have hct := Contains3_c FA n cf fr w hf
  rw [hfb] at hct
  have HCT := Lib.hid hct
  have HRF := Lib.hid (rarestFirst_c FA n cf fr w hf (by omega))
  obtain ⟨L, p, rfl, hp, hpi, hp9⟩ := pow_limit Li hL
  rw [← hp] at hmany
  simp only [Int.toNat_natCast] at hp ⊢
  have HP := Lib.hid hp
  have HMANY := Lib.hid hmany
  have HFR := Lib.hid hfr
  have hL1 : ¬ (L : Int) < 1 := by omega
  have hL2 : ¬ (15 : Int) < (L : Int) := by omega
  have hn1 : ¬ (288 : Int) < (n : Int) := by omega
  clear hct hfb hok hL hp hmany hfr
  go_enter Try.func10, Try.ntmps10
  go_wp2_with fail
  refine HCT.out.mono ?_
  rintro e w' ⟨rfl, rfl⟩
  go_wp2_with fail
  refine HRF.out.mono ?_
  rintro e w1 ⟨O, c, d, m, rfl, hm, hmc, hrow, hcome, hb1⟩
  have hmp : ¬ (p : Int) < (m : Int) := by have := HMANY.out; omega
  have hf1 := hf.below hb1
  have hmn := hcome.le
  have HM2 : Hid (m ≤ 2 ^ L) := by have := HMANY.out; have := HP.out; unfold Hid; omega
  clear hm hf
  by_cases hm1 : m = 1
  · have hmi : ((m : Int) == 1) = true := by simp; omega
    have h0m : (0 : Int) < (m : Int) := by omega
    have HM := Lib.hid hm1
    clear hm1
    go_wp2_with (
      at_make
      refine wpList_make_full _ rfl _ _ 22 rfl w1.heap.size 3 i0 (.int .i64 0) 1 Try.underlying22 hi hz0 hz1 _ _ _ _ n rfl rfl rfl rfl (by rw [hz2]; omega) (by unfold maxLen; omega) (Nat.le_refl _) ?_
      intro w2 hown2 hgrow2
      have hzero : (madeCells (Value.int IntKind.i64 0).cells (n * 1)).toList = iN (arr (fun _ => 0) n) := by
        rw [show madeCells (Value.int IntKind.i64 0).cells (n * 1) = madeCells #[.int .i64 0] n by rw [Nat.mul_one]; rfl, toList_madeCells_one]
        refine iN_ext (by simp [arr_length]) fun k hk => ?_
        rw [arr_length] at hk
        rw [arr_at _ hk, List.getElem?_replicate, if_pos hk]
        rfl
      obtain ⟨q, hq⟩ : ∃ q, q = w1.heap.size := ⟨_, rfl⟩
      rw [hzero, ← hq] at hown2
      have hbq : Below q w1 w2 := by rw [hq]; exact (Below.refl _ _).grown hgrow2 (Nat.le_refl _) (fun k h => by cases h)
      rw [← hq]
      have HQ := Lib.hid hq
      have hw1 := hb1.size
      clear hzero hgrow2 hq
      have hf2 := hf1.below (by rw [← HQ.out]; exact hbq)
      have hrow2 := hrow.below (by rw [← HQ.out]; exact hbq)
      clear hf1 hrow
      obtain ⟨b, o, rfl, hlb, hc0⟩ := hrow2.at_ (i := 0) (by omega)
      rw [lsD_at d (by omega), Nat.add_zero] at hc0
      have hs := hcome.sym 0 (by omega)
      obtain ⟨s, hss⟩ : ∃ s, s = d 0 := ⟨_, rfl⟩
      rw [← hss] at hc0 hs
      have hsi : (s : Int) < (n : Int) := by omega
      have c0 := (hown2.cellAt s (by omega)).trans (arr_cell (fun _ => 0) hs)
      have f0 := hown2.frozenAt s
      have S0 := hown2.stored s (.int .i64 1)
      have hset := arr_set (fun _ => 0) (x := 1) hs
      rw [show Value.int IntKind.i64 ((1 : Nat) : Int) = .int .i64 1 from rfl] at hset
      rw [hset] at S0
      have S1 := Lib.hid S0.1
      have HB := Lib.hid (show Below q w1 (w2.setCell ⟨q, s, none⟩ (.int .i64 1)) from hbq.setCell (Nat.le_refl _) _)
      have HS := Lib.hid hss
      clear S0 hset hss)
    go_wp2
    go_ret2
    have hm1 := HM.out
    refine ⟨q, rfl, m, d, _, own_base2 S1.out (by have := HQ.out; omega), ⟨hcome, HM2.out, fun p hp => ?_, fun v hv => ?_⟩, hb1.trans ((show Below w1.heap.size w1 _ by rw [← HQ.out]; exact HB.out).mono hw1)⟩
    · obtain rfl : p = 0 := by omega
      unfold lenP
      rw [if_pos hm1, HS.out]
      exact if_pos rfl
    · have := hv 0 (by omega)
      show (if v = s then 1 else 0) = 0
      rw [if_neg (by rw [HS.out]; exact fun e => this e.symm)]
  · have hmi : ((m : Int) == 1) = false := by simp; omega
    have hgi : ∀ i, i < m → 0 ≤ gi (lsD d m) i ∧ gi (lsD d m) i < n := fun i hi => by
      rw [lsD_at d hi]
      have := hcome.sym i hi
      omega
    have HGI := Lib.hid hgi
    have hrq1 : ∀ b o, O = some ⟨b, o, none⟩ → 0 < m → b < w1.heap.size := fun b o e h => by
      obtain ⟨b', o', e', hl, _⟩ := hrow.cells h
      rw [e] at e'
      injection e' with e'
      injection e' with e' _
      omega
    have HRQ := Lib.hid hrq1
    clear hrq1
    have HM := Lib.hid hm1
    clear hm1 hgi
    go_wp2_with (
      at_make
      refine wpList_make_full _ rfl _ _ 22 rfl w1.heap.size 3 i0 (.int .i64 0) 1 Try.underlying22 hi hz0 hz1 _ _ _ _ n rfl rfl rfl rfl (by rw [hz2]; omega) (by unfold maxLen; omega) (Nat.le_refl _) ?_
      intro w2 hown2 hgrow2
      have hzero : (madeCells (Value.int IntKind.i64 0).cells (n * 1)).toList = iN (arr (fun _ => 0) n) := by
        rw [show madeCells (Value.int IntKind.i64 0).cells (n * 1) = madeCells #[.int .i64 0] n by rw [Nat.mul_one]; rfl, toList_madeCells_one]
        refine iN_ext (by simp [arr_length]) fun k hk => ?_
        rw [arr_length] at hk
        rw [arr_at _ hk, List.getElem?_replicate, if_pos hk]
        rfl
      obtain ⟨q, hq⟩ : ∃ q, q = w1.heap.size := ⟨_, rfl⟩
      rw [hzero, ← hq] at hown2
      have hbq : Below q w1 w2 := by rw [hq]; exact (Below.refl _ _).grown hgrow2 (Nat.le_refl _) (fun k h => by cases h)
      rw [← hq]
      have HQ := Lib.hid hq
      have hw1 := hb1.size
      clear hzero hgrow2 hq
      have hf2 := hf1.below (by rw [← HQ.out]; exact hbq)
      have hrow2 := hrow.below (by rw [← HQ.out]; exact hbq)
      clear hf1 hrow
)
    have HLV := Lib.hid (leavesOf_c FA n cf fr O m c (lsD d m) w2 hf2 hrow2 (by omega) HGI.out (fun i hi => (HFR.out i hi).1))
    refine HLV.out.mono ?_
    rintro e w3 ⟨rfl, hown3, hb3⟩
    have HLB := Lib.hid (leavesBought_c w2.heap.size 0 m L (wD fr d m) w3 (CRow.ofOwn hown3) (hown3.lt _ rfl).2 (wD_length fr d m).symm (by omega) (by omega) (by omega) (wD_small hcome HFR.out) (wD_srt hcome) HM2.out)
    have hown4 := own_below hown2 hb3
    have hrow4 := hrow2.below hb3
    have hbq3 := hbq.trans (hb3.mono (by have := hbq.size; have := HQ.out; omega))
    clear hown3 hown2 hrow2 hf2 hbq
    go_wp2_with fail
    refine HLB.out.mono ?_
    rintro e w5 ⟨gB, rfl, hown5, hb5⟩
    have hown6 := own_below hown4 hb5
    have hrow6 := hrow4.below hb5
    have hbq5 := hbq3.trans (hb5.mono (by have := hbq3.size; have := HQ.out; omega))
    have hgB := (hown5.lt gB rfl)
    have hqB : q ≠ gB := by
      have := (hown4.lt q rfl).2
      omega
    obtain ⟨B, hB⟩ : ∃ B, B = bestC (wD fr d m) L := ⟨_, rfl⟩
    rw [← hB] at hown5
    have hBL : B.length = L := by rw [hB]; exact buyC_length _ _ _
    have hBm : ∀ i, i < L → B.getD i 0 ≤ m := fun i hi => by
      have hr := best_room (wD_srt hcome) (t := L - 1) (by rw [wD_length, show L - 1 + 1 = L by omega]; exact HM2.out)
      have h3 := (buy_all (wD_srt hcome) (L - 1) _ hr).2.2
      rw [show L - 1 + 1 = L by omega, wD_length] at h3
      have h4 : ∀ a ∈ B, a ≤ m := by
        rw [hB]
        unfold bestC
        rw [wD_length]
        exact h3
      rw [List.getD_eq_getElem?_getD, List.getElem?_eq_getElem (by omega)]
      exact h4 _ (List.getElem_mem _)
    have HBM := Lib.hid hBm
    have HB := Lib.hid hB
    have HBL := Lib.hid hBL
    clear hBm hB hBL hown4 hrow4 hbq3 hb5 hb3
    have hcB : Hid (∀ i, i < L → w5.cell? ⟨gB, i, none⟩ = some (.int .i64 (B.getD i 0 : Nat))) := fun i hi => by
      rw [hown5.cellAt i (by omega), iN_at B (by have := HBL.out; omega)]
    have hrowq : Hid (∀ b o, O = some ⟨b, o, none⟩ → 0 < m → b < q) := fun b o e h => by have := HRQ.out b o e h; have := HQ.out; omega
    have hgB5 : gB < w5.heap.size := hgB.2
    have hqq : q < w5.heap.size := (hown6.lt q rfl).2
    go_wp2
    go_loopw [48] (fun vi wr => ∃ (i : Nat) (A : Nat → Nat), i ≤ L ∧ vi = .int .i64 i ∧ wr.ownsRow q 3 1 (.slice (some ⟨q, 0, none⟩) n n) n (iN (arr A n)) ∧ Out q (q + 1) w5 wr ∧
      Hid ((∀ p, p < m → A (d p) = lenC (B.take i) p) ∧ (∀ v, (∀ p, p < m → d p ≠ v) → A v = 0))) (fun vi _ => L - (intOf vi).toNat)
    case atStart => exact ⟨0, fun _ => 0, by omega, rfl, hown6, Out.refl _ _ _, ⟨fun p _ => rfl, fun v _ => rfl⟩⟩
    case round =>
      obtain ⟨i, A, hiL, rfl, hownA, hout, hA⟩ := hrel
      by_cases hlt : i < L
      · have hil : (i : Int) < L := by omega
        have hci : wr.cell? ⟨gB, i, none⟩ = some (.int .i64 (B.getD i 0 : Nat)) := (World.cell?_of_block (a := ⟨gB, i, none⟩) (hout.block gB hgB5 (by omega))).trans (hcB.out i hlt)
        have hbm := HBM.out i hlt
        have HT := Lib.hid (fun p => lenC_take B (i := i) (by have := HBL.out; omega) p)
        obtain ⟨a, ha⟩ : ∃ a, a = B.getD i 0 := ⟨_, rfl⟩
        rw [← ha] at hci hbm HT
        have HA := Lib.hid ha
        clear ha
        have ham : (a : Int) ≤ (m : Int) := by omega
        have hac : (a : Int) ≤ (c : Int) := by omega
        have hBI : Hid (∀ p, lenC (B.take i) p ≤ 15) := fun p => by
          have h1 := lenC_le (B.take i) p
          have h2 : (B.take i).length ≤ i := by rw [List.length_take]; exact Nat.min_le_left _ _
          omega
        obtain ⟨X, hX⟩ : ∃ X, X = B.take i := ⟨_, rfl⟩
        rw [← hX] at hBI hA
        have HX := Lib.hid hX
        clear hX
        go_wp2
        go_loopw [56] (fun vj wr => ∃ (j : Nat) (A : Nat → Nat), j ≤ a ∧ vj = .int .i64 j ∧ wr.ownsRow q 3 1 (.slice (some ⟨q, 0, none⟩) n n) n (iN (arr A n)) ∧ Out q (q + 1) w5 wr ∧
          Hid ((∀ p, p < m → A (d p) = lenC X p + if p < j then 1 else 0) ∧ (∀ v, (∀ p, p < m → d p ≠ v) → A v = 0))) (fun vj _ => a - (intOf vj).toNat)
        case atStart => exact ⟨0, A, by omega, rfl, hownA, hout, ⟨fun p hp => by rw [hA.out.1 p hp, if_neg (by omega)]; rfl, hA.out.2⟩⟩
        case round =>
          clear hownA hout hA hci
          obtain ⟨j, A, hja, rfl, hownA, hout, hA⟩ := hrel
          by_cases hjl : j < a
          · have hji : (j : Int) < a := by omega
            have hjm : j < m := by omega
            obtain ⟨bO, oO, rfl, hbO, hcO⟩ := hrow6.at_ hjm
            rw [lsD_at d hjm] at hcO
            have hcO2 := (World.cell?_of_block (a := ⟨bO, oO + j, none⟩) (hout.block bO hbO (by have := hrowq.out bO oO rfl (by omega); omega))).trans hcO
            have hs := hcome.sym j hjm
            have hAs := hA.out.1 j hjm
            rw [if_neg (Nat.lt_irrefl j), Nat.add_zero] at hAs
            have hAl := hBI.out j
            obtain ⟨s, hss⟩ : ∃ s, s = d j := ⟨_, rfl⟩
            rw [← hss] at hcO2 hs hAs
            have hsi : (s : Int) < (n : Int) := by omega
            have c0 := (hownA.cellAt s (by omega)).trans (arr_cell A hs)
            have f0 := hownA.frozenAt s
            have hA15 : A s ≤ 15 := by omega
            obtain ⟨x, hx⟩ : ∃ x, x = A s := ⟨_, rfl⟩
            rw [← hx] at c0 hA15
            have S0 := (hownA.stored s (.int .i64 ((x + 1 : Nat) : Int))).1
            rw [arr_set A (x := x + 1) hs] at S0
            have S1 := Lib.hid S0
            have HO := Lib.hid (hout.setCell s (.int .i64 ((x + 1 : Nat) : Int)))
            have HNEW : Hid ((∀ p, p < m → (fun v => if v = s then x + 1 else A v) (d p) = lenC X p + if p < j + 1 then 1 else 0) ∧ (∀ v, (∀ p, p < m → d p ≠ v) → (fun v => if v = s then x + 1 else A v) v = 0)) := by
              refine ⟨fun p hp => ?_, fun v hv => ?_⟩
              · show (if d p = s then x + 1 else A (d p)) = _
                by_cases e : p = j
                · subst e
                  rw [if_pos hss.symm, if_pos (by omega), hx, hAs]
                · rw [if_neg (fun h => e (hcome.inj hp hjm (h.trans hss))), hA.out.1 p hp]
                  congr 1
                  split <;> split <;> omega
              · show (if v = s then x + 1 else A v) = 0
                rw [if_neg (fun h => hv j hjm (by rw [h, hss])), hA.out.2 v hv]
            clear S0 hAs hAl hss hx hcO
            have hcast : ((x + 1 : Nat) : Int) = (x : Int) + 1 := by omega
            go_wp2
            go_roundw
            case rel => exact ⟨j + 1, _, by omega, by go_num, by have h := S1.out; rw [hcast] at h; exact h, by have h := HO.out; rw [hcast] at h; exact h, HNEW⟩
            case measure => simp [intOf]; omega
          · obtain rfl : j = a := by omega
            have hji : ¬ (j : Int) < (j : Int) := by omega
            go_wp2
            go_roundw
            case rel => exact ⟨i + 1, A, by omega, by go_num, hownA, hout, ⟨fun p hp => by rw [hA.out.1 p hp, HT.out, ← HX.out], hA.out.2⟩⟩
            case measure => simp [intOf]; omega
      · obtain rfl : i = L := by omega
        have hil : ¬ (i : Int) < (i : Int) := by omega
        go_wp2
        go_ret2
        refine ⟨q, rfl, m, d, A, own_base2 hownA (by have := HQ.out; omega), ⟨hcome, HM2.out, fun p hp => ?_, hA.out.2⟩, ?_⟩
        · unfold lenP
          rw [if_neg HM.out, hA.out.1 p hp, ← HB.out, List.take_of_length_le (by rw [HBL.out]; exact Nat.le_refl _)]
        · have h1 : Below w1.heap.size w1 wr := by
            rw [← HQ.out]
            exact hbq5.trans ((hout.below (lo := q) (by omega)).mono (Nat.le_refl _))
          exact hb1.trans (h1.mono hw1)
end Go.Proofs.Ytfnjjeopojdnjaa
