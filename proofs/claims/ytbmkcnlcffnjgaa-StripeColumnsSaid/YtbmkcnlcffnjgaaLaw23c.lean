/-
  LAW 23: of all volumes, columns and geometries every answer is as said: StripeColumns. No conditions.
-/
import Derived.Test.YtbmkcnlcffnjgaaLaw23
import Derived.Test.YtbmkcnlcffnjgaaSrs
import Derived.Test.YtbmkcnlcffnjgaaSrt
import Derived.Deep.RegionHeld3
namespace Go.Proofs.Ytbmkcnlcffnjgaa
open Go.RowKit
set_option maxRecDepth 100000
set_option linter.unusedVariables false

/-- the error's number, and the column -/
def cov23 (b : List F) (s : Int) : Nat × List F := if ¬ (5 ≤ s ∧ s ≤ 16777216) then (1, []) else if s < b.length then (2, []) else (0, col23 b s.toNat)
/-- an answer: a row, and a number -/
def AnsR (w : World) (v : Nat × List F) (e : Ending) (w' : World) : Prop := ∃ A c, e = .returned (.tuple #[.slice A v.2.length c, .int .i64 (v.1 : Int)]) ∧ Row w' A v.2.length v.2 ∧ Below w.heap.size w w'
theorem AnsR.nil {w w' : World} {v : Nat × List F} {k : Nat} (hv : v = (k, [])) (hb : Below w.heap.size w w') : AnsR w v (.returned (.tuple #[.slice none 0 0, .int .i64 (k : Int)])) w' := by
  subst hv
  exact ⟨none, 0, rfl, Row.nil _ _, hb⟩
theorem AnsR.row {w w' : World} {v : Nat × List F} {q : List F} {x : Nat} {A : Option Addr} {c : Nat} (hv : v = (0, q)) (hq : q.length = x) (hr : Row w' A x q) (hb : Below w.heap.size w w') : AnsR w v (.returned (.tuple #[.slice A x c, .int .i64 0])) w' := by
  subst hv hq
  exact ⟨A, c, rfl, hr, hb⟩
theorem Column_w {w : World} {A : Option Addr} {n c : Nat} {b : List F} (h : RowIn w A n c b) (s : Int) (hw : (Lit.int .i64 s).wf = true) :
    Calls Try.prog 8 #[.slice A n c, .int .i64 s] w fun e w' => AnsR w (cov23 b s) e w' := by
  refine (Column_c h s hw).mono ?_
  rintro e w' (⟨h1, rfl, hb⟩ | ⟨h1, h2, h3, rfl, hb⟩ | ⟨S, g, rfl, h1, h2, h3, rfl, ho, hb⟩)
  · exact AnsR.nil (k := 1) (if_pos h1) hb
  · exact AnsR.nil (k := 2) ((if_neg (fun x => x ⟨h1, h2⟩)).trans (if_pos h3)) hb
  · exact AnsR.row ((if_neg (fun x => x ⟨by omega, by omega⟩)).trans ((if_neg (by omega)).trans (by rw [Int.toNat_natCast]))) (col23_length h3) (Row.of_own ho) hb
theorem RColumn_w {w : World} {A : Option Addr} {n c : Nat} {b : List F} (h : RowIn w A n c b) (s : Int) (hw : (Lit.int .i64 s).wf = true) (hs : s ≤ 1000 ∨ 16777216 < s) :
    Calls Try.prog 9 #[.slice A n c, .int .i64 s] w fun e w' => AnsR w (cov23 b s) e w' := by
  refine (RColumn_c h s hw hs).mono ?_
  rintro e w' (⟨h1, rfl, hb⟩ | ⟨h1, h2, h3, rfl, hb⟩ | ⟨S, g, c', rfl, h1, h2, h3, rfl, ho, hb⟩)
  · exact AnsR.nil (k := 1) (if_pos h1) hb
  · exact AnsR.nil (k := 2) ((if_neg (fun x => x ⟨h1, h2⟩)).trans (if_pos h3)) hb
  · exact AnsR.row ((if_neg (fun x => x ⟨by omega, by omega⟩)).trans ((if_neg (by omega)).trans (by rw [Int.toNat_natCast]))) (col23_length h3) (Row.of_own ho) hb
theorem Volume_w {w : World} {A : Option Addr} {n c : Nat} {l : List F} (h : RowIn w A n c l) (hn : n ≤ 1000000) :
    Calls Try.prog 10 #[.slice A n c] w fun e w' => AnsR w (vol23 l) e w' := by
  refine (Volume_c h hn).mono ?_
  rintro e w' ⟨A', c', rfl, ho, hb⟩
  exact ⟨A', c', rfl, Row.of_own ho, hb⟩
theorem RVolume_w {w : World} {A : Option Addr} {n c : Nat} {l : List F} (h : RowIn w A n c l) (hn : n ≤ 1000000) :
    Calls Try.prog 11 #[.slice A n c] w fun e w' => AnsR w (vol23 l) e w' := by
  refine (RVolume_c h hn).mono ?_
  rintro e w' ⟨A', c', rfl, hr, rfl⟩
  exact ⟨A', c', rfl, hr, Below.refl _ _⟩
set_option maxHeartbeats 8000000 in
theorem walk_StripeColumns (w : World) (A : Option Addr) (n cA : Nat) (b : List F) (h : RowIn w A n cA b) (s : Int) (hs : (Lit.int .i64 s).wf = true) (D : Option Addr) (m cD : Nat) (col : List F) (hc : RowIn w D m cD col) (N K S B : Int) (hg : Wf4 N K S B) :
    Calls Try.prog 3 #[.slice A n cA, .int .i64 s, .slice D m cD, .agg #[.int .i64 N, .int .i64 K, .int .i64 S, .int .i64 B]] w fun e w' => e = .returned (.bool true) ∧ Below w.heap.size w w' := by
  have hn9 := h.row.max
  have hm9 := hc.row.max
  have hb0 : Below w.heap.size w (w.alloc (.cells #[.int .i64 N, .int .i64 K, .int .i64 S, .int .i64 B] 24)) := (Below.refl _ _).alloc (Nat.le_refl _) _
  have hk0 := Blk.new w 24 #[.int .i64 N, .int .i64 K, .int .i64 S, .int .i64 B]
  have HB0 := Lib.hid hb0
  have HK0 := Lib.hid hk0
  have HH := Lib.hid h
  have HC := Lib.hid hc
  have HS := Lib.hid hs
  have HG := Lib.hid hg
  clear hb0 hk0 h hc hs hg
  go_enter Try.func3, Try.ntmps3
  go_wp2_with fail
  refine (alive23_c _).mono ?_
  rintro e w1 ⟨rfl, hb1⟩
  have HB1 := Lib.hid (HB0.out.trans (hb1.mono HB0.out.size))
  have HK1 := Lib.hid (HK0.out.below HK0.out.lt hb1)
  clear hb1 HB0 HK0
  obtain ⟨p0, hp0⟩ : ∃ p, p = w.heap.size := ⟨_, rfl⟩
  rw [← hp0] at HK1 ⊢
  clear hp0
  by_cases h1 : (200 : Int) < n
  · go_wp2
    go_ret
    exact ⟨rfl, HB1.out⟩
  by_cases h2 : (200 : Int) < m
  · go_wp2
    go_ret
    exact ⟨rfl, HB1.out⟩
  by_cases h3 : 300 < s ∧ s ≤ 16777216
  · obtain ⟨h3, h4⟩ := h3
    go_wp2
    go_ret
    exact ⟨rfl, HB1.out⟩
  have h3' : s ≤ 1000 ∨ 16777216 < s := by omega
  have H3' := Lib.hid h3'
  have hg1 : (300 < s ∧ ¬ s ≤ 16777216) ∨ ¬ 300 < s := by omega
  have HN : Hid (n ≤ 1000000) := by unfold Hid; omega
  have HM : Hid (m ≤ 1000000) := by unfold Hid; omega
  clear h3 h3'
  have HC1 := Lib.hid (Column_w (HH.out.below HB1.out) s HS.out)
  rcases hg1 with ⟨h3, h4⟩ | h3
  all_goals
    go_wp2_with fail
    refine HC1.out.mono ?_
    rintro e w2 ⟨A2, c2, rfl, hr2, hb2⟩
    have HB2 := Lib.hid (HB1.out.trans (hb2.mono HB1.out.size))
    have HK2 := Lib.hid (HK1.out.below HK1.out.lt hb2)
    have HR2 := Lib.hid hr2
    have HC2 := Lib.hid (RColumn_w (HH.out.below HB2.out) s HS.out H3'.out)
    clear hr2 hb2 HC1
    generalize cov23 b s = v at *
    go_wp2_with fail
    refine HC2.out.mono ?_
    rintro e w3 ⟨A3, c3, rfl, hr3, hb3⟩
    have HB3 := Lib.hid (HB2.out.trans (hb3.mono HB2.out.size))
    have HK3 := Lib.hid (HK2.out.below HK2.out.lt hb3)
    have HR23 := Lib.hid (HR2.out.below hb3)
    have HR3 := Lib.hid hr3
    have HC3 := Lib.hid (Volume_w (HC.out.below HB3.out) HM.out)
    clear hr3 hb3 HC2 HR2 HB2 HK2
    go_wp2_with fail
    refine HC3.out.mono ?_
    rintro e w4 ⟨A4, c4, rfl, hr4, hb4⟩
    have HB4 := Lib.hid (HB3.out.trans (hb4.mono HB3.out.size))
    have HK4 := Lib.hid (HK3.out.below HK3.out.lt hb4)
    have HR24 := Lib.hid (HR23.out.below hb4)
    have HR34 := Lib.hid (HR3.out.below hb4)
    have HR4 := Lib.hid hr4
    have HC4 := Lib.hid (RVolume_w (HC.out.below HB4.out) HM.out)
    clear hr4 hb4 HC3 HR23 HR3 HB3 HK3
    generalize vol23 col = u at *
    go_wp2_with fail
    refine HC4.out.mono ?_
    rintro e w5 ⟨A5, c5, rfl, hr5, hb5⟩
    have HB5 := Lib.hid (HB4.out.trans (hb5.mono HB4.out.size))
    have HK5 := Lib.hid (HK4.out.below HK4.out.lt hb5)
    have HS1 : Hid (Calls Try.prog 12 #[.slice A2 v.2.length c2, .slice A3 v.2.length c3] w5 fun e w' => e = .returned (.bool true) ∧ ∃ q, w' = w5.drewN q) := Same_c A2 A3 v.2.length c2 c3 v.2 v.2 w5 (HR24.out.below hb5) (HR34.out.below hb5) rfl
    have HS2 : Hid (∀ q, Calls Try.prog 12 #[.slice A4 u.2.length c4, .slice A5 u.2.length c5] (w5.drewN q) fun e w' => e = .returned (.bool true) ∧ ∃ q', w' = (w5.drewN q).drewN q') := fun q => Same_c A4 A5 u.2.length c4 c5 u.2 u.2 _ ((HR4.out.below hb5).drewN q) (hr5.drewN q) rfl
    have en1 : ((v.1 : Int) != (v.1 : Int)) = false := by simp
    have en2 : ((u.1 : Int) != (u.1 : Int)) = false := by simp
    clear hr5 hb5 HC4 HR24 HR34 HR4 HB4 HK4
    generalize v.1 = v1 at *
    generalize v.2.length = v2 at *
    generalize u.1 = u1 at *
    generalize u.2.length = u2 at *
    go_wp2_with fail
    refine HS1.out.mono ?_
    rintro e _ ⟨rfl, q, rfl⟩
    have HS2' := Lib.hid (HS2.out q)
    have HB6 := Lib.hid (below_drewN HB5.out q)
    have HK6 : Hid (Blk (w5.drewN q) p0 24 #[.int .i64 N, .int .i64 K, .int .i64 S, .int .i64 B]) := HK5.out
    clear HS1 HS2 HB5 HK5
    generalize w5.drewN q = W5 at *
    go_wp2_with fail
    refine HS2'.out.mono ?_
    rintro e _ ⟨rfl, q', rfl⟩
    have HB7 := Lib.hid (below_drewN HB6.out q')
    have HK7 : Hid (Blk (W5.drewN q') p0 24 #[.int .i64 N, .int .i64 K, .int .i64 S, .int .i64 B]) := HK6.out
    clear HS2' HB6 HK6
    generalize W5.drewN q' = W6 at *
    have z0 : W6.cell? ⟨p0, 0, none⟩ = some (.int .i64 N) := HK7.out.cell 0
    have z1 : W6.cell? ⟨p0, 1, none⟩ = some (.int .i64 K) := HK7.out.cell 1
    have z2 : W6.cell? ⟨p0, 2, none⟩ = some (.int .i64 S) := HK7.out.cell 2
    have z3 : W6.cell? ⟨p0, 3, none⟩ = some (.int .i64 B) := HK7.out.cell 3
    have hk1 := Blk.new W6 34 #[.int .i64 N, .int .i64 K, .int .i64 S, .int .i64 B]
    have hba : Below W6.heap.size W6 (W6.alloc (.cells #[.int .i64 N, .int .i64 K, .int .i64 S, .int .i64 B] 34)) := (Below.refl _ _).alloc (Nat.le_refl _) _
    have HD8 := Lib.hid hk1
    have HK8 := Lib.hid (HK7.out.below HK7.out.lt hba)
    have HB8 := Lib.hid (HB7.out.trans (hba.mono HB7.out.size))
    clear hk1 hba HB7 HK7
    go_wp2_with fail
    clear z0 z1 z2 z3
    generalize W6.alloc (.cells #[.int .i64 N, .int .i64 K, .int .i64 S, .int .i64 B] 34) = W8 at *
    generalize W6.heap.size = p1 at *
    cases hr : right23 N K S B with
    | false =>
      have HRR := Lib.hid (RRight_c HG.out W8)
      rw [hr] at HRR
      refine HRR.out.mono ?_
      rintro e w9 ⟨rfl, hb9⟩
      have HK9 := Lib.hid (HK8.out.below HK8.out.lt hb9)
      have HB9 := Lib.hid (HB8.out.trans (hb9.mono HB8.out.size))
      have HRT := Lib.hid (Right_c HG.out w9)
      rw [hr] at HRT
      clear hb9 HRR HK8 HB8 HD8
      have z0 : w9.cell? ⟨p0, 0, none⟩ = some (.int .i64 N) := HK9.out.cell 0
      have z1 : w9.cell? ⟨p0, 1, none⟩ = some (.int .i64 K) := HK9.out.cell 1
      have z2 : w9.cell? ⟨p0, 2, none⟩ = some (.int .i64 S) := HK9.out.cell 2
      have z3 : w9.cell? ⟨p0, 3, none⟩ = some (.int .i64 B) := HK9.out.cell 3
      go_wp2_with fail
      refine HRT.out.mono ?_
      rintro e w10 ⟨rfl, hb10⟩
      have HK10 := Lib.hid (HK9.out.below HK9.out.lt hb10)
      have HB10 := Lib.hid (HB9.out.trans (hb10.mono HB9.out.size))
      have HL := Lib.hid (Long_c HG.out w10)
      rw [show long23 N K S B = 0 by unfold long23; rw [hr]; rfl] at HL
      clear hb10 HRT HK9 HB9 z0 z1 z2 z3
      have z0 : w10.cell? ⟨p0, 0, none⟩ = some (.int .i64 N) := HK10.out.cell 0
      have z1 : w10.cell? ⟨p0, 1, none⟩ = some (.int .i64 K) := HK10.out.cell 1
      have z2 : w10.cell? ⟨p0, 2, none⟩ = some (.int .i64 S) := HK10.out.cell 2
      have z3 : w10.cell? ⟨p0, 3, none⟩ = some (.int .i64 B) := HK10.out.cell 3
      go_wp2_with fail
      refine HL.out.mono ?_
      rintro e w11 ⟨rfl, hb11⟩
      have HK11 := Lib.hid (HK10.out.below HK10.out.lt hb11)
      have HB11 := Lib.hid (HB10.out.trans (hb11.mono HB10.out.size))
      have HBN := Lib.hid (Blocks_no HG.out hr w11)
      clear hb11 HL HK10 HB10 z0 z1 z2 z3
      have z0 : w11.cell? ⟨p0, 0, none⟩ = some (.int .i64 N) := HK11.out.cell 0
      have z1 : w11.cell? ⟨p0, 1, none⟩ = some (.int .i64 K) := HK11.out.cell 1
      have z2 : w11.cell? ⟨p0, 2, none⟩ = some (.int .i64 S) := HK11.out.cell 2
      have z3 : w11.cell? ⟨p0, 3, none⟩ = some (.int .i64 B) := HK11.out.cell 3
      go_wp2_with fail
      refine HBN.out.mono ?_
      rintro e w12 ⟨rfl, hb12⟩
      have HB12 := Lib.hid (HB11.out.trans (hb12.mono HB11.out.size))
      clear hb12 HBN HK11 HB11 z0 z1 z2 z3
      go_wp2
      go_ret
      exact ⟨rfl, HB12.out⟩
    | true =>
      have HRR := Lib.hid (RRight_c HG.out W8)
      rw [hr] at HRR
      refine HRR.out.mono ?_
      rintro e W7 ⟨rfl, hb9⟩
      have HK9 := Lib.hid (HK8.out.below HK8.out.lt hb9)
      have HD9 := Lib.hid (HD8.out.below HD8.out.lt hb9)
      have HB9 := Lib.hid (HB8.out.trans (hb9.mono HB8.out.size))
      have hx := of_decide_eq_true hr
      obtain ⟨sz, rfl⟩ : ∃ x : Nat, S = x := ⟨S.toNat, by omega⟩
      obtain ⟨bk, rfl⟩ : ∃ x : Nat, B = x := ⟨B.toNat, by omega⟩
      have hsz : sz ≤ 16777216 := by omega
      have hbk : 1 ≤ bk ∧ bk ≤ 16777216 := by omega
      have HRT : Hid (∀ W, Calls Try.prog 14 #[.agg #[.int .i64 N, .int .i64 K, .int .i64 (sz : Int), .int .i64 (bk : Int)]] W fun e w' => e = .returned (.bool true) ∧ Below W.heap.size W w') := fun W => by
        have h9 := Right_c HG.out W
        rw [hr] at h9
        exact h9
      obtain ⟨Lg, hLg⟩ : ∃ Lg : Nat, Lg = 8 + sz := ⟨_, rfl⟩
      have HLG : Hid (∀ W, Calls Try.prog 15 #[.agg #[.int .i64 N, .int .i64 K, .int .i64 (sz : Int), .int .i64 (bk : Int)]] W fun e w' => e = .returned (.int .i64 (Lg : Int)) ∧ Below W.heap.size W w') := fun W => by
        have h9 := Long_c HG.out W
        rw [show long23 N K sz bk = (Lg : Int) by unfold long23; rw [if_pos hr, hLg]; omega] at h9
        exact h9
      obtain ⟨X, hX⟩ : ∃ X, X = (8 + sz + bk - 1) / bk := ⟨_, rfl⟩
      have HBK : Hid (∀ W, Calls Try.prog 16 #[.agg #[.int .i64 N, .int .i64 K, .int .i64 (sz : Int), .int .i64 (bk : Int)]] W fun e w' => e = .returned (.int .i64 (X : Int)) ∧ Below W.heap.size W w') := fun W => by
        rw [hX]
        exact Blocks_yes HG.out hr W
      have HRB : Hid (∀ W, Calls Try.prog 17 #[.agg #[.int .i64 N, .int .i64 K, .int .i64 (sz : Int), .int .i64 (bk : Int)]] W fun e w' => e = .returned (.int .i64 (X : Int)) ∧ Below W.heap.size W w') := fun W => by
        rw [hX]
        exact RBlocks_c HG.out hr W
      obtain ⟨P, hP⟩ : ∃ P : Nat, P = 1000 * bk := ⟨_, rfl⟩
      have s1 : (8 : Int) + (sz : Int) = (Lg : Int) := by omega
      have s2 : IntKind.i64.wrap (Lg : Int) = (Lg : Int) := IntWalk.i64_in _ (by omega)
      have s3 : (1000 : Int) * (bk : Int) = (P : Int) := by omega
      have s4 : IntKind.i64.wrap (P : Int) = (P : Int) := IntWalk.i64_in _ (by omega)
      have s5 : ((Lg : Int) == (Lg : Int)) = true := by simp
      have s6 : ((X : Int) == (X : Int)) = true := by simp
      have c0 : W7.cell? ⟨p0, 0, none⟩ = some (.int .i64 N) := HK9.out.cell 0
      have c1 : W7.cell? ⟨p0, 1, none⟩ = some (.int .i64 K) := HK9.out.cell 1
      have c2 : W7.cell? ⟨p0, 2, none⟩ = some (.int .i64 sz) := HK9.out.cell 2
      have c3 : W7.cell? ⟨p0, 3, none⟩ = some (.int .i64 bk) := HK9.out.cell 3
      have d0 : W7.cell? ⟨p1, 0, none⟩ = some (.int .i64 N) := HD9.out.cell 0
      have d1 : W7.cell? ⟨p1, 1, none⟩ = some (.int .i64 K) := HD9.out.cell 1
      have d2 : W7.cell? ⟨p1, 2, none⟩ = some (.int .i64 sz) := HD9.out.cell 2
      have d3 : W7.cell? ⟨p1, 3, none⟩ = some (.int .i64 bk) := HD9.out.cell 3
      have hp0 : p0 < W7.heap.size := HK9.out.lt
      have hp1 : p1 < W7.heap.size := HD9.out.lt
      clear hb9 HRR HK8 HD8 HB8 HK9 HD9 hX hLg hP hx hr
      by_cases hq : (P : Int) < (sz : Int)
      · skip
        go_wp2_with fail
        refine wp_region_held_drew (S := fun W' => Hid (Below W7.heap.size W7 W')) (by kernel_rfl) ?_ (fun hHeld => ?_)
        · exact (Below.refl _ _).drew
        refine wpAnyH_take (i := 0) (oi := { dst := some 95, op := _, type := _, pos := _, after := _, guard := _ }) (v := ?_) rfl (by kernel_rfl) (by kernel_rfl) (by kernel_rfl) (fun _ _ _ h => h) (Or.inl ⟨by rfl, ?_⟩) (by assumption) ?_
        rotate_left
        · intro w' hSw
          have z0 : w'.cell? ⟨p0, 0, none⟩ = some (.int .i64 N) := (hSw.out.cell (p := ⟨p0, 0, none⟩) hp0).trans c0
          have z1 : w'.cell? ⟨p0, 1, none⟩ = some (.int .i64 K) := (hSw.out.cell (p := ⟨p0, 1, none⟩) hp0).trans c1
          have z2 : w'.cell? ⟨p0, 2, none⟩ = some (.int .i64 sz) := (hSw.out.cell (p := ⟨p0, 2, none⟩) hp0).trans c2
          have z3 : w'.cell? ⟨p0, 3, none⟩ = some (.int .i64 bk) := (hSw.out.cell (p := ⟨p0, 3, none⟩) hp0).trans c3
          have y0 : w'.cell? ⟨p1, 0, none⟩ = some (.int .i64 N) := (hSw.out.cell (p := ⟨p1, 0, none⟩) hp1).trans d0
          have y1 : w'.cell? ⟨p1, 1, none⟩ = some (.int .i64 K) := (hSw.out.cell (p := ⟨p1, 1, none⟩) hp1).trans d1
          have y2 : w'.cell? ⟨p1, 2, none⟩ = some (.int .i64 sz) := (hSw.out.cell (p := ⟨p1, 2, none⟩) hp1).trans d2
          have y3 : w'.cell? ⟨p1, 3, none⟩ = some (.int .i64 bk) := (hSw.out.cell (p := ⟨p1, 3, none⟩) hp1).trans d3
          go_simp
          try with_reducible rfl
        try simp only [Act.put, List.setIfInBounds_toArray, List.set_cons_zero, List.set_cons_succ]
        refine wpAnyH_ready (rs := [1]) (by kernel_rfl) (by simp) ?_
        refine AllReadyH.cons (o := { dst := some 96, op := _, type := _, pos := _, after := _, guard := _ }) rfl (fun K hK => ?_) AllReadyH.nil
        go_simp
        go_at_call 14
        refine (HRT.out _).mono ?_
        rintro e w9 ⟨rfl, hb9⟩
        try go_wp2_with fail
        refine hK.out _ _ ?_ (fun hHeld => ?_)
        · exact hHeld.out.trans (hb9.mono hHeld.out.size)
        clear hK K
        try simp only [Act.put, List.setIfInBounds_toArray, List.set_cons_zero, List.set_cons_succ]
        clear hb9
        refine wpAnyH_take (i := 2) (oi := { dst := some 97, op := _, type := _, pos := _, after := _, guard := _ }) (v := ?_) rfl (by kernel_rfl) (by kernel_rfl) (by kernel_rfl) (fun _ _ _ h => h) (Or.inl ⟨by rfl, ?_⟩) (by assumption) ?_
        rotate_left
        · intro w' hSw
          try dsimp only at hSw
          go_simp
          try with_reducible rfl
        try simp only [Act.put, List.setIfInBounds_toArray, List.set_cons_zero, List.set_cons_succ]
        refine wpAnyH_take (i := 3) (oi := { dst := some 98, op := _, type := _, pos := _, after := _, guard := _ }) (v := ?_) rfl (by kernel_rfl) (by kernel_rfl) (by kernel_rfl) (fun _ _ _ h => h) (Or.inl ⟨by rfl, ?_⟩) (by assumption) ?_
        rotate_left
        · intro w' hSw
          have z0 : w'.cell? ⟨p0, 0, none⟩ = some (.int .i64 N) := (hSw.out.cell (p := ⟨p0, 0, none⟩) hp0).trans c0
          have z1 : w'.cell? ⟨p0, 1, none⟩ = some (.int .i64 K) := (hSw.out.cell (p := ⟨p0, 1, none⟩) hp0).trans c1
          have z2 : w'.cell? ⟨p0, 2, none⟩ = some (.int .i64 sz) := (hSw.out.cell (p := ⟨p0, 2, none⟩) hp0).trans c2
          have z3 : w'.cell? ⟨p0, 3, none⟩ = some (.int .i64 bk) := (hSw.out.cell (p := ⟨p0, 3, none⟩) hp0).trans c3
          have y0 : w'.cell? ⟨p1, 0, none⟩ = some (.int .i64 N) := (hSw.out.cell (p := ⟨p1, 0, none⟩) hp1).trans d0
          have y1 : w'.cell? ⟨p1, 1, none⟩ = some (.int .i64 K) := (hSw.out.cell (p := ⟨p1, 1, none⟩) hp1).trans d1
          have y2 : w'.cell? ⟨p1, 2, none⟩ = some (.int .i64 sz) := (hSw.out.cell (p := ⟨p1, 2, none⟩) hp1).trans d2
          have y3 : w'.cell? ⟨p1, 3, none⟩ = some (.int .i64 bk) := (hSw.out.cell (p := ⟨p1, 3, none⟩) hp1).trans d3
          go_simp
          try with_reducible rfl
        try simp only [Act.put, List.setIfInBounds_toArray, List.set_cons_zero, List.set_cons_succ]
        refine wpAnyH_take (i := 5) (oi := { dst := some 100, op := _, type := _, pos := _, after := _, guard := _ }) (v := ?_) rfl (by kernel_rfl) (by kernel_rfl) (by kernel_rfl) (fun _ _ _ h => h) (Or.inl ⟨by rfl, ?_⟩) (by assumption) ?_
        rotate_left
        · intro w' hSw
          try dsimp only at hSw
          go_simp
          try with_reducible rfl
        try simp only [Act.put, List.setIfInBounds_toArray, List.set_cons_zero, List.set_cons_succ]
        refine wpAnyH_take (i := 6) (oi := { dst := some 101, op := _, type := _, pos := _, after := _, guard := _ }) (v := ?_) rfl (by kernel_rfl) (by kernel_rfl) (by kernel_rfl) (fun _ _ _ h => h) (Or.inl ⟨by rfl, ?_⟩) (by assumption) ?_
        rotate_left
        · intro w' hSw
          have z0 : w'.cell? ⟨p0, 0, none⟩ = some (.int .i64 N) := (hSw.out.cell (p := ⟨p0, 0, none⟩) hp0).trans c0
          have z1 : w'.cell? ⟨p0, 1, none⟩ = some (.int .i64 K) := (hSw.out.cell (p := ⟨p0, 1, none⟩) hp0).trans c1
          have z2 : w'.cell? ⟨p0, 2, none⟩ = some (.int .i64 sz) := (hSw.out.cell (p := ⟨p0, 2, none⟩) hp0).trans c2
          have z3 : w'.cell? ⟨p0, 3, none⟩ = some (.int .i64 bk) := (hSw.out.cell (p := ⟨p0, 3, none⟩) hp0).trans c3
          have y0 : w'.cell? ⟨p1, 0, none⟩ = some (.int .i64 N) := (hSw.out.cell (p := ⟨p1, 0, none⟩) hp1).trans d0
          have y1 : w'.cell? ⟨p1, 1, none⟩ = some (.int .i64 K) := (hSw.out.cell (p := ⟨p1, 1, none⟩) hp1).trans d1
          have y2 : w'.cell? ⟨p1, 2, none⟩ = some (.int .i64 sz) := (hSw.out.cell (p := ⟨p1, 2, none⟩) hp1).trans d2
          have y3 : w'.cell? ⟨p1, 3, none⟩ = some (.int .i64 bk) := (hSw.out.cell (p := ⟨p1, 3, none⟩) hp1).trans d3
          go_simp
          try with_reducible rfl
        try simp only [Act.put, List.setIfInBounds_toArray, List.set_cons_zero, List.set_cons_succ]
        refine wpAnyH_take (i := 7) (oi := { dst := some 102, op := _, type := _, pos := _, after := _, guard := _ }) (v := ?_) rfl (by kernel_rfl) (by kernel_rfl) (by kernel_rfl) (fun _ _ _ h => h) (Or.inl ⟨by rfl, ?_⟩) (by assumption) ?_
        rotate_left
        · intro w' hSw
          try dsimp only at hSw
          go_simp
          try with_reducible rfl
        try simp only [Act.put, List.setIfInBounds_toArray, List.set_cons_zero, List.set_cons_succ]
        refine wpAnyH_ready (rs := [4]) (by kernel_rfl) (by simp) ?_
        refine AllReadyH.cons (o := { dst := some 99, op := _, type := _, pos := _, after := _, guard := _ }) rfl (fun K hK => ?_) AllReadyH.nil
        go_simp
        go_at_call 15
        refine (HLG.out _).mono ?_
        rintro e w9 ⟨rfl, hb9⟩
        try go_wp2_with fail
        refine hK.out _ _ ?_ (fun hHeld => ?_)
        · exact hHeld.out.trans (hb9.mono hHeld.out.size)
        clear hK K
        try simp only [Act.put, List.setIfInBounds_toArray, List.set_cons_zero, List.set_cons_succ]
        clear hb9
        refine wpAnyH_take (i := 8) (oi := { dst := some 103, op := _, type := _, pos := _, after := _, guard := _ }) (v := ?_) rfl (by kernel_rfl) (by kernel_rfl) (by kernel_rfl) (fun _ _ _ h => h) (Or.inl ⟨by rfl, ?_⟩) (by assumption) ?_
        rotate_left
        · intro w' hSw
          try dsimp only at hSw
          go_simp
          try with_reducible rfl
        try simp only [Act.put, List.setIfInBounds_toArray, List.set_cons_zero, List.set_cons_succ]
        refine wpAnyH_take (i := 9) (oi := { dst := some 104, op := _, type := _, pos := _, after := _, guard := _ }) (v := ?_) rfl (by kernel_rfl) (by kernel_rfl) (by kernel_rfl) (fun _ _ _ h => h) (Or.inl ⟨by rfl, ?_⟩) (by assumption) ?_
        rotate_left
        · intro w' hSw
          try dsimp only at hSw
          go_simp
          try with_reducible rfl
        try simp only [Act.put, List.setIfInBounds_toArray, List.set_cons_zero, List.set_cons_succ]
        refine wpAnyH_take (i := 10) (oi := { dst := some 105, op := _, type := _, pos := _, after := _, guard := _ }) (v := ?_) rfl (by kernel_rfl) (by kernel_rfl) (by kernel_rfl) (fun _ _ _ h => h) (Or.inl ⟨by rfl, ?_⟩) (by assumption) ?_
        rotate_left
        · intro w' hSw
          try dsimp only at hSw
          go_simp
          try with_reducible rfl
        try simp only [Act.put, List.setIfInBounds_toArray, List.set_cons_zero, List.set_cons_succ]
        refine wpAnyH_take (i := 11) (oi := { dst := some 106, op := _, type := _, pos := _, after := _, guard := _ }) (v := ?_) rfl (by kernel_rfl) (by kernel_rfl) (by kernel_rfl) (fun _ _ _ h => h) (Or.inl ⟨by rfl, ?_⟩) (by assumption) ?_
        rotate_left
        · intro w' hSw
          try dsimp only at hSw
          go_simp
          try with_reducible rfl
        try simp only [Act.put, List.setIfInBounds_toArray, List.set_cons_zero, List.set_cons_succ]
        refine wpAnyH_take (i := 12) (oi := { dst := some 107, op := _, type := _, pos := _, after := _, guard := _ }) (v := ?_) rfl (by kernel_rfl) (by kernel_rfl) (by kernel_rfl) (fun _ _ _ h => h) (Or.inl ⟨by rfl, ?_⟩) (by assumption) ?_
        rotate_left
        · intro w' hSw
          have z0 : w'.cell? ⟨p0, 0, none⟩ = some (.int .i64 N) := (hSw.out.cell (p := ⟨p0, 0, none⟩) hp0).trans c0
          have z1 : w'.cell? ⟨p0, 1, none⟩ = some (.int .i64 K) := (hSw.out.cell (p := ⟨p0, 1, none⟩) hp0).trans c1
          have z2 : w'.cell? ⟨p0, 2, none⟩ = some (.int .i64 sz) := (hSw.out.cell (p := ⟨p0, 2, none⟩) hp0).trans c2
          have z3 : w'.cell? ⟨p0, 3, none⟩ = some (.int .i64 bk) := (hSw.out.cell (p := ⟨p0, 3, none⟩) hp0).trans c3
          have y0 : w'.cell? ⟨p1, 0, none⟩ = some (.int .i64 N) := (hSw.out.cell (p := ⟨p1, 0, none⟩) hp1).trans d0
          have y1 : w'.cell? ⟨p1, 1, none⟩ = some (.int .i64 K) := (hSw.out.cell (p := ⟨p1, 1, none⟩) hp1).trans d1
          have y2 : w'.cell? ⟨p1, 2, none⟩ = some (.int .i64 sz) := (hSw.out.cell (p := ⟨p1, 2, none⟩) hp1).trans d2
          have y3 : w'.cell? ⟨p1, 3, none⟩ = some (.int .i64 bk) := (hSw.out.cell (p := ⟨p1, 3, none⟩) hp1).trans d3
          go_simp
          try with_reducible rfl
        try simp only [Act.put, List.setIfInBounds_toArray, List.set_cons_zero, List.set_cons_succ]
        refine wpAnyH_take (i := 13) (oi := { dst := some 108, op := _, type := _, pos := _, after := _, guard := _ }) (v := ?_) rfl (by kernel_rfl) (by kernel_rfl) (by kernel_rfl) (fun _ _ _ h => h) (Or.inl ⟨by rfl, ?_⟩) (by assumption) ?_
        rotate_left
        · intro w' hSw
          try dsimp only at hSw
          go_simp
          try with_reducible rfl
        try simp only [Act.put, List.setIfInBounds_toArray, List.set_cons_zero, List.set_cons_succ]
        refine wpAnyH_take (i := 14) (oi := { dst := some 109, op := _, type := _, pos := _, after := _, guard := _ }) (v := ?_) rfl (by kernel_rfl) (by kernel_rfl) (by kernel_rfl) (fun _ _ _ h => h) (Or.inl ⟨by rfl, ?_⟩) (by assumption) ?_
        rotate_left
        · intro w' hSw
          have z0 : w'.cell? ⟨p0, 0, none⟩ = some (.int .i64 N) := (hSw.out.cell (p := ⟨p0, 0, none⟩) hp0).trans c0
          have z1 : w'.cell? ⟨p0, 1, none⟩ = some (.int .i64 K) := (hSw.out.cell (p := ⟨p0, 1, none⟩) hp0).trans c1
          have z2 : w'.cell? ⟨p0, 2, none⟩ = some (.int .i64 sz) := (hSw.out.cell (p := ⟨p0, 2, none⟩) hp0).trans c2
          have z3 : w'.cell? ⟨p0, 3, none⟩ = some (.int .i64 bk) := (hSw.out.cell (p := ⟨p0, 3, none⟩) hp0).trans c3
          have y0 : w'.cell? ⟨p1, 0, none⟩ = some (.int .i64 N) := (hSw.out.cell (p := ⟨p1, 0, none⟩) hp1).trans d0
          have y1 : w'.cell? ⟨p1, 1, none⟩ = some (.int .i64 K) := (hSw.out.cell (p := ⟨p1, 1, none⟩) hp1).trans d1
          have y2 : w'.cell? ⟨p1, 2, none⟩ = some (.int .i64 sz) := (hSw.out.cell (p := ⟨p1, 2, none⟩) hp1).trans d2
          have y3 : w'.cell? ⟨p1, 3, none⟩ = some (.int .i64 bk) := (hSw.out.cell (p := ⟨p1, 3, none⟩) hp1).trans d3
          go_simp
          try with_reducible rfl
        try simp only [Act.put, List.setIfInBounds_toArray, List.set_cons_zero, List.set_cons_succ]
        refine wpAnyH_take (i := 15) (oi := { dst := some 110, op := _, type := _, pos := _, after := _, guard := _ }) (v := ?_) rfl (by kernel_rfl) (by kernel_rfl) (by kernel_rfl) (fun _ _ _ h => h) (Or.inl ⟨by rfl, ?_⟩) (by assumption) ?_
        rotate_left
        · intro w' hSw
          try dsimp only at hSw
          go_simp
          try with_reducible rfl
        try simp only [Act.put, List.setIfInBounds_toArray, List.set_cons_zero, List.set_cons_succ]
        refine wpAnyH_take (i := 16) (oi := { dst := some 111, op := _, type := _, pos := _, after := _, guard := _ }) (v := .bool true) rfl (by kernel_rfl) (by kernel_rfl) (by kernel_rfl) (fun _ _ _ h => h) (Or.inl ⟨by rfl, ?_⟩) (by assumption) ?_
        · intro w' hSw
          try dsimp only at hSw
          go_simp
          try omega
        try simp only [Act.put, List.setIfInBounds_toArray, List.set_cons_zero, List.set_cons_succ]
        refine wpAnyH_take (i := 17) (oi := { dst := some 112, op := _, type := _, pos := _, after := _, guard := _ }) (v := ?_) rfl (by kernel_rfl) (by kernel_rfl) (by kernel_rfl) (fun _ _ _ h => h) (Or.inl ⟨by rfl, ?_⟩) (by assumption) ?_
        rotate_left
        · intro w' hSw
          try dsimp only at hSw
          go_simp
          try with_reducible rfl
        try simp only [Act.put, List.setIfInBounds_toArray, List.set_cons_zero, List.set_cons_succ]
        refine wpAnyH_take (i := 18) (oi := { dst := some 113, op := _, type := _, pos := _, after := _, guard := _ }) (v := undef) rfl (by kernel_rfl) (by kernel_rfl) (by kernel_rfl) (fun _ _ _ h => h) (Or.inr ⟨by rfl, rfl⟩) (by assumption) ?_
        try simp only [Act.put, List.setIfInBounds_toArray, List.set_cons_zero, List.set_cons_succ]
        refine wpAnyH_take (i := 19) (oi := { dst := some 114, op := _, type := _, pos := _, after := _, guard := _ }) (v := undef) rfl (by kernel_rfl) (by kernel_rfl) (by kernel_rfl) (fun _ _ _ h => h) (Or.inr ⟨by rfl, rfl⟩) (by assumption) ?_
        try simp only [Act.put, List.setIfInBounds_toArray, List.set_cons_zero, List.set_cons_succ]
        refine wpAnyH_take (i := 20) (oi := { dst := some 115, op := _, type := _, pos := _, after := _, guard := _ }) (v := undef) rfl (by kernel_rfl) (by kernel_rfl) (by kernel_rfl) (fun _ _ _ h => h) (Or.inr ⟨by rfl, rfl⟩) (by assumption) ?_
        try simp only [Act.put, List.setIfInBounds_toArray, List.set_cons_zero, List.set_cons_succ]
        refine wpAnyH_take (i := 21) (oi := { dst := some 116, op := _, type := _, pos := _, after := _, guard := _ }) (v := undef) rfl (by kernel_rfl) (by kernel_rfl) (by kernel_rfl) (fun _ _ _ h => h) (Or.inr ⟨by rfl, rfl⟩) (by assumption) ?_
        try simp only [Act.put, List.setIfInBounds_toArray, List.set_cons_zero, List.set_cons_succ]
        refine wpAnyH_take (i := 22) (oi := { dst := some 117, op := _, type := _, pos := _, after := _, guard := _ }) (v := undef) rfl (by kernel_rfl) (by kernel_rfl) (by kernel_rfl) (fun _ _ _ h => h) (Or.inr ⟨by rfl, rfl⟩) (by assumption) ?_
        try simp only [Act.put, List.setIfInBounds_toArray, List.set_cons_zero, List.set_cons_succ]
        refine wpAnyH_take (i := 23) (oi := { dst := some 118, op := _, type := _, pos := _, after := _, guard := _ }) (v := ?_) rfl (by kernel_rfl) (by kernel_rfl) (by kernel_rfl) (fun _ _ _ h => h) (Or.inl ⟨by rfl, ?_⟩) (by assumption) ?_
        rotate_left
        · intro w' hSw
          try dsimp only at hSw
          go_simp
          try with_reducible rfl
        try simp only [Act.put, List.setIfInBounds_toArray, List.set_cons_zero, List.set_cons_succ]
        refine wpAnyH_take (i := 24) (oi := { dst := some 119, op := _, type := _, pos := _, after := _, guard := _ }) (v := ?_) rfl (by kernel_rfl) (by kernel_rfl) (by kernel_rfl) (fun _ _ _ h => h) (Or.inl ⟨by rfl, ?_⟩) (by assumption) ?_
        rotate_left
        · intro w' hSw
          try dsimp only at hSw
          go_simp
          try with_reducible rfl
        try simp only [Act.put, List.setIfInBounds_toArray, List.set_cons_zero, List.set_cons_succ]
        refine wpAnyH_take (i := 25) (oi := { dst := some 8, op := _, type := _, pos := _, after := _, guard := _ }) (v := ?_) rfl (by kernel_rfl) (by kernel_rfl) (by kernel_rfl) (fun _ _ _ h => h) (Or.inl ⟨by rfl, ?_⟩) (by assumption) ?_
        rotate_left
        · intro w' hSw
          try dsimp only at hSw
          go_simp
          try with_reducible rfl
        try simp only [Act.put, List.setIfInBounds_toArray, List.set_cons_zero, List.set_cons_succ]
        refine wpAnyH_done (by kernel_rfl) ?_ _
        go_wp2
        go_ret
        exact ⟨rfl, HB9.out.trans (hHeld.out.mono HB9.out.size)⟩
      · skip
        go_wp2_with fail
        refine wp_region_held_drew (S := fun W' => Hid (Below W7.heap.size W7 W')) (by kernel_rfl) ?_ (fun hHeld => ?_)
        · exact (Below.refl _ _).drew
        refine wpAnyH_take (i := 0) (oi := { dst := some 95, op := _, type := _, pos := _, after := _, guard := _ }) (v := ?_) rfl (by kernel_rfl) (by kernel_rfl) (by kernel_rfl) (fun _ _ _ h => h) (Or.inl ⟨by rfl, ?_⟩) (by assumption) ?_
        rotate_left
        · intro w' hSw
          have z0 : w'.cell? ⟨p0, 0, none⟩ = some (.int .i64 N) := (hSw.out.cell (p := ⟨p0, 0, none⟩) hp0).trans c0
          have z1 : w'.cell? ⟨p0, 1, none⟩ = some (.int .i64 K) := (hSw.out.cell (p := ⟨p0, 1, none⟩) hp0).trans c1
          have z2 : w'.cell? ⟨p0, 2, none⟩ = some (.int .i64 sz) := (hSw.out.cell (p := ⟨p0, 2, none⟩) hp0).trans c2
          have z3 : w'.cell? ⟨p0, 3, none⟩ = some (.int .i64 bk) := (hSw.out.cell (p := ⟨p0, 3, none⟩) hp0).trans c3
          have y0 : w'.cell? ⟨p1, 0, none⟩ = some (.int .i64 N) := (hSw.out.cell (p := ⟨p1, 0, none⟩) hp1).trans d0
          have y1 : w'.cell? ⟨p1, 1, none⟩ = some (.int .i64 K) := (hSw.out.cell (p := ⟨p1, 1, none⟩) hp1).trans d1
          have y2 : w'.cell? ⟨p1, 2, none⟩ = some (.int .i64 sz) := (hSw.out.cell (p := ⟨p1, 2, none⟩) hp1).trans d2
          have y3 : w'.cell? ⟨p1, 3, none⟩ = some (.int .i64 bk) := (hSw.out.cell (p := ⟨p1, 3, none⟩) hp1).trans d3
          go_simp
          try with_reducible rfl
        try simp only [Act.put, List.setIfInBounds_toArray, List.set_cons_zero, List.set_cons_succ]
        refine wpAnyH_ready (rs := [1]) (by kernel_rfl) (by simp) ?_
        refine AllReadyH.cons (o := { dst := some 96, op := _, type := _, pos := _, after := _, guard := _ }) rfl (fun K hK => ?_) AllReadyH.nil
        go_simp
        go_at_call 14
        refine (HRT.out _).mono ?_
        rintro e w9 ⟨rfl, hb9⟩
        try go_wp2_with fail
        refine hK.out _ _ ?_ (fun hHeld => ?_)
        · exact hHeld.out.trans (hb9.mono hHeld.out.size)
        clear hK K
        try simp only [Act.put, List.setIfInBounds_toArray, List.set_cons_zero, List.set_cons_succ]
        clear hb9
        refine wpAnyH_take (i := 2) (oi := { dst := some 97, op := _, type := _, pos := _, after := _, guard := _ }) (v := ?_) rfl (by kernel_rfl) (by kernel_rfl) (by kernel_rfl) (fun _ _ _ h => h) (Or.inl ⟨by rfl, ?_⟩) (by assumption) ?_
        rotate_left
        · intro w' hSw
          try dsimp only at hSw
          go_simp
          try with_reducible rfl
        try simp only [Act.put, List.setIfInBounds_toArray, List.set_cons_zero, List.set_cons_succ]
        refine wpAnyH_take (i := 3) (oi := { dst := some 98, op := _, type := _, pos := _, after := _, guard := _ }) (v := ?_) rfl (by kernel_rfl) (by kernel_rfl) (by kernel_rfl) (fun _ _ _ h => h) (Or.inl ⟨by rfl, ?_⟩) (by assumption) ?_
        rotate_left
        · intro w' hSw
          have z0 : w'.cell? ⟨p0, 0, none⟩ = some (.int .i64 N) := (hSw.out.cell (p := ⟨p0, 0, none⟩) hp0).trans c0
          have z1 : w'.cell? ⟨p0, 1, none⟩ = some (.int .i64 K) := (hSw.out.cell (p := ⟨p0, 1, none⟩) hp0).trans c1
          have z2 : w'.cell? ⟨p0, 2, none⟩ = some (.int .i64 sz) := (hSw.out.cell (p := ⟨p0, 2, none⟩) hp0).trans c2
          have z3 : w'.cell? ⟨p0, 3, none⟩ = some (.int .i64 bk) := (hSw.out.cell (p := ⟨p0, 3, none⟩) hp0).trans c3
          have y0 : w'.cell? ⟨p1, 0, none⟩ = some (.int .i64 N) := (hSw.out.cell (p := ⟨p1, 0, none⟩) hp1).trans d0
          have y1 : w'.cell? ⟨p1, 1, none⟩ = some (.int .i64 K) := (hSw.out.cell (p := ⟨p1, 1, none⟩) hp1).trans d1
          have y2 : w'.cell? ⟨p1, 2, none⟩ = some (.int .i64 sz) := (hSw.out.cell (p := ⟨p1, 2, none⟩) hp1).trans d2
          have y3 : w'.cell? ⟨p1, 3, none⟩ = some (.int .i64 bk) := (hSw.out.cell (p := ⟨p1, 3, none⟩) hp1).trans d3
          go_simp
          try with_reducible rfl
        try simp only [Act.put, List.setIfInBounds_toArray, List.set_cons_zero, List.set_cons_succ]
        refine wpAnyH_take (i := 5) (oi := { dst := some 100, op := _, type := _, pos := _, after := _, guard := _ }) (v := ?_) rfl (by kernel_rfl) (by kernel_rfl) (by kernel_rfl) (fun _ _ _ h => h) (Or.inl ⟨by rfl, ?_⟩) (by assumption) ?_
        rotate_left
        · intro w' hSw
          try dsimp only at hSw
          go_simp
          try with_reducible rfl
        try simp only [Act.put, List.setIfInBounds_toArray, List.set_cons_zero, List.set_cons_succ]
        refine wpAnyH_take (i := 6) (oi := { dst := some 101, op := _, type := _, pos := _, after := _, guard := _ }) (v := ?_) rfl (by kernel_rfl) (by kernel_rfl) (by kernel_rfl) (fun _ _ _ h => h) (Or.inl ⟨by rfl, ?_⟩) (by assumption) ?_
        rotate_left
        · intro w' hSw
          have z0 : w'.cell? ⟨p0, 0, none⟩ = some (.int .i64 N) := (hSw.out.cell (p := ⟨p0, 0, none⟩) hp0).trans c0
          have z1 : w'.cell? ⟨p0, 1, none⟩ = some (.int .i64 K) := (hSw.out.cell (p := ⟨p0, 1, none⟩) hp0).trans c1
          have z2 : w'.cell? ⟨p0, 2, none⟩ = some (.int .i64 sz) := (hSw.out.cell (p := ⟨p0, 2, none⟩) hp0).trans c2
          have z3 : w'.cell? ⟨p0, 3, none⟩ = some (.int .i64 bk) := (hSw.out.cell (p := ⟨p0, 3, none⟩) hp0).trans c3
          have y0 : w'.cell? ⟨p1, 0, none⟩ = some (.int .i64 N) := (hSw.out.cell (p := ⟨p1, 0, none⟩) hp1).trans d0
          have y1 : w'.cell? ⟨p1, 1, none⟩ = some (.int .i64 K) := (hSw.out.cell (p := ⟨p1, 1, none⟩) hp1).trans d1
          have y2 : w'.cell? ⟨p1, 2, none⟩ = some (.int .i64 sz) := (hSw.out.cell (p := ⟨p1, 2, none⟩) hp1).trans d2
          have y3 : w'.cell? ⟨p1, 3, none⟩ = some (.int .i64 bk) := (hSw.out.cell (p := ⟨p1, 3, none⟩) hp1).trans d3
          go_simp
          try with_reducible rfl
        try simp only [Act.put, List.setIfInBounds_toArray, List.set_cons_zero, List.set_cons_succ]
        refine wpAnyH_take (i := 7) (oi := { dst := some 102, op := _, type := _, pos := _, after := _, guard := _ }) (v := ?_) rfl (by kernel_rfl) (by kernel_rfl) (by kernel_rfl) (fun _ _ _ h => h) (Or.inl ⟨by rfl, ?_⟩) (by assumption) ?_
        rotate_left
        · intro w' hSw
          try dsimp only at hSw
          go_simp
          try with_reducible rfl
        try simp only [Act.put, List.setIfInBounds_toArray, List.set_cons_zero, List.set_cons_succ]
        refine wpAnyH_ready (rs := [4]) (by kernel_rfl) (by simp) ?_
        refine AllReadyH.cons (o := { dst := some 99, op := _, type := _, pos := _, after := _, guard := _ }) rfl (fun K hK => ?_) AllReadyH.nil
        go_simp
        go_at_call 15
        refine (HLG.out _).mono ?_
        rintro e w9 ⟨rfl, hb9⟩
        try go_wp2_with fail
        refine hK.out _ _ ?_ (fun hHeld => ?_)
        · exact hHeld.out.trans (hb9.mono hHeld.out.size)
        clear hK K
        try simp only [Act.put, List.setIfInBounds_toArray, List.set_cons_zero, List.set_cons_succ]
        clear hb9
        refine wpAnyH_take (i := 8) (oi := { dst := some 103, op := _, type := _, pos := _, after := _, guard := _ }) (v := ?_) rfl (by kernel_rfl) (by kernel_rfl) (by kernel_rfl) (fun _ _ _ h => h) (Or.inl ⟨by rfl, ?_⟩) (by assumption) ?_
        rotate_left
        · intro w' hSw
          try dsimp only at hSw
          go_simp
          try with_reducible rfl
        try simp only [Act.put, List.setIfInBounds_toArray, List.set_cons_zero, List.set_cons_succ]
        refine wpAnyH_take (i := 9) (oi := { dst := some 104, op := _, type := _, pos := _, after := _, guard := _ }) (v := ?_) rfl (by kernel_rfl) (by kernel_rfl) (by kernel_rfl) (fun _ _ _ h => h) (Or.inl ⟨by rfl, ?_⟩) (by assumption) ?_
        rotate_left
        · intro w' hSw
          try dsimp only at hSw
          go_simp
          try with_reducible rfl
        try simp only [Act.put, List.setIfInBounds_toArray, List.set_cons_zero, List.set_cons_succ]
        refine wpAnyH_take (i := 10) (oi := { dst := some 105, op := _, type := _, pos := _, after := _, guard := _ }) (v := ?_) rfl (by kernel_rfl) (by kernel_rfl) (by kernel_rfl) (fun _ _ _ h => h) (Or.inl ⟨by rfl, ?_⟩) (by assumption) ?_
        rotate_left
        · intro w' hSw
          try dsimp only at hSw
          go_simp
          try with_reducible rfl
        try simp only [Act.put, List.setIfInBounds_toArray, List.set_cons_zero, List.set_cons_succ]
        refine wpAnyH_take (i := 11) (oi := { dst := some 106, op := _, type := _, pos := _, after := _, guard := _ }) (v := ?_) rfl (by kernel_rfl) (by kernel_rfl) (by kernel_rfl) (fun _ _ _ h => h) (Or.inl ⟨by rfl, ?_⟩) (by assumption) ?_
        rotate_left
        · intro w' hSw
          try dsimp only at hSw
          go_simp
          try with_reducible rfl
        try simp only [Act.put, List.setIfInBounds_toArray, List.set_cons_zero, List.set_cons_succ]
        refine wpAnyH_take (i := 12) (oi := { dst := some 107, op := _, type := _, pos := _, after := _, guard := _ }) (v := ?_) rfl (by kernel_rfl) (by kernel_rfl) (by kernel_rfl) (fun _ _ _ h => h) (Or.inl ⟨by rfl, ?_⟩) (by assumption) ?_
        rotate_left
        · intro w' hSw
          have z0 : w'.cell? ⟨p0, 0, none⟩ = some (.int .i64 N) := (hSw.out.cell (p := ⟨p0, 0, none⟩) hp0).trans c0
          have z1 : w'.cell? ⟨p0, 1, none⟩ = some (.int .i64 K) := (hSw.out.cell (p := ⟨p0, 1, none⟩) hp0).trans c1
          have z2 : w'.cell? ⟨p0, 2, none⟩ = some (.int .i64 sz) := (hSw.out.cell (p := ⟨p0, 2, none⟩) hp0).trans c2
          have z3 : w'.cell? ⟨p0, 3, none⟩ = some (.int .i64 bk) := (hSw.out.cell (p := ⟨p0, 3, none⟩) hp0).trans c3
          have y0 : w'.cell? ⟨p1, 0, none⟩ = some (.int .i64 N) := (hSw.out.cell (p := ⟨p1, 0, none⟩) hp1).trans d0
          have y1 : w'.cell? ⟨p1, 1, none⟩ = some (.int .i64 K) := (hSw.out.cell (p := ⟨p1, 1, none⟩) hp1).trans d1
          have y2 : w'.cell? ⟨p1, 2, none⟩ = some (.int .i64 sz) := (hSw.out.cell (p := ⟨p1, 2, none⟩) hp1).trans d2
          have y3 : w'.cell? ⟨p1, 3, none⟩ = some (.int .i64 bk) := (hSw.out.cell (p := ⟨p1, 3, none⟩) hp1).trans d3
          go_simp
          try with_reducible rfl
        try simp only [Act.put, List.setIfInBounds_toArray, List.set_cons_zero, List.set_cons_succ]
        refine wpAnyH_take (i := 13) (oi := { dst := some 108, op := _, type := _, pos := _, after := _, guard := _ }) (v := ?_) rfl (by kernel_rfl) (by kernel_rfl) (by kernel_rfl) (fun _ _ _ h => h) (Or.inl ⟨by rfl, ?_⟩) (by assumption) ?_
        rotate_left
        · intro w' hSw
          try dsimp only at hSw
          go_simp
          try with_reducible rfl
        try simp only [Act.put, List.setIfInBounds_toArray, List.set_cons_zero, List.set_cons_succ]
        refine wpAnyH_take (i := 14) (oi := { dst := some 109, op := _, type := _, pos := _, after := _, guard := _ }) (v := ?_) rfl (by kernel_rfl) (by kernel_rfl) (by kernel_rfl) (fun _ _ _ h => h) (Or.inl ⟨by rfl, ?_⟩) (by assumption) ?_
        rotate_left
        · intro w' hSw
          have z0 : w'.cell? ⟨p0, 0, none⟩ = some (.int .i64 N) := (hSw.out.cell (p := ⟨p0, 0, none⟩) hp0).trans c0
          have z1 : w'.cell? ⟨p0, 1, none⟩ = some (.int .i64 K) := (hSw.out.cell (p := ⟨p0, 1, none⟩) hp0).trans c1
          have z2 : w'.cell? ⟨p0, 2, none⟩ = some (.int .i64 sz) := (hSw.out.cell (p := ⟨p0, 2, none⟩) hp0).trans c2
          have z3 : w'.cell? ⟨p0, 3, none⟩ = some (.int .i64 bk) := (hSw.out.cell (p := ⟨p0, 3, none⟩) hp0).trans c3
          have y0 : w'.cell? ⟨p1, 0, none⟩ = some (.int .i64 N) := (hSw.out.cell (p := ⟨p1, 0, none⟩) hp1).trans d0
          have y1 : w'.cell? ⟨p1, 1, none⟩ = some (.int .i64 K) := (hSw.out.cell (p := ⟨p1, 1, none⟩) hp1).trans d1
          have y2 : w'.cell? ⟨p1, 2, none⟩ = some (.int .i64 sz) := (hSw.out.cell (p := ⟨p1, 2, none⟩) hp1).trans d2
          have y3 : w'.cell? ⟨p1, 3, none⟩ = some (.int .i64 bk) := (hSw.out.cell (p := ⟨p1, 3, none⟩) hp1).trans d3
          go_simp
          try with_reducible rfl
        try simp only [Act.put, List.setIfInBounds_toArray, List.set_cons_zero, List.set_cons_succ]
        refine wpAnyH_take (i := 15) (oi := { dst := some 110, op := _, type := _, pos := _, after := _, guard := _ }) (v := ?_) rfl (by kernel_rfl) (by kernel_rfl) (by kernel_rfl) (fun _ _ _ h => h) (Or.inl ⟨by rfl, ?_⟩) (by assumption) ?_
        rotate_left
        · intro w' hSw
          try dsimp only at hSw
          go_simp
          try with_reducible rfl
        try simp only [Act.put, List.setIfInBounds_toArray, List.set_cons_zero, List.set_cons_succ]
        refine wpAnyH_take (i := 16) (oi := { dst := some 111, op := _, type := _, pos := _, after := _, guard := _ }) (v := .bool false) rfl (by kernel_rfl) (by kernel_rfl) (by kernel_rfl) (fun _ _ _ h => h) (Or.inl ⟨by rfl, ?_⟩) (by assumption) ?_
        · intro w' hSw
          try dsimp only at hSw
          go_simp
          try omega
        try simp only [Act.put, List.setIfInBounds_toArray, List.set_cons_zero, List.set_cons_succ]
        refine wpAnyH_take (i := 17) (oi := { dst := some 112, op := _, type := _, pos := _, after := _, guard := _ }) (v := ?_) rfl (by kernel_rfl) (by kernel_rfl) (by kernel_rfl) (fun _ _ _ h => h) (Or.inl ⟨by rfl, ?_⟩) (by assumption) ?_
        rotate_left
        · intro w' hSw
          try dsimp only at hSw
          go_simp
          try with_reducible rfl
        try simp only [Act.put, List.setIfInBounds_toArray, List.set_cons_zero, List.set_cons_succ]
        refine wpAnyH_take (i := 18) (oi := { dst := some 113, op := _, type := _, pos := _, after := _, guard := _ }) (v := ?_) rfl (by kernel_rfl) (by kernel_rfl) (by kernel_rfl) (fun _ _ _ h => h) (Or.inl ⟨by rfl, ?_⟩) (by assumption) ?_
        rotate_left
        · intro w' hSw
          have z0 : w'.cell? ⟨p0, 0, none⟩ = some (.int .i64 N) := (hSw.out.cell (p := ⟨p0, 0, none⟩) hp0).trans c0
          have z1 : w'.cell? ⟨p0, 1, none⟩ = some (.int .i64 K) := (hSw.out.cell (p := ⟨p0, 1, none⟩) hp0).trans c1
          have z2 : w'.cell? ⟨p0, 2, none⟩ = some (.int .i64 sz) := (hSw.out.cell (p := ⟨p0, 2, none⟩) hp0).trans c2
          have z3 : w'.cell? ⟨p0, 3, none⟩ = some (.int .i64 bk) := (hSw.out.cell (p := ⟨p0, 3, none⟩) hp0).trans c3
          have y0 : w'.cell? ⟨p1, 0, none⟩ = some (.int .i64 N) := (hSw.out.cell (p := ⟨p1, 0, none⟩) hp1).trans d0
          have y1 : w'.cell? ⟨p1, 1, none⟩ = some (.int .i64 K) := (hSw.out.cell (p := ⟨p1, 1, none⟩) hp1).trans d1
          have y2 : w'.cell? ⟨p1, 2, none⟩ = some (.int .i64 sz) := (hSw.out.cell (p := ⟨p1, 2, none⟩) hp1).trans d2
          have y3 : w'.cell? ⟨p1, 3, none⟩ = some (.int .i64 bk) := (hSw.out.cell (p := ⟨p1, 3, none⟩) hp1).trans d3
          go_simp
          try with_reducible rfl
        try simp only [Act.put, List.setIfInBounds_toArray, List.set_cons_zero, List.set_cons_succ]
        refine wpAnyH_take (i := 20) (oi := { dst := some 115, op := _, type := _, pos := _, after := _, guard := _ }) (v := ?_) rfl (by kernel_rfl) (by kernel_rfl) (by kernel_rfl) (fun _ _ _ h => h) (Or.inl ⟨by rfl, ?_⟩) (by assumption) ?_
        rotate_left
        · intro w' hSw
          have z0 : w'.cell? ⟨p0, 0, none⟩ = some (.int .i64 N) := (hSw.out.cell (p := ⟨p0, 0, none⟩) hp0).trans c0
          have z1 : w'.cell? ⟨p0, 1, none⟩ = some (.int .i64 K) := (hSw.out.cell (p := ⟨p0, 1, none⟩) hp0).trans c1
          have z2 : w'.cell? ⟨p0, 2, none⟩ = some (.int .i64 sz) := (hSw.out.cell (p := ⟨p0, 2, none⟩) hp0).trans c2
          have z3 : w'.cell? ⟨p0, 3, none⟩ = some (.int .i64 bk) := (hSw.out.cell (p := ⟨p0, 3, none⟩) hp0).trans c3
          have y0 : w'.cell? ⟨p1, 0, none⟩ = some (.int .i64 N) := (hSw.out.cell (p := ⟨p1, 0, none⟩) hp1).trans d0
          have y1 : w'.cell? ⟨p1, 1, none⟩ = some (.int .i64 K) := (hSw.out.cell (p := ⟨p1, 1, none⟩) hp1).trans d1
          have y2 : w'.cell? ⟨p1, 2, none⟩ = some (.int .i64 sz) := (hSw.out.cell (p := ⟨p1, 2, none⟩) hp1).trans d2
          have y3 : w'.cell? ⟨p1, 3, none⟩ = some (.int .i64 bk) := (hSw.out.cell (p := ⟨p1, 3, none⟩) hp1).trans d3
          go_simp
          try with_reducible rfl
        try simp only [Act.put, List.setIfInBounds_toArray, List.set_cons_zero, List.set_cons_succ]
        refine wpAnyH_ready (rs := [19]) (by kernel_rfl) (by simp) ?_
        refine AllReadyH.cons (o := { dst := some 114, op := _, type := _, pos := _, after := _, guard := _ }) rfl (fun K hK => ?_) AllReadyH.nil
        go_simp
        go_at_call 16
        refine (HBK.out _).mono ?_
        rintro e w9 ⟨rfl, hb9⟩
        try go_wp2_with fail
        refine hK.out _ _ ?_ (fun hHeld => ?_)
        · exact hHeld.out.trans (hb9.mono hHeld.out.size)
        clear hK K
        try simp only [Act.put, List.setIfInBounds_toArray, List.set_cons_zero, List.set_cons_succ]
        clear hb9
        refine wpAnyH_ready (rs := [21]) (by kernel_rfl) (by simp) ?_
        refine AllReadyH.cons (o := { dst := some 116, op := _, type := _, pos := _, after := _, guard := _ }) rfl (fun K hK => ?_) AllReadyH.nil
        go_simp
        go_at_call 17
        refine (HRB.out _).mono ?_
        rintro e w9 ⟨rfl, hb9⟩
        try go_wp2_with fail
        refine hK.out _ _ ?_ (fun hHeld => ?_)
        · exact hHeld.out.trans (hb9.mono hHeld.out.size)
        clear hK K
        try simp only [Act.put, List.setIfInBounds_toArray, List.set_cons_zero, List.set_cons_succ]
        clear hb9
        refine wpAnyH_take (i := 22) (oi := { dst := some 117, op := _, type := _, pos := _, after := _, guard := _ }) (v := ?_) rfl (by kernel_rfl) (by kernel_rfl) (by kernel_rfl) (fun _ _ _ h => h) (Or.inl ⟨by rfl, ?_⟩) (by assumption) ?_
        rotate_left
        · intro w' hSw
          try dsimp only at hSw
          go_simp
          try with_reducible rfl
        try simp only [Act.put, List.setIfInBounds_toArray, List.set_cons_zero, List.set_cons_succ]
        refine wpAnyH_take (i := 23) (oi := { dst := some 118, op := _, type := _, pos := _, after := _, guard := _ }) (v := ?_) rfl (by kernel_rfl) (by kernel_rfl) (by kernel_rfl) (fun _ _ _ h => h) (Or.inl ⟨by rfl, ?_⟩) (by assumption) ?_
        rotate_left
        · intro w' hSw
          try dsimp only at hSw
          go_simp
          try with_reducible rfl
        try simp only [Act.put, List.setIfInBounds_toArray, List.set_cons_zero, List.set_cons_succ]
        refine wpAnyH_take (i := 24) (oi := { dst := some 119, op := _, type := _, pos := _, after := _, guard := _ }) (v := ?_) rfl (by kernel_rfl) (by kernel_rfl) (by kernel_rfl) (fun _ _ _ h => h) (Or.inl ⟨by rfl, ?_⟩) (by assumption) ?_
        rotate_left
        · intro w' hSw
          try dsimp only at hSw
          go_simp
          try with_reducible rfl
        try simp only [Act.put, List.setIfInBounds_toArray, List.set_cons_zero, List.set_cons_succ]
        refine wpAnyH_take (i := 25) (oi := { dst := some 8, op := _, type := _, pos := _, after := _, guard := _ }) (v := ?_) rfl (by kernel_rfl) (by kernel_rfl) (by kernel_rfl) (fun _ _ _ h => h) (Or.inl ⟨by rfl, ?_⟩) (by assumption) ?_
        rotate_left
        · intro w' hSw
          try dsimp only at hSw
          go_simp
          try with_reducible rfl
        try simp only [Act.put, List.setIfInBounds_toArray, List.set_cons_zero, List.set_cons_succ]
        refine wpAnyH_done (by kernel_rfl) ?_ _
        go_wp2
        go_ret
        exact ⟨rfl, HB9.out.trans (hHeld.out.mono HB9.out.size)⟩
end Go.Proofs.Ytbmkcnlcffnjgaa
