/-
  LAW 23: what a column's volume is is what it was made of; each row of columns, and those that follow, is a codeword: StripeBack. No conditions.
-/
import Derived.Test.YtbmkcnlcffnjgaaLaw23
import Derived.Test.YtbmkcnlcffnjgaaSrm
namespace Go.Proofs.Ytbmkcnlcffnjgaa
open Go.RowKit
set_option maxRecDepth 100000
set_option linter.unusedVariables false

theorem vol_col {b : List F} {S : Nat} (h : b.length ≤ S) (hS : S ≤ 16777216) : vol23 (col23 b S) = (0, b) := by
  have h8 : (putL b.length 8).length = 8 := putL_length _ _
  have hl : (col23 b S).length = 8 + S := col23_length h
  have ht : (col23 b S).take 8 = putL b.length 8 := by
    unfold col23
    rw [List.append_assoc, List.take_append_of_le_length (by omega), List.take_of_length_le (by omega)]
  have hd : (col23 b S).drop 8 = b ++ List.replicate (S - b.length) 0 := by
    unfold col23
    rw [List.append_assoc, List.drop_append_of_le_length (by omega), List.drop_of_length_le (by omega), List.nil_append]
  have hg : getL (putL b.length 8) = b.length := by rw [getL_putL]; exact Nat.mod_eq_of_lt (by omega)
  unfold vol23
  rw [ht, hd, hl, hg, if_neg (by omega), if_neg (by omega), List.drop_append_of_le_length (Nat.le_refl _), List.drop_length, List.nil_append, List.take_append_of_le_length (Nat.le_refl _), List.take_length, nzB_no fun r hr => by
    rw [gt_rep23]]
  rfl
/-- a row of columns, and of those that follow, is a codeword -/
theorem stripe_word {n K C N : Nat} {R R6 : Nat → List F} {M : Nat → Nat → F} (hN : N = n + K) (h256 : n ≤ 256) (hpar : ∀ j, j < K → ∀ a, a < C → ParAt n (rowAt R n a) j (M j a)) (h1 : ∀ r, r < n → R6 r = R r) (h2 : ∀ j, j < K → R6 (n + j) = mkF (M j) C) {a : Nat} (ha : a < C) {T : List F} (hT : Tells n ((rowAt R6 N a).take n) T) :
    vals T n (N - n) = (rowAt R6 N a).drop n := by
  subst hN
  have hl : (rowAt R6 (n + K) a).length = n + K := mkF_length _ _
  refine ext_gt (by rw [vals_length, List.length_drop, hl]) fun j hj => ?_
  rw [vals_length] at hj
  have hjK : j < K := by omega
  have hT2 : ParAt n (rowAt R n a) j (ev T (plI (n + j))) := ⟨T, hT.congr fun i hi => by
    rw [gt_take, if_pos hi, gt_rowAt, if_pos (by omega), gt_rowAt, if_pos hi, h1 i hi], rfl⟩
  rw [gt_vals, if_pos hj, gt_drop, gt_rowAt, if_pos (by omega), h2 j hjK, gt_mkF, if_pos ha]
  exact hT2.unique h256 (hpar j hjK a ha)
set_option maxHeartbeats 8000000 in
theorem walk_StripeBack (w : World) (A : Option Addr) (n cap : Nat) (RA : Nat → Option Addr) (RL RC : Nat → Nat) (R : Nat → List F) (h : MIn w A n cap RA RL RC R) (s : Int) (hs : (Lit.int .i64 s).wf = true) (k : Int) (hk : (Lit.int .i64 k).wf = true) :
    Calls Try.prog 5 #[.slice A n cap, .int .i64 s, .int .i64 k] w fun e w' => e = .returned (.bool true) ∧ Below w.heap.size w w' := by
  obtain ⟨i0, hi, hz0, hz1, hz2⟩ := info_parts info_bytes3
  obtain ⟨j0, hj, hy0, hy1, hy2⟩ := info_parts info_u8
  have hnm := h.nmax
  have HH := Lib.hid h
  have HS := Lib.hid hs
  clear h hs hk
  go_enter Try.func5, Try.ntmps5
  go_wp2_with fail
  refine (alive23_c w).mono ?_
  rintro e w1 ⟨rfl, hb1⟩
  have HB1 := Lib.hid hb1
  clear hb1
  by_cases h0 : n = 0
  · have e0 : ((n : Int) == 0) = true := by rw [beq_iff_eq]; omega
    go_wp2
    go_ret
    exact ⟨rfl, HB1.out⟩
  have e0 : ((n : Int) == 0) = false := by rw [beq_eq_false_iff_ne]; omega
  by_cases h8 : (8 : Int) < n
  · go_wp2
    go_ret
    exact ⟨rfl, HB1.out⟩
  by_cases h40 : 40 < s
  · go_wp2
    go_ret
    exact ⟨rfl, HB1.out⟩
  by_cases hk0 : k < 0
  · go_wp2
    go_ret
    exact ⟨rfl, HB1.out⟩
  by_cases hk8 : 8 < k
  · go_wp2
    go_ret
    exact ⟨rfl, HB1.out⟩
  obtain ⟨K, rfl⟩ : ∃ K : Nat, k = K := ⟨k.toNat, by omega⟩
  obtain ⟨S, hS⟩ : ∃ S : Nat, S = s.toNat := ⟨_, rfl⟩
  obtain ⟨C, hC⟩ : ∃ C : Nat, C = 8 + S := ⟨_, rfl⟩
  have HSS := Lib.hid hS
  have HC := Lib.hid hC
  have hC48 : C ≤ 48 := by omega
  clear hS hC
  go_wp2
  go_loopw [7, 46] (fun v iv wr => ∃ i : Nat, i ≤ n ∧ iv = .int .i64 i ∧ ∃ g c RA' RC', v = .slice (some ⟨g, 0, none⟩) i c ∧ Hid (Rws wr w1.heap.size g i c RA' (fun _ => C) RC' (fun r => col23 (R r) S)) ∧ Hid (0 < i → s = S ∧ 5 ≤ S) ∧ Hid (Below w1.heap.size w1 wr)) (fun _ iv _ => n - (intOf iv).toNat)
  case atStart => exact ⟨0, by omega, rfl, _, _, fun _ => none, fun _ => 0, rfl, Rws.none_ _ (Nat.le_refl _), fun h => absurd h (by omega), (Below.refl _ _).alloc (Nat.le_refl _) _⟩
  case round =>
    obtain ⟨i, hi', rfl, g, c, RA', RC', rfl, HR, HI, HB⟩ := hrel
    by_cases hlt : i < n
    · have hii : (i : Int) < (n : Int) := by omega
      have hB0 := HB1.out.trans (HB.out.mono HB1.out.size)
      have hMI := HH.out.below hB0
      obtain ⟨b1, o1, rfl, _, q1⟩ := hMI.at_ hlt
      have hrow := hMI.row i hlt
      have HROW := Lib.hid hrow
      have HB0 := Lib.hid hB0
      clear hMI hB0
      go_wp2_with fail
      refine (Column_c hrow s HS.out).mono ?_
      have HLEN := Lib.hid hrow.row.len
      clear hrow q1
      rintro e w3 (⟨_, rfl, hb3⟩ | ⟨_, _, _, rfl, hb3⟩ | ⟨S', g1, rfl, h5, _, hle, rfl, hown, hb3⟩)
      · have HB3 := Lib.hid (HB0.out.trans (hb3.mono HB0.out.size))
        clear hb3
        go_wp2
        go_ret
        exact ⟨rfl, HB3.out⟩
      · have HB3 := Lib.hid (HB0.out.trans (hb3.mono HB0.out.size))
        clear hb3
        go_wp2
        go_ret
        exact ⟨rfl, HB3.out⟩
      · obtain rfl : S' = S := by rw [HSS.out]; omega
        rw [← HC.out] at hown ⊢
        have HB3 := Lib.hid hb3
        have HOWN := Lib.hid hown
        have hin := own_RowIn hown
        clear hown hb3
        go_wp2_with fail
        refine (Volume_c hin (by omega)).mono ?_
        rintro e w4 h4
        unfold VoR at h4
        rw [vol_col hle (by omega)] at h4
        have h4' : ∃ A c, e = .returned (.tuple #[.slice A (R i).length c, .int .i64 0]) ∧ w4.ownsRow w3.heap.size 5 1 (.slice A (R i).length c) (R i).length (cs (R i)) ∧ Below w3.heap.size w3 w4 := h4
        clear h4
        obtain ⟨A4, c4, rfl, hown4, hb4⟩ := h4'
        have hsame := Same_c A4 (RA i) (R i).length c4 (RC i) (R i) (R i) w4 (Row.of_own hown4) (by rw [HLEN.out]; exact (HROW.out.row.below (HB3.out.trans (hb4.mono HB3.out.size)))) rfl
        rw [HLEN.out] at hsame ⊢
        have HSAME := Lib.hid hsame
        have HB4 := Lib.hid hb4
        have hCi : (S' : Int) + 8 = (C : Int) := by have := HC.out; omega
        clear hsame hb4 hown4 hin
        have HB5 : Hid (∀ q, Below wr.heap.size wr (w4.drewN q)) := fun q => below_drewN (HB3.out.trans (HB4.out.mono HB3.out.size)) q
        have HG5 : Hid (∀ q, RowIn (w4.drewN q) (some ⟨g1, 0, none⟩) C C (col23 (R i) S')) := fun q => ((own_RowIn HOWN.out).below HB4.out).drewN q
        have hg1 : wr.heap.size ≤ g1 := (HOWN.out.lt g1 rfl).1
        have hgl : g < wr.heap.size := (HR.out.own.lt g rfl).2
        clear HB3 HB4 HOWN
        go_wp2_with (first
          | (go_at_call 12
             refine HSAME.out.mono ?_
             rintro e w' ⟨rfl, q, rfl⟩
             have HB6 := Lib.hid (HB5.out q)
             have HG6 := Lib.hid (HG5.out q)
             clear HSAME HB5 HG5
             generalize w4.drewN q = w5 at *)
          | (at_builtin
             refine wpList_append_lies _ rfl (.tmp 78) (.tmp 80) 40 rfl w1.heap.size 22 i0 (.slice none 0 0) 1 24 Try.underlying40 hi hz0 hz1 hz2 rfl (by decide) (.slice (some ⟨g, 0, none⟩) i c) i (vs (slf RA' (fun _ => C) RC') i) rfl ((HR.out.below HB6.out).own.alloc _) ⟨w5.heap.size, 0, none⟩ 1 1 (vs (slf (fun _ => some ⟨g1, 0, none⟩) (fun _ => C) (fun _ => C)) 1) rfl rfl (one_cell w5 _ _) (by intro u hu; simp [vs, slf] at hu; subst hu; rfl) (by omega) (by unfold maxLen; omega) (by omega) (by have := HB.out.size; have := HB6.out.size; simp; omega) (w5.heap.size + 1) (by simp) ?_
             intro g5 c5 w6 hown5 hg5 hat5 hlt5))
        have hR6 := ((HR.out.below HB6.out).push (m := 1) (A' := fun _ => some ⟨g1, 0, none⟩) (L' := fun _ => C) (C' := fun _ => C) (R' := fun _ => col23 (R i) S') (fun r hr => HG6.out) (fun r hr h0 x e => by injection e with e; subst e; show g1 ≠ g; omega) ((Below.refl w5.heap.size w5).alloc (Nat.le_refl _) _) hown5 hg5 (by
          rcases hat5 with h | h
          · left
            injection h with h
            exact h.symm
          · right
            rw [h]
            simp)).congr (RL' := fun _ => C) (R' := fun r => col23 (R r) S') (fun r hr => by simp) (fun r hr => by
          by_cases e : r < i
          · simp only [if_pos e]
          · simp only [if_neg e]
            rw [show r = i by omega])
        have HR6 := Lib.hid hR6
        have HB7 : Hid (Below w1.heap.size w1 w6) := ((HB.out.trans (HB6.out.mono HB.out.size)).alloc (by have := HB.out.size; have := HB6.out.size; omega) _).grown hg5 (by have := HB.out.size; have := HB6.out.size; simp; omega) (fun x hx => by injection hx with hx; subst hx; exact (HR.out.own.lt g rfl).1)
        clear hR6 hown5 hg5 hat5 hlt5
        go_wp2
        go_roundw
        case rel => exact ⟨i + 1, by omega, by go_num, g5, c5, _, _, rfl, HR6.out, fun _ => by first | exact ⟨rfl, h5⟩ | exact ⟨trivial, h5⟩, HB7.out⟩
        case measure => simp [intOf]; omega
    · obtain rfl : i = n := by omega
      obtain ⟨rfl, h5⟩ := HI.out (by omega)
      have HP := Lib.hid (Parity_yes HR.out.min (fun r hr => rfl) (k := K) (by omega) (by omega) (by omega))
      go_wp2_with fail
      refine HP.out.mono ?_
      rintro e w7 ⟨g2, hi2, G, M, rfl, hM, hpar, hb7⟩
      have HR7 := Lib.hid (HR.out.below hb7)
      have HB7 := Lib.hid (HB.out.trans (hb7.mono HB.out.size))
      have HM := Lib.hid hM
      have HPAR := Lib.hid hpar
      have hg2 : wr.heap.size ≤ g2 := hM.glo.1
      have hgl : g < wr.heap.size := (HR.out.own.lt g rfl).2
      have hGl : Hid (∀ r, r < K → wr.heap.size ≤ G r) := fun r hr => (hM.rlo r hr).1
      have hcap := own_caps23 HR.out.own
      have hCi : (S : Int) + 8 = (C : Int) := by have := HC.out; omega
      clear hM hpar hb7 HP HR HB
      by_cases hK : K = 0
      · subst hK
        have hs0 : ∀ (a : Addr) (V : Value) (w : World), Sem.run Try.prog ((fun _ => V) <$> storeCells (a.add i) ([] : List Value)) w = .ok V w := fun a V w => rfl
        go_wp2
        have HN : Hid (i = i + 0) := rfl
        obtain ⟨R6, hR6⟩ : ∃ R6 : Nat → List F, R6 = fun r => if r < i then col23 (R r) S else mkF (M (r - i)) C := ⟨_, rfl⟩
        have HR8 : Hid (Rws w7 w1.heap.size g i c RA' (fun _ => C) RC' R6) := HR7.out.congr (fun r hr => rfl) (fun r hr => by rw [hR6]; simp only [if_pos hr])
        have HE1 : Hid (∀ r, r < i → R6 r = col23 (R r) S) := fun r hr => by rw [hR6]; simp only [if_pos hr]
        have HE2 : Hid (∀ j, j < 0 → R6 (i + j) = mkF (M j) C) := fun j hj => by omega
        have HB8 := HB7
        clear hR6 HR7 HB7 HM hs0
        obtain ⟨w8, hw8⟩ : ∃ W, W = w7 := ⟨_, rfl⟩
        subst hw8
        go_loopw [102] (fun iv wr => ∃ a : Nat, a ≤ C ∧ iv = .int .i64 a ∧ Hid (Below w8.heap.size w8 wr)) (fun iv _ => C - (intOf iv).toNat)
        case atStart => exact ⟨0, by omega, rfl, Below.refl _ _⟩
        case round =>
          obtain ⟨a, ha', rfl, HBa⟩ := hrel
          by_cases hla : a < C
          · have hai : (a : Int) < (C : Int) := by omega
            obtain ⟨W9, hW9⟩ : ∃ W, W = wr := ⟨_, rfl⟩
            subst hW9
            go_wp2
            go_loopw [18, 108] (fun v iv wr => ∃ j : Nat, j ≤ i ∧ iv = .int .i64 j ∧ ∃ g9 c9, v = .slice (some ⟨g9, 0, none⟩) j c9 ∧ Hid (wr.ownsRow W9.heap.size 5 1 (.slice (some ⟨g9, 0, none⟩) j c9) j (cs (mkF (fun r => gt (R6 r) a) j))) ∧ Hid (Below W9.heap.size W9 wr)) (fun _ iv _ => i - (intOf iv).toNat)
            case atStart => exact ⟨0, by omega, rfl, _, 0, rfl, World.ownsRow_made (e := 5) (size := 1) W9 #[] 0 (Nat.le_refl _) (Nat.zero_le _) rfl, (Below.refl _ _).alloc (Nat.le_refl _) _⟩
            case round =>
              obtain ⟨j, hj', rfl, g9, c9, rfl, HO, HBj⟩ := hrel
              by_cases hlj : j < i
              · have hji : (j : Int) < (i : Nat) := by omega
                have hMI := HR8.out.min.below (HBa.out.trans (HBj.out.mono HBa.out.size))
                obtain ⟨b1', o1', e, _, q1⟩ := hMI.at_ hlj
                injection e with e
                injection e with e1 e2
                subst e1 e2
                rw [Nat.zero_add] at q1
                obtain ⟨b3, o3, hA3, _, q3⟩ := (hMI.row j hlj).row.at_ (k := a) hla
                rw [hA3] at q1
                have hsn := Lib.hid (mkF_snoc (fun r => gt (R6 r) a) j)
                generalize gt (R6 j) a = x at *
                clear hMI hA3
                go_wp2_with ((at_builtin; refine wpList_append_lies _ rfl (.tmp 116) (.tmp 121) 22 rfl W9.heap.size 5 j0 (.int .u8 0) 1 1 Try.underlying22 hj hy0 hy1 hy2 rfl (by decide) (.slice (some ⟨g9, 0, none⟩) j c9) j (cs (mkF (fun r => gt (R6 r) a) j)) rfl (HO.out.alloc _) ⟨wr.heap.size, 0, none⟩ 1 1 [.int .u8 x.n] rfl rfl (one_cell wr _ _) (by intro u hu; simp at hu; subst hu; rfl) (by omega) (by unfold maxLen; omega) (by omega) (by have := HBj.out.size; simp; omega) (wr.heap.size + 1) (by simp) ?_; intro g5 c5 w5 hown5 hg5 hat5 hlt5))
                have HO5 : Hid (w5.ownsRow W9.heap.size 5 1 (.slice (some ⟨g5, 0, none⟩) (j + 1) c5) (j + 1) (cs (mkF (fun r => gt (R6 r) a) (j + 1)))) := by
                  unfold Hid
                  rw [hsn.out, cs_append]
                  exact hown5
                have HB5 : Hid (Below W9.heap.size W9 w5) := (HBj.out.alloc HBj.out.size _).grown hg5 (by have := HBj.out.size; simp; omega) (fun x hx => (HO.out.lt x hx).1)
                clear hown5 hg5 hat5 hlt5 HO
                go_wp2
                go_roundw
                case rel => exact ⟨j + 1, by omega, by go_num, g5, c5, rfl, HO5, HB5⟩
                case measure => simp [intOf]; omega
              · obtain rfl : i = j := by omega
                have HE := Lib.hid (Is_yes (some ⟨g9, 0, none⟩) i c9 i (rowAt R6 i a) wr (own_RowIn HO.out) (by omega) (by have := HN.out; omega) (by have := HN.out; omega))
                go_wp2_with fail
                refine HE.out.mono ?_
                rintro e w9 ⟨T, rfl, ht, hb⟩
                rw [decide_eq_true (stripe_word HN.out (by omega) HPAR.out HE1.out HE2.out hla ht)]
                have HB9 : Hid (Below w8.heap.size w8 w9) := HBa.out.trans ((HBj.out.trans (hb.mono HBj.out.size)).mono HBa.out.size)
                clear ht hb HE
                go_wp2
                go_roundw
                case rel => exact ⟨a + 1, by omega, by go_num, HB9⟩
                case measure => simp [intOf]; omega
          · obtain rfl : a = C := by omega
            go_wp2
            go_ret
            exact ⟨rfl, HB1.out.trans ((HB8.out.trans (HBa.out.mono HB8.out.size)).mono HB1.out.size)⟩
      · have hm : ∀ j u, (vs (slf (fun r => some ⟨G r, 0, none⟩) (fun _ => C) (fun _ => C)) K)[j]? = some u → w7.cell? ((⟨g2, 0, none⟩ : Addr).add j) = some u := fun j u hu => by
          have hj : j < K := by
            have := (List.getElem?_eq_some_iff.1 hu).1
            rwa [vs_length] at this
          rw [vs_at _ hj] at hu
          injection hu with hu
          subst hu
          rw [show ((⟨g2, 0, none⟩ : Addr).add j) = ⟨g2, j, none⟩ by
            simp only [Addr.add, Nat.zero_add]
            by_cases e : j = 0
            · rw [if_pos e, e]
            · rw [if_neg e]]
          exact HM.out.topAt hj
        have HMM := Lib.hid hm
        clear hm
        go_wp2_with ((at_builtin; refine wpList_append_lies _ rfl (.tmp 97) (.tmp 98) 40 rfl w1.heap.size 22 i0 (.slice none 0 0) 1 24 Try.underlying40 hi hz0 hz1 hz2 rfl (by decide) (.slice (some ⟨g, 0, none⟩) i c) i (vs (slf RA' (fun _ => C) RC') i) rfl HR7.out.own ⟨g2, 0, none⟩ K K (vs (slf (fun r => some ⟨G r, 0, none⟩) (fun _ => C) (fun _ => C)) K) rfl (by rw [vs_length]; omega) HMM.out (vs_one fun _ _ => rfl) (by omega) (by unfold maxLen; omega) (by omega) (by have := HB7.out.size; omega) w7.heap.size rfl ?_; intro g6 c6 w8 hown6 hg6 hat6 hlt6))
        obtain ⟨R6, hR6⟩ : ∃ R6 : Nat → List F, R6 = fun r => if r < i then col23 (R r) S else mkF (M (r - i)) C := ⟨_, rfl⟩
        obtain ⟨RA6, hRA6⟩ : ∃ RA6 : Nat → Option Addr, RA6 = fun r => if r < i then RA' r else some ⟨G (r - i), 0, none⟩ := ⟨_, rfl⟩
        obtain ⟨RC6, hRC6⟩ : ∃ RC6 : Nat → Nat, RC6 = fun r => if r < i then RC' r else C := ⟨_, rfl⟩
        obtain ⟨N, hN⟩ : ∃ N, N = i + K := ⟨_, rfl⟩
        have HR8 : Hid (Rws w8 w1.heap.size g6 N c6 RA6 (fun _ => C) RC6 R6) := by
          rw [hRA6, hRC6, hR6, hN]
          exact (HR7.out.push (m := K) (A' := fun r => some ⟨G r, 0, none⟩) (L' := fun _ => C) (C' := fun _ => C) (R' := fun r => mkF (M r) C) (fun r hr => (HM.out.toIn (cg := K) (Nat.le_refl _) (by unfold maxLen; omega)).row r hr) (fun r hr h0 x e => by injection e with e; subst e; have := hGl.out r hr; show G r ≠ g; omega) (Below.refl _ _) hown6 hg6 (by
            rcases hat6 with h | h
            · left
              injection h with h
              exact h.symm
            · right
              exact h)).congr (RL' := fun _ => C) (fun r hr => by simp) (fun r hr => rfl)
        have HB8 : Hid (Below w1.heap.size w1 w8) := HB7.out.grown hg6 (by have := HB7.out.size; omega) (fun x hx => by injection hx with hx; subst hx; exact (HR7.out.own.lt g rfl).1)
        have HE1 : Hid (∀ r, r < i → R6 r = col23 (R r) S) := fun r hr => by rw [hR6]; simp only [if_pos hr]
        have HE2 : Hid (∀ j, j < K → R6 (i + j) = mkF (M j) C) := fun j hj => by rw [hR6]; simp only [if_neg (show ¬ i + j < i by omega), Nat.add_sub_cancel_left]
        have HN := Lib.hid hN
        have hN255 : N ≤ 255 := by omega
        clear hown6 hg6 hat6 hlt6 HMM hR6 hRA6 hRC6 HR7 HB7 HM
        go_wp2
        rw [← hN]
        clear hN
        go_loopw [102] (fun iv wr => ∃ a : Nat, a ≤ C ∧ iv = .int .i64 a ∧ Hid (Below w8.heap.size w8 wr)) (fun iv _ => C - (intOf iv).toNat)
        case atStart => exact ⟨0, by omega, rfl, Below.refl _ _⟩
        case round =>
          obtain ⟨a, ha', rfl, HBa⟩ := hrel
          by_cases hla : a < C
          · have hai : (a : Int) < (C : Int) := by omega
            obtain ⟨W9, hW9⟩ : ∃ W, W = wr := ⟨_, rfl⟩
            subst hW9
            go_wp2
            go_loopw [18, 108] (fun v iv wr => ∃ j : Nat, j ≤ N ∧ iv = .int .i64 j ∧ ∃ g9 c9, v = .slice (some ⟨g9, 0, none⟩) j c9 ∧ Hid (wr.ownsRow W9.heap.size 5 1 (.slice (some ⟨g9, 0, none⟩) j c9) j (cs (mkF (fun r => gt (R6 r) a) j))) ∧ Hid (Below W9.heap.size W9 wr)) (fun _ iv _ => N - (intOf iv).toNat)
            case atStart => exact ⟨0, by omega, rfl, _, 0, rfl, World.ownsRow_made (e := 5) (size := 1) W9 #[] 0 (Nat.le_refl _) (Nat.zero_le _) rfl, (Below.refl _ _).alloc (Nat.le_refl _) _⟩
            case round =>
              obtain ⟨j, hj', rfl, g9, c9, rfl, HO, HBj⟩ := hrel
              by_cases hlj : j < N
              · have hji : (j : Int) < (N : Nat) := by omega
                have hMI := HR8.out.min.below (HBa.out.trans (HBj.out.mono HBa.out.size))
                obtain ⟨b1', o1', e, _, q1⟩ := hMI.at_ hlj
                injection e with e
                injection e with e1 e2
                subst e1 e2
                rw [Nat.zero_add] at q1
                obtain ⟨b3, o3, hA3, _, q3⟩ := (hMI.row j hlj).row.at_ (k := a) hla
                rw [hA3] at q1
                have hsn := Lib.hid (mkF_snoc (fun r => gt (R6 r) a) j)
                generalize gt (R6 j) a = x at *
                clear hMI hA3
                go_wp2_with ((at_builtin; refine wpList_append_lies _ rfl (.tmp 116) (.tmp 121) 22 rfl W9.heap.size 5 j0 (.int .u8 0) 1 1 Try.underlying22 hj hy0 hy1 hy2 rfl (by decide) (.slice (some ⟨g9, 0, none⟩) j c9) j (cs (mkF (fun r => gt (R6 r) a) j)) rfl (HO.out.alloc _) ⟨wr.heap.size, 0, none⟩ 1 1 [.int .u8 x.n] rfl rfl (one_cell wr _ _) (by intro u hu; simp at hu; subst hu; rfl) (by omega) (by unfold maxLen; omega) (by omega) (by have := HBj.out.size; simp; omega) (wr.heap.size + 1) (by simp) ?_; intro g5 c5 w5 hown5 hg5 hat5 hlt5))
                have HO5 : Hid (w5.ownsRow W9.heap.size 5 1 (.slice (some ⟨g5, 0, none⟩) (j + 1) c5) (j + 1) (cs (mkF (fun r => gt (R6 r) a) (j + 1)))) := by
                  unfold Hid
                  rw [hsn.out, cs_append]
                  exact hown5
                have HB5 : Hid (Below W9.heap.size W9 w5) := (HBj.out.alloc HBj.out.size _).grown hg5 (by have := HBj.out.size; simp; omega) (fun x hx => (HO.out.lt x hx).1)
                clear hown5 hg5 hat5 hlt5 HO
                go_wp2
                go_roundw
                case rel => exact ⟨j + 1, by omega, by go_num, g5, c5, rfl, HO5, HB5⟩
                case measure => simp [intOf]; omega
              · obtain rfl : N = j := by omega
                have HE := Lib.hid (Is_yes (some ⟨g9, 0, none⟩) N c9 i (rowAt R6 N a) wr (own_RowIn HO.out) (by omega) (by have := HN.out; omega) (by have := HN.out; omega))
                go_wp2_with fail
                refine HE.out.mono ?_
                rintro e w9 ⟨T, rfl, ht, hb⟩
                rw [decide_eq_true (stripe_word HN.out (by omega) HPAR.out HE1.out HE2.out hla ht)]
                have HB9 : Hid (Below w8.heap.size w8 w9) := HBa.out.trans ((HBj.out.trans (hb.mono HBj.out.size)).mono HBa.out.size)
                clear ht hb HE
                go_wp2
                go_roundw
                case rel => exact ⟨a + 1, by omega, by go_num, HB9⟩
                case measure => simp [intOf]; omega
          · obtain rfl : a = C := by omega
            go_wp2
            go_ret
            exact ⟨rfl, HB1.out.trans ((HB8.out.trans (HBa.out.mono HB8.out.size)).mono HB1.out.size)⟩
end Go.Proofs.Ytbmkcnlcffnjgaa
