/-
  STRIPES: columns, and those that follow: the document's All. Columns of at most 1000 bytes, 255 in all.
-/
import Derived.Test.YtbmkcnlcffnjgaaSru
import Derived.Deep.RegionLaw
namespace Go.Proofs.Ytbmkcnlcffnjgaa
open Go.RowKit
set_option maxRecDepth 100000
set_option linter.unusedVariables false

def AllV (w : World) (n k C : Nat) (R : Nat → List F) (e : Ending) (w' : World) : Prop :=
  ∃ (g c : Nat) (RA6 : Nat → Option Addr) (RC6 : Nat → Nat) (R6 : Nat → List F) (M : Nat → Nat → F), e = .returned (.slice (some ⟨g, 0, none⟩) (n + k) c) ∧ MIn w' (some ⟨g, 0, none⟩) (n + k) c RA6 (fun _ => C) RC6 R6 ∧ (∀ r, r < n → R6 r = R r) ∧ (∀ j, j < k → R6 (n + j) = mkF (M j) C) ∧ (∀ j, j < k → ∀ a, a < C → ParAt n (rowAt R n a) j (M j a)) ∧ Below w.heap.size w w'
theorem Grw.min {w : World} {base g n k c C : Nat} {f : Nat → Value} {G K : Nat → Nat} {M : Nat → Nat → F} {RA : Nat → Option Addr} {RC : Nat → Nat} {R : Nat → List F} (h : Grw w base g n k c f G (fun _ => C) K M) (hf : ∀ r, r < n → f r = .slice (RA r) C (RC r)) (hr : ∀ r, r < n → RowIn w (RA r) C (RC r) (R r)) :
    MIn w (some ⟨g, 0, none⟩) (n + k) c (fun r => if r < n then RA r else some ⟨G (r - n), 0, none⟩) (fun _ => C) (fun r => if r < n then RC r else K (r - n)) (fun r => if r < n then R r else mkF (M (r - n)) C) :=
  ⟨(own_caps23 h.own).1, (own_caps23 h.own).2, fun _ => ⟨g, 0, rfl, h.glt.2, fun r hr' => by
    rw [Nat.zero_add, h.own.cellAt r (by omega), vs_at _ hr']
    by_cases e : r < n
    · rw [hf r e, if_pos e, if_pos e]
    · have h1 := (h.row (r - n) (by omega)).1
      rw [show n + (r - n) = r by omega] at h1
      rw [h1, if_neg e, if_neg e]⟩, fun r hr' => by
    by_cases e : r < n
    · simp only [if_pos e]
      exact hr r e
    · simp only [if_neg e]
      exact own_RowIn (h.row (r - n) (by omega)).2.1⟩
set_option maxHeartbeats 4000000 in
theorem All_c {w : World} {A : Option Addr} {n cap C : Nat} {RA : Nat → Option Addr} {RL RC : Nat → Nat} {R : Nat → List F} (h : MIn w A n cap RA RL RC R) (hL : ∀ r, r < n → RL r = C) (h1 : 1 ≤ n) {k : Nat} (hk : n + k ≤ 255) (hC : C ≤ 1000) :
    Calls Try.prog 20 #[.slice A n cap, .int .i64 k] w fun e w' => AllV w n k C R e w' := by
  obtain ⟨i0, hi, hz0, hz1, hz2⟩ := info_parts info_bytes3
  obtain ⟨j0, hj, hy0, hy1, hy2⟩ := info_parts info_u8
  have hb1 : Below w.heap.size w (w.alloc (.cells #[] 22)) := (Below.refl _ _).alloc (Nat.le_refl _) _
  obtain ⟨b, o, rfl, _, _⟩ := h.at_ (r := 0) (by omega)
  have hnews : ∀ j u, (vs (slf RA (fun _ => C) RC) n)[j]? = some u → (w.alloc (.cells #[] 22)).cell? ((⟨b, o, none⟩ : Addr).add j) = some u := fun j u hu => by
    have hjn : j < n := by
      have := (List.getElem?_eq_some_iff.1 hu).1
      rwa [vs_length] at this
    rw [vs_at _ hjn] at hu
    injection hu with hu
    subst hu
    obtain ⟨b', o', e, _, q⟩ := (h.below hb1).at_ hjn
    injection e with e
    injection e with e1 e2
    subst e1 e2
    rw [hL j hjn] at q
    rw [show ((⟨b, o, none⟩ : Addr).add j) = ⟨b, o + j, none⟩ by
      simp only [Addr.add]
      by_cases e : j = 0
      · rw [if_pos e, e]; rfl
      · rw [if_neg e]]
    exact q
  have HNW := Lib.hid hnews
  have HH := Lib.hid h
  have HL := Lib.hid hL
  have h1i : (0 : Int) < (n : Int) := by omega
  clear h hL hnews hb1
  go_enter Try.func20, Try.ntmps20
  go_wp2_with ((at_builtin; refine wpList_append_lies _ rfl (.tmp 11) (.tmp 12) 40 rfl w.heap.size 22 i0 (.slice none 0 0) 1 24 Try.underlying40 hi hz0 hz1 hz2 rfl (by decide) (.slice (some ⟨w.heap.size, 0, none⟩) 0 0) 0 [] rfl (World.ownsRow_made (e := 22) (size := 1) w #[] 0 (Nat.le_refl _) (Nat.zero_le _) rfl) ⟨b, o, none⟩ n cap (vs (slf RA (fun _ => C) RC) n) rfl (by rw [vs_length]; omega) HNW.out (vs_one fun _ _ => rfl) (by omega) (by unfold maxLen; omega) (by omega) (by simp) (w.heap.size + 1) (by simp) ?_; intro g1 c1 w1 hown1 hg1 hat1 hlt1))
  have HG1 : Hid (Grw w1 w.heap.size g1 n 0 c1 (slf RA (fun _ => C) RC) (fun _ => 0) (fun _ => 0) (fun _ => 0) (fun _ _ => 0)) := ⟨by
    rw [List.nil_append, Nat.zero_add] at hown1
    exact hown1, fun j hj => by omega, fun i j hi => by omega⟩
  have HB1 : Hid (Below w.heap.size w w1) := ((Below.refl w.heap.size w).alloc (Nat.le_refl _) _).grown hg1 (by simp) (fun x hx => by injection hx with hx; subst hx; exact Nat.le_refl _)
  clear hown1 hg1 hat1 hlt1 HNW
  go_loopw [5, 6] (fun v iv wr => ∃ j : Nat, j ≤ k ∧ iv = .int .i64 j ∧ ∃ (g c : Nat) (f : Nat → Value) (G Lc K : Nat → Nat), v = .slice (some ⟨g, 0, none⟩) (n + j) c ∧ Hid (Grw wr w.heap.size g n j c f G Lc K (fun _ _ => 0)) ∧ Hid (∀ i, i < j → Lc i = 0) ∧ Hid (∀ r, r < n → f r = .slice (RA r) C (RC r)) ∧ Hid (Below w.heap.size w wr)) (fun _ iv _ => k - (intOf iv).toNat)
  case atStart => exact ⟨0, by omega, rfl, g1, c1, _, _, _, _, by first | rfl | (congr 1; omega), HG1, fun i hi => by omega, fun r hr => rfl, HB1⟩
  case round =>
    clear HG1 HB1
    obtain ⟨j, hj', rfl, g, c, f, G, Lc, K, rfl, HG, HL0, HF, HB⟩ := hrel
    by_cases hlj : j < k
    · have hji : (j : Int) < (k : Int) := by omega
      have hone := one_cell (wr.alloc (.cells #[] 5)) (.slice (some ⟨wr.heap.size, 0, none⟩) 0 0) 22
      rw [World.size_alloc] at hone
      have HONE := Lib.hid hone
      clear hone
      go_wp2_with ((at_builtin; refine wpList_append_lies _ rfl (.tmp 19) (.tmp 21) 40 rfl w.heap.size 22 i0 (.slice none 0 0) 1 24 Try.underlying40 hi hz0 hz1 hz2 rfl (by decide) (.slice (some ⟨g, 0, none⟩) (n + j) c) (n + j) (vs f (n + j)) rfl ((HG.out.own.alloc _).alloc _) ⟨wr.heap.size + 1, 0, none⟩ 1 1 [.slice (some ⟨wr.heap.size, 0, none⟩) 0 0] rfl rfl HONE.out (by intro u hu; simp at hu; subst hu; rfl) (by omega) (by unfold maxLen; omega) (by omega) (by have := HB.out.size; simp; omega) (wr.heap.size + 1 + 1) (by simp) ?_; intro g5 c5 w5 hown5 hg5 hat5 hlt5))
      have hb2 : Below wr.heap.size wr ((wr.alloc (.cells #[] 5)).alloc (.cells #[.slice (some ⟨wr.heap.size, 0, none⟩) 0 0] 22)) := ((Below.refl _ _).alloc (Nat.le_refl _) _).alloc (by simp) _
      have HG5 := Lib.hid (HG.out.more (H := wr.heap.size) (Nat.le_refl _) hb2 HB.out.size ((World.ownsRow_made (e := 5) (size := 1) wr #[] 0 HB.out.size (Nat.zero_le _) rfl).alloc _) (by simp; omega) hown5 hg5 (by
        rcases hat5 with h | h
        · left
          injection h with h
          exact h.symm
        · right
          rw [h]
          simp))
      have HB5 : Hid (Below w.heap.size w w5) := (HB.out.trans (hb2.mono HB.out.size)).grown hg5 (by have := HB.out.size; simp; omega) (fun x hx => by injection hx with hx; subst hx; exact HG.out.glt.1)
      clear hown5 hg5 hat5 hlt5 hb2
      go_wp2
      go_roundw
      case rel =>
        refine ⟨j + 1, by omega, by go_num, g5, c5, _, _, _, _, by first | rfl | (congr 1), HG5, fun i hi => ?_, fun r hr => ?_, HB5⟩
        · by_cases e : i = j
          · simp only [if_pos e]
          · simp only [if_neg e]
            exact HL0.out i (by omega)
        · simp only [if_pos (show r < n + j by omega)]
          exact HF.out r hr
      case measure => simp [intOf]; omega
    · obtain rfl : k = j := by omega
      have HGK : Hid (Grw wr w.heap.size g n k c f G (fun _ => 0) K (fun _ _ => 0)) := ⟨HG.out.own, fun j hj => by have h9 := HG.out.row j hj; rw [HL0.out j hj] at h9; exact h9, HG.out.inj⟩
      clear HG HL0
      go_wp2
      go_loopw [7] (fun iv wr => ∃ a : Nat, a ≤ C ∧ iv = .int .i64 a ∧ ∃ (f : Nat → Value) (G K : Nat → Nat) (M : Nat → Nat → F), Hid (Grw wr w.heap.size g n k c f G (fun _ => a) K M) ∧ Hid (∀ r, r < n → f r = .slice (RA r) C (RC r)) ∧ Hid (∀ j, j < k → ∀ b, b < a → ParAt n (rowAt R n b) j (M j b)) ∧ Hid (Below w.heap.size w wr)) (fun iv _ => C - (intOf iv).toNat)
      case atStart => exact ⟨0, by omega, rfl, f, G, K, _, HGK, HF, fun j hj b hb => by omega, HB⟩
      case round =>
        clear HGK HF HB
        obtain ⟨a, ha', rfl, f, G, K, M, HG, HF, HP, HB⟩ := hrel
        obtain ⟨b', o', e, _, q0⟩ := (HH.out.below HB.out).at_ (r := 0) (by omega)
        injection e with e
        injection e with e1 e2
        subst e1 e2
        rw [HL.out 0 (by omega), Nat.add_zero] at q0
        by_cases hla : a < C
        · have hai : (a : Int) < (C : Int) := by omega
          have HRW := Lib.hid (Row23_c (HH.out.below HB.out) (a := a) (fun r hr => by rw [HL.out r hr]; exact hla) (by omega))
          go_wp2_with fail
          refine HRW.out.mono ?_
          rintro e w3 ⟨g3, c3, rfl, hown3, hb3⟩
          have HOF := Lib.hid (Of_c (some ⟨g3, 0, none⟩) n c3 k (rowAt R n a) w3 (Row.of_own hown3) (by omega) (by omega))
          have HB3 := Lib.hid (HB.out.trans (hb3.mono HB.out.size))
          have HG3 := Lib.hid (HG.out.below hb3)
          clear hown3 hb3 HRW HB HG q0
          go_wp2_with fail
          refine HOF.out.mono ?_
          rintro e w4 ⟨g4, c4, T, rfl, hown4, htell, hb4⟩
          have HB4 := Lib.hid (HB3.out.trans (hb4.mono HB3.out.size))
          have HG4 := Lib.hid (HG3.out.below hb4)
          have HO4 := Lib.hid (hown4.mono HB3.out.size)
          have HT := Lib.hid htell
          have hne4 : Hid (g4 ≠ g ∧ ∀ j, j < k → G j ≠ g4) := ⟨by have := (hown4.lt g4 rfl).1; have := HG3.out.glt.2; omega, fun j hj => by have := (hown4.lt g4 rfl).1; have := (HG3.out.lt hj).2; omega⟩
          clear hown4 htell hb4 HOF HB3 HG3
          go_wp2
          go_loopw [9] (fun iv wr => ∃ j : Nat, j ≤ k ∧ iv = .int .i64 ((n + j : Nat) : Int) ∧ ∃ (f : Nat → Value) (G Lc K : Nat → Nat) (M : Nat → Nat → F), Hid (Grw wr w.heap.size g n k c f G Lc K M) ∧ Hid (∀ i, i < k → Lc i = if i < j then a + 1 else a) ∧ Hid (∀ r, r < n → f r = .slice (RA r) C (RC r)) ∧ Hid (∀ i, i < k → ∀ b, b < a ∨ (b = a ∧ i < j) → ParAt n (rowAt R n b) i (M i b)) ∧ Hid (wr.ownsRow w.heap.size 5 1 (.slice (some ⟨g4, 0, none⟩) (n + k) c4) (n + k) (cs (vals T 0 (n + k)))) ∧ Hid (g4 ≠ g ∧ ∀ i, i < k → G i ≠ g4) ∧ Hid (Below w.heap.size w wr)) (fun iv _ => n + k - (intOf iv).toNat)
          case atStart => exact ⟨0, by omega, rfl, f, G, _, K, M, HG4, fun i hi => by rw [if_neg (by omega)], HF, fun i hi b hb => HP.out i hi b (by omega), HO4, hne4, HB4⟩
          case round =>
            clear HG4 HF HP HO4 hne4 HB4
            obtain ⟨j, hj', rfl, f, G, Lc, K, M, HG, HLc, HF, HP, HO, HNE, HB⟩ := hrel
            obtain ⟨N, hN⟩ : ∃ N, N = n + k := ⟨_, rfl⟩
            by_cases hlj : j < k
            · obtain ⟨s, hs⟩ : ∃ s, s = n + j := ⟨_, rfl⟩
              have hsi : (s : Int) < (N : Int) := by omega
              have hrj := HG.out.row j hlj
              have hLj : Lc j = a := by rw [HLc.out j hlj, if_neg (by omega)]
              have c1 := HG.out.own.cellAt (n + j) (by omega)
              rw [vs_at _ (by omega), hrj.1, hLj, ← hs] at c1
              have hgl := HG.out.glt
              have hGj := HG.out.lt hlj
              have c2 := HO.out.cellAt (n + j) (by omega)
              rw [cs_at (by rw [vals_length]; omega), ← hs] at c2
              have hpar : Hid (ParAt n (rowAt R n a) j (gt (vals T 0 (n + k)) s)) := ⟨T, HT.out, by rw [gt_vals, if_pos (by omega), Nat.zero_add, hs]⟩
              have HS := Lib.hid hs
              have HNN := Lib.hid hN
              rw [← hs]
              rw [← hN] at HO c2 hpar ⊢
              have hrow := hrj.2.1
              rw [hLj] at hrow
              have hgne := hrj.2.2
              have HLJ := Lib.hid hLj
              have hb2 : Hid (Below wr.heap.size wr ((wr.alloc (.cells #[.int .u8 (gt (vals T 0 N) s).n] 5)).drew)) := ((Below.refl _ _).alloc (Nat.le_refl _) _).drew
              generalize gt (vals T 0 N) s = x at *
              have c1' : (wr.alloc (.cells #[.int .u8 x.n] 5)).cell? ⟨g, s, none⟩ = some (.slice (some ⟨G j, 0, none⟩) a (K j)) := by rw [World.cell?_alloc_lt _ _ _ (by show g < wr.heap.size; omega)]; exact c1
              have hsN : s < N := by omega
              have hs255 : s ≤ 254 := by omega
              clear hrj hLj hs hN
              go_wp2
              go_region_law ((refine step_append_lies _ (by rfl) (.tmp 49) (.tmp 54) 22 (by rfl) w.heap.size 5 j0 (.int .u8 0) 1 1 Try.underlying22 hj hy0 hy1 hy2 rfl (by decide) (.slice (some ⟨G j, 0, none⟩) a (K j)) a (cs (mkF (M j) a)) (by rfl) ((hrow.alloc _).drew) ⟨wr.heap.size, 0, none⟩ 1 1 [.int .u8 x.n] (by rfl) rfl (one_cell wr _ _) (by intro u hu; simp at hu; subst hu; rfl) (by decide) (by unfold maxLen; omega) (by omega) (by have := HB.out.size; simp; omega) (wr.heap.size + 1) (by simp) ?_; intro g5 c5 w5 hown5 hg5 hat5 hlt5; have htop := own_kept23 ((HG.out.own.alloc (.cells #[.int .u8 x.n] 5)).drew) hg5 (fun y hy e2 => hgne (Option.some.inj (show some (G j) = some g from e2.trans hy.symm))); have d0 := htop.cellAt s (by have := HNN.out; omega); have f0 := htop.frozenAt s; rw [vs_at _ (by have := HNN.out; omega)] at d0))
              all_goals
                have hGn := HG.out.step hlj (x := x) hb2.out (by rw [HLJ.out]; exact hown5) hg5 (by
                  rcases hat5 with h | h
                  · left
                    injection h with h
                    exact h.symm
                  · right
                    rw [h]
                    simp [World.drew])
                rw [HLJ.out, ← HS.out] at hGn
                have HGn := Lib.hid hGn
                have HOn : Hid ((w5.setCell ⟨g, s, none⟩ (.slice (some ⟨g5, 0, none⟩) (a + 1) c5)).ownsRow w.heap.size 5 1 (.slice (some ⟨g4, 0, none⟩) N c4) N (cs (vals T 0 N))) := own_kept23 (own_kept23 ((HO.out.alloc (.cells #[.int .u8 x.n] 5)).drew) hg5 (fun y hy e2 => (HNE.out.2 j hlj) (Option.some.inj (show some (G j) = some g4 from e2.trans hy.symm)))) (setCell_grown w5 g s _) (fun y hy e2 => HNE.out.1 (Option.some.inj (show some g = some g4 from e2.trans hy.symm)).symm)
                have HBn : Hid (Below w.heap.size w (w5.setCell ⟨g, s, none⟩ (.slice (some ⟨g5, 0, none⟩) (a + 1) c5))) := (((HB.out.alloc HB.out.size (.cells #[.int .u8 x.n] 5)).drew).grown hg5 (by have := HB.out.size; simp [World.drew]; omega) (fun y hy => by injection hy with hy; subst hy; exact hGj.1)).setCell (by show w.heap.size ≤ g; omega) _
                have hg4l : g4 < wr.heap.size := (HO.out.lt g4 rfl).2
                have HNn : Hid (g4 ≠ g ∧ ∀ i, i < k → (if i = j then g5 else G i) ≠ g4) := ⟨HNE.out.1, fun i hi => by
                  by_cases e : i = j
                  · rw [if_pos e]
                    rcases hat5 with h | h
                    · injection h with h
                      rw [← h]
                      exact HNE.out.2 j hlj
                    · omega
                  · rw [if_neg e]
                    exact HNE.out.2 i hi⟩
                clear hGn hown5 hg5 hat5 hlt5 htop
                go_wp2
                go_roundw
                case rel =>
                  refine ⟨j + 1, by omega, by congr 1; have := HS.out; omega, _, _, _, _, _, HGn, fun i hi => ?_, fun r hr => ?_, fun i hi b hb => ?_, by have e := HNN.out; first | exact HOn | (rw [← e]; exact HOn), HNn, HBn⟩
                  · by_cases e : i = j
                    · rw [if_pos e, if_pos (by omega)]
                    · rw [if_neg e, HLc.out i hi]
                      by_cases e2 : i < j
                      · rw [if_pos e2, if_pos (by omega)]
                      · rw [if_neg e2, if_neg (by omega)]
                  · rw [if_neg (by have := HS.out; omega)]
                    exact HF.out r hr
                  · by_cases e : i = j ∧ b = a
                    · rw [if_pos e, e.1, e.2]
                      exact hpar.out
                    · rw [if_neg e]
                      exact HP.out i hi b (by omega)
                case measure => simp [intOf]; have := HS.out; have := HNN.out; omega
            · obtain rfl : k = j := by omega
              have HGC : Hid (Grw wr w.heap.size g n k c f G (fun _ => a + 1) K M) := ⟨HG.out.own, fun i hi => by have h9 := HG.out.row i hi; rw [HLc.out i hi, if_pos hi] at h9; exact h9, HG.out.inj⟩
              clear HG HLc hN
              go_wp2
              go_roundw
              case rel => exact ⟨a + 1, by omega, by go_num, f, G, K, M, HGC, HF, fun i hi b hb => HP.out i hi b (by omega), HB⟩
              case measure => simp [intOf]; omega
        · obtain rfl : C = a := by omega
          have HMN := Lib.hid (HG.out.min HF.out (R := R) (fun r hr => by have h9 := (HH.out.below HB.out).row r hr; rw [HL.out r hr] at h9; exact h9))
          go_wp2
          go_ret
          exact ⟨g, c, _, _, _, M, rfl, HMN.out, fun r hr => by rw [if_pos hr], fun j hj => by rw [if_neg (by omega), Nat.add_sub_cancel_left], HP.out, HB.out⟩
end Go.Proofs.Ytbmkcnlcffnjgaa
