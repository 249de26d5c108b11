/-
  TWO ROWS OF COINS MERGED. No conditions.
-/
import Derived.Test.YtfnjjeopojdnjaaLenB
import Derived.Deep.RegionHeld3
import Derived.Deep.QuietTactic
namespace Go.Proofs.Ytfnjjeopojdnjaa
open Go.RowKit
set_option maxRecDepth 100000
set_option linter.unusedVariables false

theorem merge_leaf {W P : List Nat} {R : List (Nat × Bool)} {i k : Nat} (hi : i < W.length) (hle : k < P.length → wt W i ≤ wt P k) (h : R ++ mergeC (W.drop i) (P.drop k) = mergeC W P) : (R ++ [(wt W i, true)]) ++ mergeC (W.drop (i + 1)) (P.drop k) = mergeC W P := by
  rw [← h, List.append_assoc]
  congr 1
  have e1 : W.drop i = wt W i :: W.drop (i + 1) := by
    rw [List.drop_eq_getElem_cons hi]
    congr 1
    unfold wt
    simp [List.getD_eq_getElem?_getD, hi]
  rw [e1]
  by_cases hk : k < P.length
  · have e2 : P.drop k = wt P k :: P.drop (k + 1) := by
      rw [List.drop_eq_getElem_cons hk]
      congr 1
      unfold wt
      simp [List.getD_eq_getElem?_getD, hk]
    rw [e2, mergeC_cons, if_pos (hle hk)]
    rfl
  · rw [List.drop_of_length_le (show P.length ≤ k by omega), mergeC_nil2, mergeC_nil2]
    rfl
theorem merge_pack {W P : List Nat} {R : List (Nat × Bool)} {i k : Nat} (hk : k < P.length) (hgt : i < W.length → ¬ wt W i ≤ wt P k) (h : R ++ mergeC (W.drop i) (P.drop k) = mergeC W P) : (R ++ [(wt P k, false)]) ++ mergeC (W.drop i) (P.drop (k + 1)) = mergeC W P := by
  rw [← h, List.append_assoc]
  congr 1
  have e2 : P.drop k = wt P k :: P.drop (k + 1) := by
    rw [List.drop_eq_getElem_cons hk]
    congr 1
    unfold wt
    simp [List.getD_eq_getElem?_getD, hk]
  rw [e2]
  by_cases hi : i < W.length
  · have e1 : W.drop i = wt W i :: W.drop (i + 1) := by
      rw [List.drop_eq_getElem_cons hi]
      congr 1
      unfold wt
      simp [List.getD_eq_getElem?_getD, hi]
    rw [e1, mergeC_cons, if_neg (hgt hi)]
    rfl
  · rw [List.drop_of_length_le (show W.length ≤ i by omega), mergeC_nil, mergeC_nil]
    rfl
theorem merge_rest {W P : List Nat} {R : List (Nat × Bool)} {i : Nat} (h : R ++ mergeC (W.drop i) (P.drop P.length) = mergeC W P) : R ++ lvs (W.drop i) = mergeC W P := by
  rw [List.drop_length, mergeC_nil2] at h
  exact h
theorem two_cells (w : World) (x : Nat) (q : Bool) : ∀ j u, (cnC [(x, q)])[j]? = some u → (w.alloc (.cells #[.int .i64 (x : Nat), .bool q] 51)).cell? ((⟨w.heap.size, 0, none⟩ : Addr).add j) = some u := by
  have h := World.news_of_block (cs := #[.int .i64 (x : Nat), .bool q]) (t := 51) (fr := (0, 0)) (heap_alloc_new w (.cells #[.int .i64 (x : Nat), .bool q] 51))
  exact h
theorem cnC_drop (T : List (Nat × Bool)) : ∀ i, cnC (T.drop i) = (cnC T).drop (i * 2) := by
  induction T with
  | nil => intro i; simp [cnC]
  | cons c T ih =>
    intro i
    cases i with
    | zero => rfl
    | succ i =>
      rw [show (i + 1) * 2 = i * 2 + 1 + 1 by omega]
      simp only [List.drop_succ_cons, cnC]
      exact ih i
theorem gg_ne {g gg p H c t : Nat} (hat : (Value.slice (some ⟨g, 0, none⟩) t c).ownBlock = some gg ∨ gg = H) (h1 : g ≠ p) (h2 : p < H) : gg ≠ p := by
  rcases hat with h | h
  · have h3 : g = gg := by simpa [Value.ownBlock] using h
    omega
  · omega
set_option maxHeartbeats 8000000 in
theorem merged_c (b off n : Nat) (W : List Nat) (B : Option Addr) (m cb : Nat) (P : List Nat) (w : World) (hA : CRow w (some ⟨b, off, none⟩) n (wt W) (fun _ => true)) (hb : b < w.heap.size) (hB : CRow w B m (wt P) (fun _ => false))
    (hWn : n = W.length) (hPm : m = P.length) (hn : n ≤ 400) (hm : m ≤ 800) :
    Calls Try.prog 35 #[.slice (some ⟨b, off, none⟩) n n, .slice B m cb] w fun e w' => ∃ g c, e = .returned (.slice (some ⟨g, 0, none⟩) (n + m) c) ∧ w'.ownsRow w.heap.size 51 2 (.slice (some ⟨g, 0, none⟩) (n + m) c) (n + m) (cnC (mergeC W P)) ∧ Below w.heap.size w w' := by
  obtain ⟨i0, hi, hz0, hz1, hz2⟩ := info_parts info_coin
  have HWN := Lib.hid hWn
  have HPM := Lib.hid hPm
  clear hWn hPm
  obtain ⟨N, hN⟩ : ∃ N, N = n + m := ⟨_, rfl⟩
  rw [← hN]
  have HNI : Hid ((n : Int) + (m : Int) = (N : Int)) := by unfold Hid; omega
  have HN := Lib.hid hN
  have hN9 : N ≤ 1200 := by omega
  clear hN
  go_enter Try.func35, Try.ntmps35
  go_wp2_with (at_make; refine wpList_make_own _ rfl _ _ 41 rfl w.heap.size 51 i0 (.agg #[.int .i64 0, .bool false]) 2 Try.underlying41 hi hz0 hz1 _ _ _ N rfl rfl HNI.out (by rw [hz2]; omega) (by unfold maxLen; omega) (Nat.le_refl _) ?_; intro w0 hown0 hgrow0)
  go_wp2
  go_loopw [0, 5, 16] (fun va vr vk wr => ∃ (k i r o g c t : Nat) (R : List (Nat × Bool)), k ≤ m ∧ Hid (i + r = n) ∧ r ≤ n ∧ va = .slice (some ⟨b, o, none⟩) r r ∧ Hid (0 < r → o = off + i * 2) ∧
      vr = .slice (some ⟨g, 0, none⟩) t c ∧ Hid (t = i + k) ∧ t ≤ N ∧ vk = .int .i64 k ∧ wr.ownsRow w.heap.size 51 2 (.slice (some ⟨g, 0, none⟩) t c) t (cnC R) ∧ Hid (R ++ mergeC (W.drop i) (P.drop k) = mergeC W P) ∧ Below w.heap.size w wr)
    (fun _ _ vk _ => m - (intOf vk).toNat)
  case atStart => exact ⟨0, 0, n, off, w.heap.size, N, 0, [], by omega, by unfold Hid; omega, Nat.le_refl _, rfl, fun _ => by omega, rfl, rfl, by omega, rfl, hown0, rfl, (Below.refl _ _).grown hgrow0 (Nat.le_refl _) (fun k h => by cases h)⟩
  case round =>
    obtain ⟨k, i, r, o, g, c, t, R, hk, hir, hrn, rfl, ho, rfl, ht, htN, rfl, hown, hR, hbel⟩ := hrel
    by_cases hlt : k < m
    · have hkn : (k : Int) < m := by omega
      obtain ⟨b1, o1, rfl, l1, h1, h2⟩ := (hB.below hbel).at_ hlt
      obtain ⟨y, hy⟩ : ∃ y, y = wt P k := ⟨_, rfl⟩
      rw [← hy] at h1
      have HY := Lib.hid hy
      clear hy
      go_wp2
      obtain ⟨wp, hwp⟩ : ∃ wp, wp = wr.alloc (.cells #[.int .i64 (y : Nat), .bool false] 51) := ⟨_, rfl⟩
      obtain ⟨p, hp⟩ : ∃ p, p = wr.heap.size := ⟨_, rfl⟩
      have hblk0 : Blk wp p 51 #[.int .i64 (y : Nat), .bool false] := by rw [hwp, hp]; exact Blk.new _ _ _
      have hbelp : Below w.heap.size w wp := by rw [hwp]; exact hbel.alloc hbel.size _
      have hownp : wp.ownsRow w.heap.size 51 2 (.slice (some ⟨g, 0, none⟩) t c) t (cnC R) := by rw [hwp]; exact hown.alloc _
      have hgp : g < p := by
        have := hown.lt g rfl
        omega
      have hpw : p < wp.heap.size := by rw [hwp, hp]; simp
      have hwp0 : w.heap.size ≤ p := by rw [hp]; exact hbel.size
      rw [← hwp, ← hp]
      clear hwp hp
      go_loopw [0, 5] (fun va vr wr => ∃ (i r o g c t : Nat) (R : List (Nat × Bool)), Hid (i + r = n) ∧ r ≤ n ∧ va = .slice (some ⟨b, o, none⟩) r r ∧ Hid (0 < r → o = off + i * 2) ∧
          vr = .slice (some ⟨g, 0, none⟩) t c ∧ Hid (t = i + k) ∧ t ≤ N ∧ g ≠ p ∧ wr.ownsRow w.heap.size 51 2 (.slice (some ⟨g, 0, none⟩) t c) t (cnC R) ∧ Hid (R ++ mergeC (W.drop i) (P.drop k) = mergeC W P) ∧ Below w.heap.size w wr ∧
          Blk wr p 51 #[.int .i64 (y : Nat), .bool false] ∧ p < wr.heap.size)
        (fun va _ _ => match va with | .slice _ r _ => r | _ => 0)
      case atStart => exact ⟨i, r, o, g, c, t, R, hir, hrn, rfl, ho, rfl, ht, htN, by omega, hownp, hR, hbelp, hblk0, hpw⟩
      case round =>
        clear hown hbel h1 h2 hownp hbelp hblk0 hgp hpw hir hrn ho ht htN hR
        obtain ⟨i, r, o, g, c, t, R, hir, hrn, rfl, ho, rfl, ht, htN, hgp, hown, hR, hbel, hblk, hpw⟩ := hrel
        have d0 := hblk.cell 0
        have d1 := hblk.cell 1
        simp at d0 d1
        by_cases hr0 : 0 < r
        · have hri : (0 : Int) < (r : Int) := by omega
          have hiW : i < W.length := by have := hir.out; have := HWN.out; omega
          obtain ⟨b', off', e1, _, h3, h4⟩ := (hA.below hbel).at_ (k := i) (by have := hir.out; omega)
          injection e1 with e1
          injection e1 with e1 e2
          subst e1 e2
          rw [← ho.out hr0] at h3 h4
          obtain ⟨x, hx⟩ : ∃ x, x = wt W i := ⟨_, rfl⟩
          rw [← hx] at h3
          by_cases hxy : x ≤ y
          · have hxi : (x : Int) ≤ (y : Int) := by omega
            have hRn := Lib.hid (merge_leaf hiW (fun _ => by rw [← hx, ← HY.out]; exact hxy) hR.out)
            rw [← hx] at hRn
            clear hx
            obtain ⟨r', hr'⟩ : ∃ r', r = r' + 1 := ⟨r - 1, by omega⟩
            have hsub : (r : Int) - 1 = (r' : Int) := by omega
            have hrr : r - 1 = r' := by omega
            have hr1 : 1 ≤ r := by omega
            have hr1i : (1 : Int) ≤ (r : Int) := by omega
            have HRR := Lib.hid hr'
            clear hr'
            have hbw : b < w.heap.size := hb
            go_wp2
            go_quiet (fail)
            go_wp2
            have ag1 : some b ≠ (Value.slice (some ⟨g, 0, none⟩) t c).ownBlock := fun e => by have := (hown.lt b e.symm).1; omega
            have ag2 : some p ≠ (Value.slice (some ⟨g, 0, none⟩) t c).ownBlock := fun e => by injection e with e; exact hgp e.symm
            have hown' : (wr.drewN nq).ownsRow w.heap.size 51 2 (.slice (some ⟨g, 0, none⟩) t c) t (cnC R) := hown
            have hbel' := below_drewN hbel nq
            have hblk' : Blk (wr.drewN nq) p 51 #[.int .i64 (y : Nat), .bool false] := hblk
            have hpw' : p < (wr.drewN nq).heap.size := hpw
            have h3' : (wr.drewN nq).cell? ⟨b, o, none⟩ = some (.int .i64 (x : Nat)) := h3
            have h4' : (wr.drewN nq).cell? ⟨b, o + 1, none⟩ = some (.bool true) := h4
            have lW : w.heap.size ≤ (wr.drewN nq).heap.size := hbel'.size
            clear hown hbel hblk hpw h3 h4 d0 d1
            generalize wr.drewN nq = V at *
            have HT : Hid (t + 1 = i + 1 + k) := by have := ht.out; unfold Hid; omega
            have HI : Hid (i + 1 + r' = n) := by have := hir.out; have := HRR.out; unfold Hid; omega
            have HO : Hid (o + 2 = off + (i + 1) * 2) := by have := ho.out hr0; unfold Hid; omega
            have htN' : t + 1 ≤ N := by have := HT.out; have := HN.out; have := HI.out; omega
            by_cases hz : r' = 0
            · have HZ := Lib.hid hz
              have hz1 : r - 1 = 0 := by omega
              obtain rfl : r = 1 := by have := HRR.out; omega
              clear hz hrr hr0 hri hr1 hr1i hrn hsub hz1
              go_region_held3 (fun w' => w'.cell? ⟨b, o, none⟩ = some (.int .i64 (x : Nat)) ∧ w'.cell? ⟨b, o + 1, none⟩ = some (.bool true))
                (first
                  | go_keep
                  | (go_split_ands
                     refine ⟨?_, ?_⟩
                     · (rw [hgrow.cell_far _ (by simp; omega) ag1]; assumption)
                     · (rw [hgrow.cell_far _ (by simp; omega) ag1]; assumption)))
                ((refine step_append_lies _ (by rfl) _ _ _ (by rfl) w.heap.size 51 i0 _ 2 16 Try.underlying41 hi hz0 hz1 hz2 rfl (by decide) (.slice (some ⟨g, 0, none⟩) t c) t (cnC R) (by rfl) ((hown'.alloc _).drew)
                    ⟨V.heap.size, 0, none⟩ 1 1 (cnC [(x, true)]) (by rfl) (by rfl) (two_cells V x true) (cnC_one _)
                    (by omega) (by unfold maxLen; omega) (by omega) (by simp; omega) (V.heap.size + 1) (by simp) ?_; intro gg cap w5 hown5 hgrow hat hlt5))
              go_wp2
              go_roundw
              case rel => exact ⟨i + 1, 0, _, gg, cap, t + 1, R ++ [(x, true)], by have := HI.out; have := HZ.out; unfold Hid; omega, Nat.zero_le _, rfl, fun h => absurd h (by omega), by go_num, HT, htN', gg_ne hat hgp (by omega), by rw [cnC_append]; exact hown5, hRn, ((hbel'.alloc lW _).drew).grown hgrow (by simp; omega) (fun k hk => by cases hk; exact (hown'.lt _ rfl).1), Blk.kept ((hblk'.below hpw' ((Below.refl _ V).alloc (Nat.le_refl _) _)).drew) hgrow ⟨by simp; omega, fun e => by injection e with e; exact hgp e⟩, by have := hgrow.size; simp at this; omega⟩
              case measure => exact Nat.zero_lt_one
            · have hzz : ¬ (r - 1 = 0) := by have := HRR.out; omega
              have hzz1 : ¬ (r = 1) := by omega
              go_region_held3 (fun w' => w'.cell? ⟨b, o, none⟩ = some (.int .i64 (x : Nat)) ∧ w'.cell? ⟨b, o + 1, none⟩ = some (.bool true))
                (first
                  | go_keep
                  | (go_split_ands
                     refine ⟨?_, ?_⟩
                     · (rw [hgrow.cell_far _ (by simp; omega) ag1]; assumption)
                     · (rw [hgrow.cell_far _ (by simp; omega) ag1]; assumption)))
                ((refine step_append_lies _ (by rfl) _ _ _ (by rfl) w.heap.size 51 i0 _ 2 16 Try.underlying41 hi hz0 hz1 hz2 rfl (by decide) (.slice (some ⟨g, 0, none⟩) t c) t (cnC R) (by rfl) ((hown'.alloc _).drew)
                    ⟨V.heap.size, 0, none⟩ 1 1 (cnC [(x, true)]) (by rfl) (by rfl) (two_cells V x true) (cnC_one _)
                    (by omega) (by unfold maxLen; omega) (by omega) (by simp; omega) (V.heap.size + 1) (by simp) ?_; intro gg cap w5 hown5 hgrow hat hlt5))
              go_wp2
              go_roundw
              case rel => exact ⟨i + 1, r', o + 2, gg, cap, t + 1, R ++ [(x, true)], HI, by have := HRR.out; omega, by go_num, fun _ => HO.out, by go_num, HT, htN', gg_ne hat hgp (by omega), by rw [cnC_append]; exact hown5, hRn, ((hbel'.alloc lW _).drew).grown hgrow (by simp; omega) (fun k hk => by cases hk; exact (hown'.lt _ rfl).1), Blk.kept ((hblk'.below hpw' ((Below.refl _ V).alloc (Nat.le_refl _) _)).drew) hgrow ⟨by simp; omega, fun e => by injection e with e; exact hgp e⟩, by have := hgrow.size; simp at this; omega⟩
              case measure => have := HRR.out; show r' < r; omega
          · have hxi : ¬ (x : Int) ≤ (y : Int) := by omega
            have hRn := Lib.hid (merge_pack (k := k) (by have := HPM.out; omega) (fun _ => by rw [← hx, ← HY.out]; exact hxy) hR.out)
            rw [← HY.out] at hRn
            clear hx
            go_wp2
            go_quiet (fail)
            have hown' : (wr.drewN nq).ownsRow w.heap.size 51 2 (.slice (some ⟨g, 0, none⟩) t c) t (cnC R) := hown
            have hbel' := below_drewN hbel nq
            have d0' : (wr.drewN nq).cell? ⟨p, 0, none⟩ = some (.int .i64 (y : Nat)) := d0
            have d1' : (wr.drewN nq).cell? ⟨p, 1, none⟩ = some (.bool false) := d1
            have lW : w.heap.size ≤ (wr.drewN nq).heap.size := hbel'.size
            have HT : Hid (t + 1 = i + (k + 1)) := by have := ht.out; unfold Hid; omega
            have htN' : t + 1 ≤ N := by have := HT.out; have := HN.out; have := hir.out; omega
            clear hown hbel d0 d1
            generalize wr.drewN nq = V at *
            go_wp2_with (at_builtin; refine wpList_append_lies _ rfl _ _ 41 rfl w.heap.size 51 i0 (.agg #[.int .i64 0, .bool false]) 2 16 Try.underlying41 hi hz0 hz1 hz2 rfl (by decide) _ t (cnC R) rfl (hown'.alloc _) ⟨V.heap.size, 0, none⟩ 1 1 (cnC [(y, false)]) rfl rfl (two_cells V y false) (cnC_one _) (by omega) (by unfold maxLen; omega) (by omega) (by simp; omega) _ rfl ?_; intro gg cap w5 hown5 hgrow hat hlt5)
            go_wp2
            go_roundw
            case rel => exact ⟨k + 1, i, r, o, gg, cap, t + 1, R ++ [(y, false)], by omega, hir, hrn, rfl, ho, rfl, HT, htN', by go_num, by rw [cnC_append]; exact hown5, hRn, (hbel'.alloc lW _).grown hgrow (by simp; omega) (fun k hk => by cases hk; exact (hown'.lt _ rfl).1)⟩
            case measure => simp [intOf]; omega
        · have hri : ¬ (0 : Int) < (r : Int) := by omega
          have hRn := Lib.hid (merge_pack (k := k) (by have := HPM.out; omega) (fun h => by have := hir.out; have := HWN.out; omega) hR.out)
          rw [← HY.out] at hRn
          go_wp2
          go_quiet (fail)
          have hown' : (wr.drewN nq).ownsRow w.heap.size 51 2 (.slice (some ⟨g, 0, none⟩) t c) t (cnC R) := hown
          have hbel' := below_drewN hbel nq
          have d0' : (wr.drewN nq).cell? ⟨p, 0, none⟩ = some (.int .i64 (y : Nat)) := d0
          have d1' : (wr.drewN nq).cell? ⟨p, 1, none⟩ = some (.bool false) := d1
          have lW : w.heap.size ≤ (wr.drewN nq).heap.size := hbel'.size
          have HT : Hid (t + 1 = i + (k + 1)) := by have := ht.out; unfold Hid; omega
          have htN' : t + 1 ≤ N := by have := HT.out; have := HN.out; have := hir.out; omega
          clear hown hbel d0 d1
          generalize wr.drewN nq = V at *
          go_wp2_with (at_builtin; refine wpList_append_lies _ rfl _ _ 41 rfl w.heap.size 51 i0 (.agg #[.int .i64 0, .bool false]) 2 16 Try.underlying41 hi hz0 hz1 hz2 rfl (by decide) _ t (cnC R) rfl (hown'.alloc _) ⟨V.heap.size, 0, none⟩ 1 1 (cnC [(y, false)]) rfl rfl (two_cells V y false) (cnC_one _) (by omega) (by unfold maxLen; omega) (by omega) (by simp; omega) _ rfl ?_; intro gg cap w5 hown5 hgrow hat hlt5)
          go_wp2
          go_roundw
          case rel => exact ⟨k + 1, i, r, o, gg, cap, t + 1, R ++ [(y, false)], by omega, hir, hrn, rfl, ho, rfl, HT, htN', by go_num, by rw [cnC_append]; exact hown5, hRn, (hbel'.alloc lW _).grown hgrow (by simp; omega) (fun k hk => by cases hk; exact (hown'.lt _ rfl).1)⟩
          case measure => simp [intOf]; omega
    · obtain rfl : k = m := by omega
      have hkn : ¬ (k : Int) < (k : Int) := by omega
      have hrest := Lib.hid (merge_rest (by rw [← HPM.out]; exact hR.out))
      have hlen : Hid (t + r = N) := by have := ht.out; have := hir.out; have := HN.out; unfold Hid; omega
      have hdl : (cnC (lvs (W.drop i))).length = r * 2 := by rw [cnC_length, lvs_length, List.length_drop]; have := hir.out; have := HWN.out; omega
      have hnews : ∀ j u, (cnC (lvs (W.drop i)))[j]? = some u → wr.cell? ((⟨b, o, none⟩ : Addr).add j) = some u := by
        intro j u hu
        have hj : j < r * 2 := by rw [← hdl]; exact (List.getElem?_eq_some_iff.1 hu).1
        have hir' := hir.out
        have hWn' := HWN.out
        obtain ⟨b', off', e1, _, h3, h4⟩ := (hA.below hbel).at_ (k := i + j / 2) (by omega)
        injection e1 with e1
        injection e1 with e1 e2
        subst e1 e2
        have ho' := ho.out (by omega)
        have hdd : (lvs (W.drop i)).length = r := by rw [lvs_length, List.length_drop]; omega
        obtain ⟨q1, q2⟩ := cnC_at (lvs (W.drop i)) (j / 2) (by omega)
        obtain ⟨q3, q4⟩ := lvs_at (W.drop i) (k := j / 2) (by rw [List.length_drop]; omega)
        have q5 : wt (W.drop i) (j / 2) = wt W (i + j / 2) := by
          unfold wt
          simp [List.getD_eq_getElem?_getD, List.getElem?_drop]
        have e3 : (⟨b, o, none⟩ : Addr).add j = ⟨b, o + j, none⟩ := by unfold Addr.add; split <;> simp_all
        rw [e3]
        rcases Nat.mod_two_eq_zero_or_one j with e | e
        · rw [show j = j / 2 * 2 by omega] at hu
          rw [q1, q3, q5] at hu
          rw [show o + j = off + (i + j / 2) * 2 by omega, h3]
          exact hu
        · rw [show j = j / 2 * 2 + 1 by omega] at hu
          rw [q2, q4] at hu
          rw [show o + j = off + (i + j / 2) * 2 + 1 by omega, h4]
          exact hu
      have HNEWS := Lib.hid hnews
      have HDL := Lib.hid hdl
      clear hnews hdl
      go_wp2_with (at_builtin; refine wpList_append_own _ rfl _ _ 41 rfl w.heap.size 51 i0 (.agg #[.int .i64 0, .bool false]) 2 16 Try.underlying41 hi hz0 hz1 hz2 rfl (by decide) _ t (cnC R) rfl hown ⟨b, o, none⟩ r r (cnC (lvs (W.drop i))) rfl HDL.out HNEWS.out (cnC_one _) (by unfold maxLen; omega) (by omega) hbel.size ?_; intro v' w1 hown1 hgrow hnil)
      obtain ⟨g1, c1, hv⟩ : ∃ g1 c1, v' = .slice (some ⟨g1, 0, none⟩) (t + r) c1 := by
        rcases hown1.2 with ⟨hv, _⟩ | ⟨g', cap', cur, hv, _⟩
        · exact absurd (hnil.1 hv).1 (by intro h; cases h)
        · exact ⟨g', cap', hv⟩
      subst hv
      go_wp2
      go_ret
      rw [hlen.out, ← cnC_append, hrest.out] at hown1
      rw [hlen.out]
      exact ⟨g1, c1, rfl, hown1, hbel.grown hgrow hbel.size (fun k hk => by cases hk; exact (hown.lt _ rfl).1)⟩
end Go.Proofs.Ytfnjjeopojdnjaa
