/-
  STAMPS: the document's numbers, Compare. No conditions.
-/
import Derived.Test.YtoodgbognpecjaaDoorStt
namespace Go.Proofs.YtoodgbognpecjaaDoor
open Go.RowKit
set_option maxRecDepth 100000
set_option linter.unusedVariables false

def stC (t : St) : Array Value := #[.int .i64 t.y, .int .i64 t.mo, .int .i64 t.d, .int .i64 t.h, .int .i64 t.mi, .int .i64 t.s]
def stL (t : St) : List Int := [t.y, t.mo, t.d, t.h, t.mi, t.s]
theorem numbers_c (y mo d h mi s : Int) (w : World) : Calls Tryd.prog 22 #[.agg #[.int .i64 y, .int .i64 mo, .int .i64 d, .int .i64 h, .int .i64 mi, .int .i64 s]] w fun e w' => e = .returned (.slice (some ⟨w.heap.size + 1, 0, none⟩) 6 6) ∧
    (w.alloc (.cells #[.int .i64 y, .int .i64 mo, .int .i64 d, .int .i64 h, .int .i64 mi, .int .i64 s] 23)).alloc (.cells #[.int .i64 y, .int .i64 mo, .int .i64 d, .int .i64 h, .int .i64 mi, .int .i64 s] 3) = w' := by
  go_enter Tryd.func22, Tryd.ntmps22
  go_wp2
  go_ret
  exact ⟨rfl, rfl⟩
theorem numbers_row (t : St) (hw : StW t) (w : World) (g : Nat) (hg : w.heap.size = g) : IRow (w.alloc (.cells #[.int .i64 t.y, .int .i64 t.mo, .int .i64 t.d, .int .i64 t.h, .int .i64 t.mi, .int .i64 t.s] 3)) (some ⟨g, 0, none⟩) 6 .i64 (stL t) :=
  row6 w t.y t.mo t.d t.h t.mi t.s g hg (by
    intro x hx
    simp at hx
    rcases hx with rfl | rfl | rfl | rfl | rfl | rfl
    · exact hw.y
    · exact hw.mo
    · exact hw.d
    · exact hw.h
    · exact hw.mi
    · exact hw.s)
theorem zip_gi {l m : List Int} {k : Nat} (h : k < l.length) (h2 : l.length = m.length) : (List.zipWith cmpK l m).drop k = cmpK (gi l k) (gi m k) :: (List.zipWith cmpK l m).drop (k + 1) := by
  have hz : k < (List.zipWith cmpK l m).length := by rw [List.length_zipWith]; omega
  rw [List.drop_eq_getElem_cons hz, List.getElem_zipWith]
  unfold gi
  rw [List.getD_eq_getElem?_getD, List.getD_eq_getElem?_getD, List.getElem?_eq_getElem h, List.getElem?_eq_getElem (by omega)]
  rfl
set_option maxHeartbeats 2000000 in
theorem RefCompareS_c (a b : St) (ha : StW a) (hb : StW b) (w : World) : Calls Tryd.prog 17 #[stV a, stV b] w fun e w' => e = .returned (.int .i64 (cmpS a b)) ∧ Below w.heap.size w w' := by
  have HA := Lib.hid (fun W g hg => numbers_row a ha W g hg)
  have HB := Lib.hid (fun W g hg => numbers_row b hb W g hg)
  have hz : Hid (cmpS a b = orL (List.zipWith cmpK (stL a) (stL b))) := rfl
  have hla : Hid ((stL a).length = 6 ∧ (stL b).length = 6) := ⟨rfl, rfl⟩
  generalize stL a = la at *
  generalize stL b = lb at *
  generalize cmpS a b = V at *
  obtain ⟨a1, a2, a3, a4, a5, a6⟩ := a
  obtain ⟨b1, b2, b3, b4, b5, b6⟩ := b
  unfold stV
  dsimp only at HA HB ⊢
  clear ha hb
  obtain ⟨W, hW⟩ : ∃ W, W = ((((((w.alloc (.cells #[.int .i64 a1, .int .i64 a2, .int .i64 a3, .int .i64 a4, .int .i64 a5, .int .i64 a6] 23)).alloc (.cells #[.int .i64 b1, .int .i64 b2, .int .i64 b3, .int .i64 b4, .int .i64 b5, .int .i64 b6] 23)).alloc (.cells #[.int .i64 a1, .int .i64 a2, .int .i64 a3, .int .i64 a4, .int .i64 a5, .int .i64 a6] 23)).alloc (.cells #[.int .i64 a1, .int .i64 a2, .int .i64 a3, .int .i64 a4, .int .i64 a5, .int .i64 a6] 3)).alloc (.cells #[.int .i64 b1, .int .i64 b2, .int .i64 b3, .int .i64 b4, .int .i64 b5, .int .i64 b6] 23)).alloc (.cells #[.int .i64 b1, .int .i64 b2, .int .i64 b3, .int .i64 b4, .int .i64 b5, .int .i64 b6] 3)).drew := ⟨_, rfl⟩
  have HRA : Hid (IRow W (some ⟨w.heap.size + 1 + 1 + 1, 0, none⟩) 6 .i64 la) := by
    unfold Hid
    rw [hW]
    exact (((HA.out _ _ (by simp)).below ((Below.refl _ _).alloc (Nat.le_refl _) _)).below ((Below.refl _ _).alloc (Nat.le_refl _) _)).drewN 1
  have HRB : Hid (IRow W (some ⟨w.heap.size + 1 + 1 + 1 + 1 + 1, 0, none⟩) 6 .i64 lb) := by
    unfold Hid
    rw [hW]
    exact (HB.out _ _ (by simp)).drewN 1
  have HBW : Hid (Below w.heap.size w W) := by
    unfold Hid
    rw [hW]
    exact below_drewN (((((((Below.refl w.heap.size w).alloc (Nat.le_refl _) _).alloc (by simp) _).alloc (by simp; omega) _).alloc (by simp; omega) _).alloc (by simp; omega) _).alloc (by simp; omega) _) 1
  have HWW := Lib.hid hW
  clear hW HA HB
  go_enter Tryd.func17, Tryd.ntmps17
  go_wp2
  go_region_with ((with_reducible refine (numbers_c _ _ _ _ _ _ _).mono ?_); rintro e w3 ⟨rfl, rfl⟩)
  all_goals
    rw [← HWW.out]
    generalize w.heap.size + 1 + 1 + 1 + 1 + 1 = gb at *
    generalize w.heap.size + 1 + 1 + 1 = ga at *
    clear HWW
    go_wp2
    go_loopw [7] (fun i wr => ∃ k q : Nat, k ≤ 6 ∧ i = .int .i64 k ∧ Hid (wr = W.drewN q) ∧ Hid (V = orL ((List.zipWith cmpK la lb).drop k))) (fun i _ => 6 - (intOf i).toNat)
    case atStart => exact ⟨0, 0, by omega, rfl, rfl, hz⟩
    case round =>
      obtain ⟨k, q, hk, rfl, hw, ho⟩ := hrel
      by_cases hlt : k < 6
      · have ha := HRA.out.drewN q
        have hb := HRB.out.drewN q
        rw [← hw.out] at ha hb
        obtain ⟨x1, x2, e1, _, h1⟩ := ha.at_ hlt
        injection e1 with e1
        injection e1 with e1 e2 _
        subst e1 e2
        obtain ⟨y1, y2, e3, _, h2⟩ := hb.at_ hlt
        injection e3 with e3
        injection e3 with e3 e4 _
        subst e3 e4
        rw [Nat.zero_add] at h1 h2
        have hd := zip_gi (l := la) (m := lb) (k := k) (by rw [hla.out.1]; exact hlt) (by rw [hla.out.1, hla.out.2])
        generalize gi la k = x at *
        generalize gi lb k = y at *
        have hkn : (k : Int) < 6 := by omega
        rcases cmpK_cases x y with ⟨hc, hv, _⟩ | ⟨hc, hv, _⟩ | ⟨hc, hv, _⟩
        · have hV : Hid (V = -1) := by unfold Hid; rw [ho.out, hd, hv]; rfl
          clear hd hv ho ha hb
          go_wp2
          go_quiet (fail)
          go_wp2
          go_ret
          rw [hV.out]
          exact ⟨rfl, by rw [hw.out]; exact below_drewN (below_drewN HBW.out q) _⟩
        · subst hc
          have hV : Hid (V = orL ((List.zipWith cmpK la lb).drop (k + 1))) := by unfold Hid; rw [ho.out, hd, hv, orL_zero rfl]
          have hxx : ¬ x < x := by omega
          clear hd hv ho ha hb
          go_wp2
          go_quiet (fail)
          go_wp2
          go_quiet (fail)
          go_wp2
          go_roundw
          case rel => exact ⟨k + 1, _, by omega, by go_num, by unfold Hid; rw [hw.out, World.drewN_drewN], hV⟩
          case measure => simp [intOf]; omega
        · have hV : Hid (V = 1) := by unfold Hid; rw [ho.out, hd, hv]; rfl
          have hxx : ¬ x < y := by omega
          clear hd hv ho ha hb
          go_wp2
          go_quiet (fail)
          go_wp2
          go_quiet (fail)
          go_wp2
          go_ret
          rw [hV.out]
          exact ⟨rfl, by rw [hw.out]; exact below_drewN (below_drewN (below_drewN HBW.out q) _) _⟩
      · have hkn : ¬ (k : Int) < 6 := by omega
        have hV : Hid (V = 0) := by
          unfold Hid
          rw [ho.out, List.drop_eq_nil_of_le (by rw [List.length_zipWith, hla.out.1, hla.out.2]; omega)]
          rfl
        go_wp2
        go_ret
        rw [hV.out]
        exact ⟨rfl, by rw [hw.out]; exact below_drewN HBW.out q⟩
end Go.Proofs.YtoodgbognpecjaaDoor
