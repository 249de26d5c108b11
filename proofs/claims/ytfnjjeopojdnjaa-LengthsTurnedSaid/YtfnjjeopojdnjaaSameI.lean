/-
  ROWS OF INTS HELD AGAINST EACH OTHER; A NUMBER HELD WITHIN BOUNDS. No conditions.
-/
import Derived.Test.YtfnjjeopojdnjaaNum
namespace Go.Proofs.Ytfnjjeopojdnjaa
open Go.RowKit
set_option maxRecDepth 100000
set_option linter.unusedVariables false

theorem gi_ext {l m : List Int} (h : l.length = m.length) (h2 : ∀ i, i < l.length → gi l i = gi m i) : l = m := by
  refine List.ext_getElem h fun i h3 h4 => ?_
  have := h2 i h3
  unfold gi at this
  rw [List.getD_eq_getElem?_getD, List.getD_eq_getElem?_getD, List.getElem?_eq_getElem h3, List.getElem?_eq_getElem h4] at this
  exact this
theorem gi_all {l m : List Int} {k : Nat} (hk : k = l.length) (h : l.length = m.length) (h2 : ∀ i, i < k → gi l i = gi m i) : l = m := gi_ext h (by rw [← hk]; exact h2)
set_option maxHeartbeats 1000000 in
theorem SameI_c (A B : Option Addr) (n m ca cb : Nat) (l l' : List Int) (w : World) (ha : IRow w A n .i64 l) (hb : IRow w B m .i64 l') :
    Calls Try.prog 18 #[.slice A n ca, .slice B m cb] w fun e w' => e = .returned (.bool (decide (l = l'))) ∧ ∃ q, w' = w.drewN q := by
  have hm1 := ha.max'
  have hm2 := hb.max'
  by_cases hnm : n = m
  · subst hnm
    have hl1 := ha.len
    have hl2 := hb.len
    have HL1 := Lib.hid hl1
    have HL2 := Lib.hid hl2
    clear hl1 hl2
    go_enter Try.func18, Try.ntmps18
    go_wp2
    go_loopw [5] (fun i wr => ∃ k q : Nat, k ≤ n ∧ i = .int .i64 k ∧ Hid (wr = w.drewN q) ∧ Hid (∀ i, i < k → gi l i = gi l' i)) (fun i _ => n - (intOf i).toNat)
    case atStart => exact ⟨0, 0, by omega, rfl, rfl, fun i hi => by omega⟩
    case round =>
      obtain ⟨k, q, hk, rfl, hw, hs⟩ := hrel
      by_cases hlt : k < n
      · have ha1 := ha.drewN q
        have hb1 := hb.drewN q
        rw [← hw.out] at ha1 hb1
        obtain ⟨b1, o1, rfl, _, h1⟩ := ha1.at_ hlt
        obtain ⟨b2, o2, rfl, _, h2⟩ := hb1.at_ hlt
        obtain ⟨x, hx⟩ : ∃ x, x = gi l k := ⟨_, rfl⟩
        obtain ⟨y, hy⟩ : ∃ y, y = gi l' k := ⟨_, rfl⟩
        rw [← hx] at h1
        rw [← hy] at h2
        have hkn : (k : Int) < n := by omega
        have HX := Lib.hid hx
        have HY := Lib.hid hy
        clear hx hy
        by_cases hxy : x = y
        · subst hxy
          have hpp : (x != x) = false := by simp
          go_wp2
          go_region_held3 (fun w' => w'.cell? ⟨b1, o1 + k, none⟩ = some (.int .i64 x) ∧ w'.cell? ⟨b2, o2 + k, none⟩ = some (.int .i64 x)) (go_keep) (fail)
          go_wp2
          go_roundw
          case rel => exact ⟨k + 1, q + 1, by omega, by go_num, by unfold Hid; rw [hw.out]; rfl, fun i hi => by
            rcases (show i < k ∨ i = k by omega) with h | rfl
            · exact hs.out i h
            · rw [← HX.out, ← HY.out]⟩
          case measure => simp [intOf]; omega
        · have hpp : (x != y) = true := by simpa using hxy
          have hne : Hid (decide (l = l') = false) := by
            unfold Hid
            rw [decide_eq_false_iff_not]
            intro e
            exact hxy (by rw [HX.out, HY.out, e])
          clear hxy
          go_wp2
          go_region_held3 (fun w' => w'.cell? ⟨b1, o1 + k, none⟩ = some (.int .i64 x) ∧ w'.cell? ⟨b2, o2 + k, none⟩ = some (.int .i64 y)) (go_keep) (fail)
          go_wp2
          go_ret
          rw [hne.out]
          exact ⟨rfl, q + 1, by rw [hw.out]; rfl⟩
      · have hkn : ¬ (k : Int) < n := by omega
        have hye : Hid (decide (l = l') = true) := by
          unfold Hid
          rw [decide_eq_true_eq]
          exact gi_all (show n = l.length by rw [HL1.out]) (by rw [HL1.out, HL2.out]) fun i hi => hs.out i (by omega)
        go_wp2
        go_ret
        rw [hye.out]
        exact ⟨rfl, q, hw.out⟩
  · have hnn : ((n : Int) != (m : Int)) = true := by simp; omega
    have hne : Hid (decide (l = l') = false) := by
      unfold Hid
      rw [decide_eq_false_iff_not]
      intro e
      exact hnm (by rw [← ha.len, ← hb.len, e])
    clear hnm
    go_enter Try.func18, Try.ntmps18
    go_wp2
    go_ret
    rw [hne.out]
    exact ⟨rfl, 0, rfl⟩
def heldI (x lo hi : Int) : Int := if (if hi < x then hi else x) < lo then lo else (if hi < x then hi else x)
theorem HeldI_c (x lo hi : Int) (w : World) : Calls Try.prog 24 #[.int .i64 x, .int .i64 lo, .int .i64 hi] w fun e w' => e = .returned (.int .i64 (heldI x lo hi)) ∧ w = w' := by
  unfold heldI
  go_enter Try.func24, Try.ntmps24
  go_wp2
  all_goals (go_ret; exact ⟨ret_i64 (by omega), rfl⟩)
theorem heldI_in (x lo hi : Int) (h : lo ≤ hi) : lo ≤ heldI x lo hi ∧ heldI x lo hi ≤ hi := by unfold heldI; omega
end Go.Proofs.Ytfnjjeopojdnjaa
