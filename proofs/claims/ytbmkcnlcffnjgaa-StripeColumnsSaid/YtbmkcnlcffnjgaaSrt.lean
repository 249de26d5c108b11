/-
  STRIPES: a column's volume: the document's. No conditions but on how long the column is.
-/
import Derived.Test.YtbmkcnlcffnjgaaSre
namespace Go.Proofs.Ytbmkcnlcffnjgaa
open Go.RowKit
set_option maxRecDepth 100000
set_option linter.unusedVariables false

/-- what the document's Volume answers: a part of the column -/
def RVoR (w : World) (l : List F) (e : Ending) (w' : World) : Prop :=
  ∃ A c, e = .returned (.tuple #[.slice A (vol23 l).2.length c, .int .i64 ((vol23 l).1 : Int)]) ∧ Row w' A (vol23 l).2.length (vol23 l).2 ∧ w = w'
theorem RVoR.no {w : World} {l : List F} {e : Ending} {w' : World} (k : Nat) (hv : vol23 l = (k, [])) (he : e = .returned (.tuple #[.slice none 0 0, .int .i64 (k : Int)])) (hb : w = w') : RVoR w l e w' := by
  unfold RVoR
  rw [hv]
  exact ⟨none, 0, he, Row.nil _ _, hb⟩
theorem RVoR.yes {w : World} {l q : List F} {x : Nat} {e : Ending} {w' : World} (hv : vol23 l = (0, q)) (hq : q.length = x) (A : Option Addr) (c : Nat) (he : e = .returned (.tuple #[.slice A x c, .int .i64 0])) (hr : Row w' A x q) (hb : w = w') : RVoR w l e w' := by
  unfold RVoR
  rw [hv]
  subst hq
  exact ⟨A, c, he, hr, hb⟩
set_option maxHeartbeats 4000000 in
theorem RVolume_c {w : World} {A : Option Addr} {n c : Nat} {l : List F} (h : RowIn w A n c l) (hn : n ≤ 1000000) :
    Calls Try.prog 11 #[.slice A n c] w fun e w' => RVoR w l e w' := by
  have hlen := h.row.len
  have hcm := h.max
  have hnc := h.le
  unfold maxLen at hcm
  by_cases h8 : n < 8
  · have h8i : (n : Int) < 8 := by omega
    have hv : vol23 l = (20, []) := if_pos (by omega)
    have HV := Lib.hid hv
    clear hv hlen h
    go_enter Try.func11, Try.ntmps11
    go_wp2
    go_ret2
    exact RVoR.no 20 HV.out rfl rfl
  · obtain ⟨b, o, rfl, hbl, _⟩ := h.row.at_ (k := 0) (by omega)
    obtain ⟨m, rfl⟩ : ∃ m, n = 8 + m := ⟨n - 8, by omega⟩
    obtain ⟨x, hx⟩ : ∃ x, x = getL (l.take 8) := ⟨_, rfl⟩
    have hx64 : x < two64 := by
      have h9 := getL_lt (l.take 8)
      rw [← hx, List.length_take, hlen, Nat.min_eq_left (by omega)] at h9
      exact h9
    have hv : vol23 l = if m < x then (23, []) else if nzB ((l.drop 8).drop x) (m - x) = true then (21, []) else (0, (l.drop 8).take x) := by
      unfold vol23
      rw [if_neg (by omega), ← hx, hlen, show 8 + m - 8 = m by omega]
    have HV := Lib.hid hv
    have HG : Hid (Calls Try.prog 30 #[.slice (some ⟨b, o, none⟩) 8 c] w fun e w' => e = .returned (.int .u64 (x : Int)) ∧ w = w') := by
      have h9 := RefGet_c (some ⟨b, o, none⟩) 8 c (l.take 8) w (h.row.take (by omega))
      rw [List.take_take, Nat.min_self, ← hx] at h9
      exact h9
    have HH := Lib.hid h
    have HLEN := Lib.hid hlen
    unfold two64 at hx64
    obtain ⟨n, hn8⟩ : ∃ n, n = 8 + m := ⟨_, rfl⟩
    have h8n : ¬ (n : Int) < 8 := by omega
    have c8 : (8 : Int) ≤ (c : Int) := by omega
    have s1 : (n : Int) - 8 = (m : Int) := by omega
    have hu64 : (m : Int) % 18446744073709551616 = (m : Int) := by omega
    rw [← hn8] at hn hnc HH HLEN ⊢
    have HN8 := Lib.hid hn8
    clear hv hx hlen h h8 hbl hn8
    by_cases hxm : m < x
    · have k1 : (m : Int) < (x : Int) := by omega
      have hv2 : vol23 l = (23, []) := by rw [HV.out, if_pos hxm]
      have HV2 := Lib.hid hv2
      clear hv2 HV
      go_enter Try.func11, Try.ntmps11
      go_wp2_with fail
      refine HG.out.mono ?_
      rintro e _ ⟨rfl, rfl⟩
      go_wp2
      go_ret2
      exact RVoR.no 23 HV2.out rfl rfl
    · have k1 : ¬ (m : Int) < (x : Int) := by omega
      have hv2 : vol23 l = if nzB ((l.drop 8).drop x) (m - x) = true then (21, []) else (0, (l.drop 8).take x) := by rw [HV.out, if_neg hxm]
      have HV2 := Lib.hid hv2
      obtain ⟨z, hz⟩ : ∃ z, z = 8 + x := ⟨_, rfl⟩
      have hzi : 8 + (x : Int) = (z : Int) := by omega
      have hxi64 : (x : Int) ≤ 9223372036854775807 := by omega
      have HZ := Lib.hid hz
      have hzn : z ≤ n := by have := HN8.out; omega
      clear hv2 HV hz
      go_enter Try.func11, Try.ntmps11
      go_wp2_with fail
      refine HG.out.mono ?_
      rintro e _ ⟨rfl, rfl⟩
      go_wp2
      go_loop [6] (fun i => ∃ k : Nat, z ≤ k ∧ k ≤ n ∧ i = .int .i64 k ∧ Hid (∀ r, z ≤ r → r < k → gt l r = 0)) (fun i => n - (intOf i).toNat)
      case atStart => exact ⟨z, by omega, by omega, rfl, fun r h1 h2 => by omega⟩
      case round =>
        obtain ⟨k, hk1, hk2, rfl, hs⟩ := hrel
        by_cases hlt : k < n
        · have hkn : (k : Int) < (n : Int) := by omega
          obtain ⟨b1, o1, e, _, q1⟩ := HH.out.row.at_ hlt
          injection e with e
          injection e with e1 e2
          subst e1 e2
          by_cases hg0 : gt l k = 0
          · have hne : (((gt l k).n : Int) != 0) = false := by rw [hg0]; rfl
            have HG0 := Lib.hid hg0
            clear hg0
            obtain ⟨v, hv⟩ : ∃ v, v = gt l k := ⟨_, rfl⟩
            rw [← hv] at q1 hne
            clear hv
            go_wp2
            go_round
            case rel =>
              refine ⟨k + 1, by omega, by omega, by go_num, fun r h1 h2 => ?_⟩
              rcases Nat.lt_or_ge r k with h3 | h3
              · exact hs.out r h1 h3
              · rw [show r = k by omega]; exact HG0.out
            case measure => simp [intOf]; omega
          · have hne : (((gt l k).n : Int) != 0) = true := by rw [n_bne23, decide_eq_false hg0]; rfl
            have hv3 : vol23 l = (21, []) := by
              rw [HV2.out, nzB_yes (r := k - z) (by have := HN8.out; have := HZ.out; omega) (by rw [gt_drop, gt_drop, show 8 + (x + (k - z)) = k by have := HZ.out; omega]; exact hg0)]
              rfl
            have HV3 := Lib.hid hv3
            clear hv3 hg0
            generalize gt l k = v at *
            go_wp2
            go_ret2
            exact RVoR.no 21 HV3.out rfl rfl
        · obtain rfl : n = k := by omega
          have hnz : nzB ((l.drop 8).drop x) (m - x) = false := nzB_no fun r hr => by
            rw [gt_drop, gt_drop]
            exact hs.out _ (by have := HZ.out; omega) (by have := HN8.out; omega)
          have hv3 : vol23 l = (0, (l.drop 8).take x) := by rw [HV2.out, hnz]; rfl
          have HV3 := Lib.hid hv3
          have hql : ((l.drop 8).take x).length = z - 8 := by rw [List.length_take, List.length_drop, HLEN.out]; have := HN8.out; have := HZ.out; omega
          have HQL := Lib.hid hql
          have hsl := HH.out.slice (a := 8) (M := z) (by have := HZ.out; omega) hzn
          have hz8 : z - 8 = x := by have := HZ.out; omega
          rw [show (l.drop 8).take (z - 8) = (l.drop 8).take x by rw [hz8]] at hsl
          have hzx : (z : Int) - 8 = (x : Int) := by omega
          have p1 : (8 : Int) ≤ (z : Int) := by omega
          have p2 : (z : Int) ≤ (c : Int) := by omega
          have HSL := Lib.hid hsl
          clear hv3 hql hnz hsl HV2 hz8
          by_cases hc8 : c = 8
          · have e8 : (c : Int) = 8 := by omega
            subst hc8
            have HR9 := Lib.hid (HSL.out.1 rfl).row
            clear HSL
            go_wp2
            go_ret2
            exact RVoR.yes HV3.out HQL.out _ _ rfl HR9.out rfl
          · have hr9 : Row w (some ⟨b, o + 8, none⟩) (z - 8) ((l.drop 8).take x) := by
              have e9 := (HSL.out.2 hc8).row
              rw [Option.map_some, show (⟨b, o, none⟩ : Addr).add 8 = ⟨b, o + 8, none⟩ by unfold Addr.add; rfl] at e9
              exact e9
            have HR9 := Lib.hid hr9
            clear hr9 HSL
            go_wp2
            go_ret2
            exact RVoR.yes HV3.out HQL.out _ _ rfl HR9.out rfl
end Go.Proofs.Ytbmkcnlcffnjgaa
