/-
  STRIPES: a column's volume: the program's. No conditions but on how long the column is.
-/
import Derived.Test.YtbmkcnlcffnjgaaSrd
namespace Go.Proofs.Ytbmkcnlcffnjgaa
open Go.RowKit
set_option maxRecDepth 100000
set_option linter.unusedVariables false

/-- the error's number, and the volume -/
def vol23 (l : List F) : Nat × List F :=
  if l.length < 8 then (20, []) else if l.length - 8 < getL (l.take 8) then (23, []) else if nzB ((l.drop 8).drop (getL (l.take 8))) (l.length - 8 - getL (l.take 8)) = true then (21, []) else (0, (l.drop 8).take (getL (l.take 8)))
def VoR (w : World) (l : List F) (e : Ending) (w' : World) : Prop :=
  ∃ A c, e = .returned (.tuple #[.slice A (vol23 l).2.length c, .int .i64 ((vol23 l).1 : Int)]) ∧ w'.ownsRow w.heap.size 5 1 (.slice A (vol23 l).2.length c) (vol23 l).2.length (cs (vol23 l).2) ∧ Below w.heap.size w w'
theorem VoR.no {w : World} {l : List F} {e : Ending} {w' : World} (k : Nat) (hv : vol23 l = (k, [])) (he : e = .returned (.tuple #[.slice none 0 0, .int .i64 (k : Int)])) (hb : Below w.heap.size w w') : VoR w l e w' := by
  unfold VoR
  rw [hv]
  exact ⟨none, 0, he, ⟨rfl, .inl ⟨rfl, rfl⟩⟩, hb⟩
theorem VoR.yes {w : World} {l q : List F} {x : Nat} {e : Ending} {w' : World} (hv : vol23 l = (0, q)) (hq : q.length = x) (A : Option Addr) (c : Nat) (he : e = .returned (.tuple #[.slice A x c, .int .i64 0])) (ho : w'.ownsRow w.heap.size 5 1 (.slice A x c) x (cs q)) (hb : Below w.heap.size w w') : VoR w l e w' := by
  unfold VoR
  rw [hv]
  subst hq
  exact ⟨A, c, he, ho, hb⟩
set_option maxHeartbeats 4000000 in
theorem Volume_c {w : World} {A : Option Addr} {n c : Nat} {l : List F} (h : RowIn w A n c l) (hn : n ≤ 1000000) :
    Calls Try.prog 10 #[.slice A n c] w fun e w' => VoR w l e w' := by
  have hlen := h.row.len
  have hcm := h.max
  have hnc := h.le
  unfold maxLen at hcm
  by_cases h8 : n < 8
  · have h8i : (n : Int) < 8 := by omega
    have hv : vol23 l = (20, []) := if_pos (by omega)
    have HV := Lib.hid hv
    clear hv hlen h
    go_enter Try.func10, Try.ntmps10
    go_wp2
    go_ret2
    exact VoR.no 20 HV.out rfl (Below.refl _ _)
  · obtain ⟨b, o, rfl, hbl, _⟩ := h.row.at_ (k := 0) (by omega)
    obtain ⟨m, rfl⟩ : ∃ m, n = 8 + m := ⟨n - 8, by omega⟩
    obtain ⟨x, hx⟩ : ∃ x, x = getL (l.take 8) := ⟨_, rfl⟩
    have hx64 : x < two64 := by
      have h9 := getL_lt (l.take 8)
      rw [← hx, List.length_take, hlen, Nat.min_eq_left (by omega)] at h9
      exact h9
    have hv : vol23 l = if m < x then (23, []) else if nzB ((l.drop 8).drop x) (m - x) = true then (21, []) else (0, (l.drop 8).take x) := by
      unfold vol23
      rw [if_neg (by omega), ← hx, hlen, show 8 + m - 8 = m by omega]
    have HV := Lib.hid hv
    have HG : Hid (Calls Try.prog 26 #[.slice (some ⟨b, o, none⟩) 8 c] w.drew fun e w' => e = .returned (.int .u64 (x : Int)) ∧ w.drew = w') := by
      have h9 := Get_c (some ⟨b, o, none⟩) 8 c (l.take 8) w.drew ((h.drewN 1).row.take (by omega))
      rw [List.take_take, Nat.min_self, ← hx] at h9
      exact h9
    have hl2 : (l.drop 8).take (8 + m - 8) = l.drop 8 := List.take_of_length_le (by simp; omega)
    have hs2 := (h.drewN 1).slice (a := 8) (M := 8 + m) (by omega) (Nat.le_refl _)
    rw [hl2, show 8 + m - 8 = m by omega] at hs2
    have hll : (l.drop 8).length = m := by simp; omega
    generalize l.drop 8 = l2 at *
    have HLL := Lib.hid hll
    unfold two64 at hx64
    have m8 : ¬ ((8 : Int) + (m : Int)) < 8 := by omega
    have m8n : ¬ 8 + m < 8 := by omega
    have c8 : (8 : Int) ≤ (c : Int) := by omega
    have c8m : (8 : Int) ≤ (8 : Int) + (m : Int) := by omega
    have c9 : (8 : Int) + (m : Int) ≤ (c : Int) := by omega
    clear hv hx hl2 hll hlen h h8 hbl
    by_cases hc : c = 8
    · have R2 := Lib.hid (hs2.1 hc)
      have hm0 : m = 0 := by omega
      subst hc
      clear hs2
      go_enter Try.func10, Try.ntmps10
      go_wp2_with fail
      refine wp_region_held_drew (S := fun W' => True) (by kernel_rfl) ?_ (fun hHeld => ?_)
      · go_keep
      refine wpAnyH_take (i := 0) (oi := { dst := some 9, op := _, type := _, pos := _, after := _, guard := _ }) (v := ?_) rfl (by kernel_rfl) (by kernel_rfl) (by kernel_rfl) (fun _ _ _ h => h) (Or.inl ⟨by rfl, ?_⟩) (by assumption) ?_
      rotate_left
      · intro w' hSw
        try dsimp only at hSw
        go_simp
        try with_reducible rfl
      try simp only [Act.put, List.setIfInBounds_toArray, List.set_cons_zero, List.set_cons_succ]
      refine wpAnyH_take (i := 1) (oi := { dst := some 10, op := _, type := _, pos := _, after := _, guard := _ }) (v := ?_) rfl (by kernel_rfl) (by kernel_rfl) (by kernel_rfl) (fun _ _ _ h => h) (Or.inl ⟨by rfl, ?_⟩) (by assumption) ?_
      rotate_left
      · intro w' hSw
        try dsimp only at hSw
        go_simp
        try with_reducible rfl
      try simp only [Act.put, List.setIfInBounds_toArray, List.set_cons_zero, List.set_cons_succ]
      refine wpAnyH_take (i := 3) (oi := { dst := some 12, op := _, type := _, pos := _, after := _, guard := _ }) (v := ?_) rfl (by kernel_rfl) (by kernel_rfl) (by kernel_rfl) (fun _ _ _ h => h) (Or.inl ⟨by rfl, ?_⟩) (by assumption) ?_
      rotate_left
      · intro w' hSw
        try dsimp only at hSw
        go_simp
        try with_reducible rfl
      try simp only [Act.put, List.setIfInBounds_toArray, List.set_cons_zero, List.set_cons_succ]
      refine wpAnyH_take (i := 4) (oi := { dst := some 13, op := _, type := _, pos := _, after := _, guard := _ }) (v := ?_) rfl (by kernel_rfl) (by kernel_rfl) (by kernel_rfl) (fun _ _ _ h => h) (Or.inl ⟨by rfl, ?_⟩) (by assumption) ?_
      rotate_left
      · intro w' hSw
        try dsimp only at hSw
        go_simp
        try with_reducible rfl
      try simp only [Act.put, List.setIfInBounds_toArray, List.set_cons_zero, List.set_cons_succ]
      refine wpAnyH_ready (rs := [2]) (by kernel_rfl) (by simp) ?_
      refine AllReadyH.cons (o := { dst := some 11, op := _, type := _, pos := _, after := _, guard := _ }) rfl (fun K hK => ?_) AllReadyH.nil
      go_simp
      go_at_call 26
      refine HG.out.mono ?_
      rintro e _ ⟨rfl, rfl⟩
      try go_wp2_with fail
      refine hK.out _ _ ?_ (fun hHeld => ?_)
      · trivial
      clear hK K
      try simp only [Act.put, List.setIfInBounds_toArray, List.set_cons_zero, List.set_cons_succ]
      refine wpAnyH_take (i := 5) (oi := { dst := some 4, op := _, type := _, pos := _, after := _, guard := _ }) (v := ?_) rfl (by kernel_rfl) (by kernel_rfl) (by kernel_rfl) (fun _ _ _ h => h) (Or.inl ⟨by rfl, ?_⟩) (by assumption) ?_
      rotate_left
      · intro w' hSw
        try dsimp only at hSw
        go_simp
        try with_reducible rfl
      try simp only [Act.put, List.setIfInBounds_toArray, List.set_cons_zero, List.set_cons_succ]
      refine wpAnyH_take (i := 6) (oi := { dst := some 5, op := _, type := _, pos := _, after := _, guard := _ }) (v := ?_) rfl (by kernel_rfl) (by kernel_rfl) (by kernel_rfl) (fun _ _ _ h => h) (Or.inl ⟨by rfl, ?_⟩) (by assumption) ?_
      rotate_left
      · intro w' hSw
        try dsimp only at hSw
        go_simp
        try with_reducible rfl
      try simp only [Act.put, List.setIfInBounds_toArray, List.set_cons_zero, List.set_cons_succ]
      refine wpAnyH_done (by kernel_rfl) ?_ _
      have HBW : Hid (Below w.heap.size w w.drew) := (Below.refl w.heap.size w).drew
      have R3 : RowIn w.drew (some ⟨b, o, none⟩) m 0 l2 := R2.out
      clear R2 HG
      generalize w.drew = W1 at *
      by_cases hxm : m < x
      · have k1 : (m : Int) < (x : Int) := by omega
        have hv2 : vol23 l = (23, []) := by rw [HV.out, if_pos hxm]
        have HV2 := Lib.hid hv2
        clear hv2 R3
        go_wp2
        go_ret2
        exact VoR.no 23 HV2.out rfl HBW.out
      · have hx0 : x = 0 := by omega
        have hv2 : vol23 l = (0, l2.take x) := by rw [HV.out, if_neg hxm, nzB_no (fun r hr => by omega)]; rfl
        have hT : Row W1 (some ⟨b, o, none⟩) x (l2.take x) := R3.row.take (by omega)
        have htl : (l2.take x).length = x := by rw [hx0]; rfl
        have HTL := Lib.hid htl
        have HV3 := Lib.hid hv2
        have hcl := Clone_c _ x 0 _ W1 hT (by omega)
        have hz := ContainsZ_c (A := some ⟨b, o, none⟩) (n := 0) (c := 0) (Row.nil W1 _)
        rw [nzB_no (fun r hr => by omega)] at hz
        have HZ := Lib.hid hz
        have HCL := Lib.hid hcl
        clear hv2 hT htl hcl hz HV R3 hxm
        subst hm0 hx0
        go_wp2_with (first
          | (go_at_call 27; refine HZ.out.mono ?_; rintro e _ ⟨rfl, rfl⟩)
          | fail)
        refine HCL.out.mono ?_
        rintro e w4 ⟨A4, c4, rfl, hown, hb4⟩
        have HO4 := Lib.hid (own_base hown HBW.out.size)
        have HB4 := Lib.hid (HBW.out.trans (hb4.mono HBW.out.size))
        clear hown hb4
        go_wp2
        go_ret2
        exact VoR.yes HV3.out HTL.out A4 c4 rfl HO4.out HB4.out
    · have R2 := Lib.hid (hs2.2 hc)
      clear hs2
      go_enter Try.func10, Try.ntmps10
      go_wp2_with fail
      refine wp_region_held_drew (S := fun W' => True) (by kernel_rfl) ?_ (fun hHeld => ?_)
      · go_keep
      refine wpAnyH_take (i := 0) (oi := { dst := some 9, op := _, type := _, pos := _, after := _, guard := _ }) (v := ?_) rfl (by kernel_rfl) (by kernel_rfl) (by kernel_rfl) (fun _ _ _ h => h) (Or.inl ⟨by rfl, ?_⟩) (by assumption) ?_
      rotate_left
      · intro w' hSw
        try dsimp only at hSw
        go_simp
        try with_reducible rfl
      try simp only [Act.put, List.setIfInBounds_toArray, List.set_cons_zero, List.set_cons_succ]
      refine wpAnyH_take (i := 1) (oi := { dst := some 10, op := _, type := _, pos := _, after := _, guard := _ }) (v := ?_) rfl (by kernel_rfl) (by kernel_rfl) (by kernel_rfl) (fun _ _ _ h => h) (Or.inl ⟨by rfl, ?_⟩) (by assumption) ?_
      rotate_left
      · intro w' hSw
        try dsimp only at hSw
        go_simp
        try with_reducible rfl
      try simp only [Act.put, List.setIfInBounds_toArray, List.set_cons_zero, List.set_cons_succ]
      refine wpAnyH_take (i := 3) (oi := { dst := some 12, op := _, type := _, pos := _, after := _, guard := _ }) (v := ?_) rfl (by kernel_rfl) (by kernel_rfl) (by kernel_rfl) (fun _ _ _ h => h) (Or.inl ⟨by rfl, ?_⟩) (by assumption) ?_
      rotate_left
      · intro w' hSw
        try dsimp only at hSw
        go_simp
        try with_reducible rfl
      try simp only [Act.put, List.setIfInBounds_toArray, List.set_cons_zero, List.set_cons_succ]
      refine wpAnyH_take (i := 4) (oi := { dst := some 13, op := _, type := _, pos := _, after := _, guard := _ }) (v := ?_) rfl (by kernel_rfl) (by kernel_rfl) (by kernel_rfl) (fun _ _ _ h => h) (Or.inl ⟨by rfl, ?_⟩) (by assumption) ?_
      rotate_left
      · intro w' hSw
        try dsimp only at hSw
        go_simp
        try with_reducible rfl
      try simp only [Act.put, List.setIfInBounds_toArray, List.set_cons_zero, List.set_cons_succ]
      refine wpAnyH_ready (rs := [2]) (by kernel_rfl) (by simp) ?_
      refine AllReadyH.cons (o := { dst := some 11, op := _, type := _, pos := _, after := _, guard := _ }) rfl (fun K hK => ?_) AllReadyH.nil
      go_simp
      go_at_call 26
      refine HG.out.mono ?_
      rintro e _ ⟨rfl, rfl⟩
      try go_wp2_with fail
      refine hK.out _ _ ?_ (fun hHeld => ?_)
      · trivial
      clear hK K
      try simp only [Act.put, List.setIfInBounds_toArray, List.set_cons_zero, List.set_cons_succ]
      refine wpAnyH_take (i := 5) (oi := { dst := some 4, op := _, type := _, pos := _, after := _, guard := _ }) (v := ?_) rfl (by kernel_rfl) (by kernel_rfl) (by kernel_rfl) (fun _ _ _ h => h) (Or.inl ⟨by rfl, ?_⟩) (by assumption) ?_
      rotate_left
      · intro w' hSw
        try dsimp only at hSw
        go_simp
        try with_reducible rfl
      try simp only [Act.put, List.setIfInBounds_toArray, List.set_cons_zero, List.set_cons_succ]
      refine wpAnyH_take (i := 6) (oi := { dst := some 5, op := _, type := _, pos := _, after := _, guard := _ }) (v := ?_) rfl (by kernel_rfl) (by kernel_rfl) (by kernel_rfl) (fun _ _ _ h => h) (Or.inl ⟨by rfl, ?_⟩) (by assumption) ?_
      rotate_left
      · intro w' hSw
        try dsimp only at hSw
        go_simp
        try with_reducible rfl
      try simp only [Act.put, List.setIfInBounds_toArray, List.set_cons_zero, List.set_cons_succ]
      refine wpAnyH_done (by kernel_rfl) ?_ _
      have HBW : Hid (Below w.heap.size w w.drew) := (Below.refl w.heap.size w).drew
      have R3 : RowIn w.drew (some ⟨b, o + 8, none⟩) m (c - 8) l2 := R2.out
      clear R2 HG
      generalize w.drew = W1 at *
      generalize o + 8 = o2 at *
      generalize c - 8 = c2 at *
      by_cases hxm : m < x
      · have k1 : (m : Int) < (x : Int) := by omega
        have hv2 : vol23 l = (23, []) := by rw [HV.out, if_pos hxm]
        have HV2 := Lib.hid hv2
        clear hv2 R3
        go_wp2
        go_ret2
        exact VoR.no 23 HV2.out rfl HBW.out
      · have hv2 : vol23 l = if nzB (l2.drop x) (m - x) = true then (21, []) else (0, l2.take x) := by rw [HV.out, if_neg hxm]
        have hlc := R3.le
        have hT : Row W1 (some ⟨b, o2, none⟩) x (l2.take x) := R3.row.take (by omega)
        have hll := HLL.out
        have htl : (l2.take x).length = x := by rw [List.length_take, hll]; omega
        have HTL := Lib.hid htl
        have HCL := Lib.hid (Clone_c _ x c2 _ W1 hT (by omega))
        have hsl := R3.slice (a := x) (M := m) (by omega) (Nat.le_refl _)
        obtain ⟨k, rfl⟩ : ∃ k, m = x + k := ⟨m - x, by omega⟩
        rw [show x + k - x = k by omega] at hv2 hsl
        have hdt : (l2.drop x).take k = l2.drop x := List.take_of_length_le (by simp; omega)
        rw [hdt] at hsl
        have q1 : ¬ ((x : Int) + (k : Int)) < (x : Int) := by omega
        have q2 : (x : Int) ≤ (x : Int) + (k : Int) := by omega
        have q3 : (x : Int) ≤ (c2 : Int) := by omega
        have q4 : (x : Int) + (k : Int) ≤ (c2 : Int) := by omega
        have HV2 := Lib.hid hv2
        clear hv2 hT hll htl hdt hxm HV R3
        by_cases hcx : c2 = x
        · have hk0 : k = 0 := by omega
          have hr0 : Row W1 (some ⟨b, o2, none⟩) k [] := by rw [hk0]; exact Row.nil _ _
          have hz := ContainsZ_c (c := 0) hr0
          rw [nzB_no (fun r hr => by omega)] at hz
          have HZ := Lib.hid hz
          have hv3 : vol23 l = (0, l2.take x) := by rw [HV2.out, nzB_no (fun r hr => by omega)]; rfl
          have HV3 := Lib.hid hv3
          rw [hcx] at HCL
          clear hr0 hz hv3 hk0 hsl HV2
          go_wp2_with (first
            | (go_at_call 27; refine HZ.out.mono ?_; rintro e _ ⟨rfl, rfl⟩)
            | fail)
          refine HCL.out.mono ?_
          rintro e w4 ⟨A4, c4, rfl, hown, hb4⟩
          have HO4 := Lib.hid (own_base hown HBW.out.size)
          have HB4 := Lib.hid (HBW.out.trans (hb4.mono HBW.out.size))
          clear hown hb4
          go_wp2
          go_ret2
          exact VoR.yes HV3.out HTL.out A4 c4 rfl HO4.out HB4.out
        · have hr9 : Row W1 (some ⟨b, o2 + x, none⟩) k (l2.drop x) := by
            have ea : (⟨b, o2, none⟩ : Addr).add x = ⟨b, o2 + x, none⟩ := by unfold Addr.add; split <;> simp_all
            have e9 := (hsl.2 hcx).row
            rw [Option.map_some, ea] at e9
            exact e9
          have hz := ContainsZ_c (c := c2 - x) hr9
          clear hr9
          cases hnz : nzB (l2.drop x) k with
          | true =>
            rw [hnz] at hz
            have HZ := Lib.hid hz
            have hv3 : vol23 l = (21, []) := by rw [HV2.out, hnz]; rfl
            have HV3 := Lib.hid hv3
            clear hz hv3 hsl HV2 hnz
            go_wp2_with (first
              | (go_at_call 27; refine HZ.out.mono ?_; rintro e _ ⟨rfl, rfl⟩)
              | fail)
            go_ret2
            exact VoR.no 21 HV3.out rfl HBW.out
          | false =>
            rw [hnz] at hz
            have HZ := Lib.hid hz
            have hv3 : vol23 l = (0, l2.take x) := by rw [HV2.out, hnz]; rfl
            have HV3 := Lib.hid hv3
            clear hz hv3 hsl HV2 hnz
            go_wp2_with (first
              | (go_at_call 27; refine HZ.out.mono ?_; rintro e _ ⟨rfl, rfl⟩)
              | fail)
            refine HCL.out.mono ?_
            rintro e w4 ⟨A4, c4, rfl, hown, hb4⟩
            have HO4 := Lib.hid (own_base hown HBW.out.size)
            have HB4 := Lib.hid (HBW.out.trans (hb4.mono HBW.out.size))
            clear hown hb4
            go_wp2
            go_ret2
            exact VoR.yes HV3.out HTL.out A4 c4 rfl HO4.out HB4.out
end Go.Proofs.Ytbmkcnlcffnjgaa
