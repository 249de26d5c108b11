/-
  STRIPES: a volume's column: the document's. Columns of at most 1000 bytes.
-/
import Derived.Test.YtbmkcnlcffnjgaaSrc
import Derived.Test.YtbmkcnlcffnjgaaJoin
import Derived.Deep.OwnRows
namespace Go.Proofs.Ytbmkcnlcffnjgaa
open Go.RowKit
set_option maxRecDepth 100000
set_option linter.unusedVariables false

/-- what the document's Column answers -/
def RCoR (w : World) (b : List F) (s : Int) (e : Ending) (w' : World) : Prop :=
  (¬ (5 ≤ s ∧ s ≤ 16777216) ∧ e = .returned (.tuple #[.slice none 0 0, .int .i64 1]) ∧ Below w.heap.size w w') ∨
  (5 ≤ s ∧ s ≤ 16777216 ∧ s < b.length ∧ e = .returned (.tuple #[.slice none 0 0, .int .i64 2]) ∧ Below w.heap.size w w') ∨
  (∃ S g c : Nat, s = S ∧ 5 ≤ S ∧ S ≤ 16777216 ∧ b.length ≤ S ∧ e = .returned (.tuple #[.slice (some ⟨g, 0, none⟩) (8 + S) c, .int .i64 0]) ∧ w'.ownsRow w.heap.size 5 1 (.slice (some ⟨g, 0, none⟩) (8 + S) c) (8 + S) (cs (col23 b S)) ∧ Below w.heap.size w w')
theorem own_capsO {w : World} {base n c : Nat} {A : Option Addr} {e : TypeId} {xs : List Value} (h : w.ownsRow base e 1 (.slice A n c) n xs) (hn : 0 < n) : n ≤ c ∧ c ≤ maxLen := by
  rcases h.2 with ⟨_, h0⟩ | ⟨g, cap, cur, hv, _, _, hnc, hcm, _⟩
  · omega
  · injection hv with _ _ e2
    subst e2
    exact ⟨hnc, hcm⟩
/-- the three parts, joined -/
theorem join23 {W : World} {A8 A : Option Addr} {c8 n c m S gm : Nat} {b : List F} (h8 : Row W A8 8 (putL b.length 8)) (h8c : 8 ≤ c8 ∧ c8 ≤ maxLen) (hb : RowIn W A n c b) (hm : Row W (some ⟨gm, 0, none⟩) m (List.replicate m 0)) (hS : n + m = S) (hS2 : S ≤ 1000) (T : TypeId) :
    Calls Try.prog 24 #[.slice (some ⟨W.heap.size, 0, none⟩) 3 3] (W.alloc (.cells #[.slice A8 8 c8, .slice A n c, .slice (some ⟨gm, 0, none⟩) m m] T)) fun e w' => ∃ g cj, e = .returned (.slice (some ⟨g, 0, none⟩) (8 + S) cj) ∧ w'.ownsRow W.heap.size 5 1 (.slice (some ⟨g, 0, none⟩) (8 + S) cj) (8 + S) (cs (col23 b S)) ∧ Below W.heap.size W w' := by
  have hbl := hb.row.len
  have hin := rows_lit (w := W) (n := 3) (RA := th3 A8 A (some ⟨gm, 0, none⟩)) (RL := th3 8 n m) (RC := th3 c8 c m) (R := th3 (putL b.length 8) b (List.replicate m 0)) (fun r hr => by
    rcases (show r = 0 ∨ r = 1 ∨ r = 2 by omega) with rfl | rfl | rfl
    · exact ⟨h8, h8c.1, h8c.2⟩
    · exact hb
    · exact ⟨hm, Nat.le_refl _, hm.2.1⟩) #[.slice A8 8 c8, .slice A n c, .slice (some ⟨gm, 0, none⟩) m m] (fun r hr => by
    rcases (show r = 0 ∨ r = 1 ∨ r = 2 by omega) with rfl | rfl | rfl <;> rfl) T (by unfold maxLen; omega)
  refine (Join_c hin (by omega) (fun r hr => by
    rcases (show r = 0 ∨ r = 1 ∨ r = 2 by omega) with rfl | rfl | rfl
    · show 8 ≤ _; omega
    · show n ≤ _; omega
    · show m ≤ _; omega)).mono ?_
  rintro e w' ⟨g, cj, rfl, hown, hb'⟩
  have e1 : lenTo (th3 8 n m) 3 = 8 + S := by rw [lenTo_three]; omega
  have e2 : joinTo (th3 (putL b.length 8) b (List.replicate m 0)) 3 = col23 b S := by
    rw [joinTo_three]
    unfold col23
    rw [show S - b.length = m by omega]
  rw [e1, e2] at hown
  rw [e1]
  exact ⟨g, cj, rfl, hown.mono (by simp), ((Below.refl _ _).alloc (Nat.le_refl _) _).trans (hb'.mono (by simp))⟩
set_option maxHeartbeats 4000000 in
theorem RColumn_c {w : World} {A : Option Addr} {n c : Nat} {b : List F} (h : RowIn w A n c b) (s : Int) (hw : (Lit.int .i64 s).wf = true) (hs : s ≤ 1000 ∨ 16777216 < s) :
    Calls Try.prog 9 #[.slice A n c, .int .i64 s] w fun e w' => RCoR w b s e w' := by
  have hlen := h.row.len
  have hnm := h.row.max
  have HW := Lib.hid hw
  by_cases h1 : s < 5
  · clear h
    go_enter Try.func9, Try.ntmps9
    go_wp2
    go_ret2
    exact .inl ⟨by omega, rfl, Below.refl _ _⟩
  by_cases h2 : 16777216 < s
  · clear h
    go_enter Try.func9, Try.ntmps9
    go_wp2
    go_ret2
    exact .inl ⟨by omega, rfl, Below.refl _ _⟩
  by_cases h3 : s < n
  · clear h
    go_enter Try.func9, Try.ntmps9
    go_wp2
    go_ret2
    exact .inr (.inl ⟨by omega, by omega, by omega, rfl, Below.refl _ _⟩)
  obtain ⟨S, rfl⟩ : ∃ S : Nat, s = (S : Int) := ⟨s.toNat, by omega⟩
  obtain ⟨m, hm⟩ : ∃ m, S = n + m := ⟨S - n, by omega⟩
  have hmi2 : (S : Int) - (n : Int) = (m : Int) := by omega
  have hwm : IntKind.i64.wrap (m : Int) = (m : Int) := IntWalk.i64_in _ (by omega)
  have hmk := run_make_row' (P := Try.prog) 22 5 (.int .u8 0) 1 Try.underlying22 info_u8 rfl .i64 .i64 m (by omega) (by omega)
  have hzr : ∀ W : World, Row (W.alloc (.cells (madeCells #[.int .u8 0] m) 5)) (some ⟨W.heap.size, 0, none⟩) m (List.replicate m 0) := fun W => row_lit W (List.replicate m 0) m W.heap.size (by simp) rfl (by unfold maxLen; simp; omega) _ (by rw [← made23 m]; simp [Value.cells]) _
  have HZR := Lib.hid hzr
  have hu64 : IntKind.u64.wrap (n : Int) = (n : Int) := by
    show (n : Int) % 18446744073709551616 = _
    omega
  have HPUT : Hid (∀ W, Calls Try.prog 25 #[.int .u64 n, .int .i64 8] W fun e w' => ∃ A c, e = .returned (.slice A 8 c) ∧ w'.ownsRow W.heap.size 5 1 (.slice A 8 c) 8 (cs (putL b.length 8)) ∧ Below W.heap.size W w') := fun W => by
    rw [hlen]
    exact RefPut_c n (by unfold two64; omega) 8 W
  have HH := Lib.hid h
  have HM := Lib.hid hm
  have HLEN := Lib.hid hlen
  have hS1000 : S ≤ 1000 := by omega
  clear h hm hzr hs
  go_enter Try.func9, Try.ntmps9
  go_wp2_with fail
  refine wp_region_held_drew (S := fun W' => True) (by kernel_rfl) ?_ (fun hHeld => ?_)
  · trivial
  refine wpAnyH_take (i := 0) (oi := { dst := some 16, op := _, type := _, pos := _, after := _, guard := _ }) (v := ?_) rfl (by kernel_rfl) (by kernel_rfl) (by kernel_rfl) (fun _ _ _ h => h) (Or.inl ⟨by rfl, ?_⟩) (by assumption) ?_
  rotate_left
  · intro w' hSw
    try dsimp only at hSw
    go_simp
    try with_reducible rfl
  try simp only [Act.put, List.setIfInBounds_toArray, List.set_cons_zero, List.set_cons_succ]
  refine wpAnyH_take (i := 1) (oi := { dst := some 17, op := _, type := _, pos := _, after := _, guard := _ }) (v := ?_) rfl (by kernel_rfl) (by kernel_rfl) (by kernel_rfl) (fun _ _ _ h => h) (Or.inl ⟨by rfl, ?_⟩) (by assumption) ?_
  rotate_left
  · intro w' hSw
    try dsimp only at hSw
    go_simp
    try with_reducible rfl
  try simp only [Act.put, List.setIfInBounds_toArray, List.set_cons_zero, List.set_cons_succ]
  refine wpAnyH_take (i := 2) (oi := { dst := some 18, op := _, type := _, pos := _, after := _, guard := _ }) (v := ?_) rfl (by kernel_rfl) (by kernel_rfl) (by kernel_rfl) (fun _ _ _ h => h) (Or.inl ⟨by rfl, ?_⟩) (by assumption) ?_
  rotate_left
  · intro w' hSw
    try dsimp only at hSw
    go_simp
    try with_reducible rfl
  try simp only [Act.put, List.setIfInBounds_toArray, List.set_cons_zero, List.set_cons_succ]
  refine wpAnyH_take (i := 4) (oi := { dst := some 20, op := _, type := _, pos := _, after := _, guard := _ }) (v := ?_) rfl (by kernel_rfl) (by kernel_rfl) (by kernel_rfl) (fun _ _ _ h => h) (Or.inl ⟨by rfl, ?_⟩) (by assumption) ?_
  rotate_left
  · intro w' hSw
    try dsimp only at hSw
    go_simp
    try with_reducible rfl
  try simp only [Act.put, List.setIfInBounds_toArray, List.set_cons_zero, List.set_cons_succ]
  refine wpAnyH_take (i := 5) (oi := { dst := some 21, op := _, type := _, pos := _, after := _, guard := _ }) (v := ?_) rfl (by kernel_rfl) (by kernel_rfl) (by kernel_rfl) (fun _ _ _ h => h) (Or.inl ⟨by rfl, ?_⟩) (by assumption) ?_
  rotate_left
  · intro w' hSw
    try dsimp only at hSw
    go_simp
    try with_reducible rfl
  try simp only [Act.put, List.setIfInBounds_toArray, List.set_cons_zero, List.set_cons_succ]
  refine wpAnyH_take (i := 6) (oi := { dst := some 22, op := _, type := _, pos := _, after := _, guard := _ }) (v := ?_) rfl (by kernel_rfl) (by kernel_rfl) (by kernel_rfl) (fun _ _ _ h => h) (Or.inl ⟨by rfl, ?_⟩) (by assumption) ?_
  rotate_left
  · intro w' hSw
    try dsimp only at hSw
    go_simp
    try with_reducible rfl
  try simp only [Act.put, List.setIfInBounds_toArray, List.set_cons_zero, List.set_cons_succ]
  refine wpAnyH_take (i := 7) (oi := { dst := some 23, op := _, type := _, pos := _, after := _, guard := _ }) (v := ?_) rfl (by kernel_rfl) (by kernel_rfl) (by kernel_rfl) (fun _ _ _ h => h) (Or.inl ⟨by rfl, ?_⟩) (by assumption) ?_
  rotate_left
  · intro w' hSw
    try dsimp only at hSw
    go_simp
    try with_reducible rfl
  try simp only [Act.put, List.setIfInBounds_toArray, List.set_cons_zero, List.set_cons_succ]
  refine wpAnyH_take (i := 8) (oi := { dst := some 24, op := _, type := _, pos := _, after := _, guard := _ }) (v := ?_) rfl (by kernel_rfl) (by kernel_rfl) (by kernel_rfl) (fun _ _ _ h => h) (Or.inl ⟨by rfl, ?_⟩) (by assumption) ?_
  rotate_left
  · intro w' hSw
    try dsimp only at hSw
    go_simp
    try with_reducible rfl
  try simp only [Act.put, List.setIfInBounds_toArray, List.set_cons_zero, List.set_cons_succ]
  refine wpAnyH_ready (rs := [3, 9]) (by kernel_rfl) (by simp) ?_
  refine AllReadyH.cons (o := { dst := some 19, op := _, type := _, pos := _, after := _, guard := _ }) rfl (fun K hK => ?_) (AllReadyH.cons (o := { dst := some 25, op := _, type := _, pos := _, after := _, guard := _ }) rfl (fun K hK => ?_) (AllReadyH.nil))
  · skip
    go_simp
    go_at_call 25
    refine (HPUT.out _).mono ?_
    rintro e w3 ⟨A8, c8, rfl, hown8, hb8⟩
    try go_wp2_with fail
    refine hK.out _ _ ?_ (fun hHeld => ?_)
    · trivial
    clear hK K
    try simp only [Act.put, List.setIfInBounds_toArray, List.set_cons_zero, List.set_cons_succ]
    refine wpAnyH_ready (rs := [9]) (by kernel_rfl) (by simp) ?_
    refine AllReadyH.cons (o := { dst := some 25, op := _, type := _, pos := _, after := _, guard := _ }) rfl (fun K hK => ?_) (AllReadyH.nil)
    go_simp
    refine hK.out _ _ ?_ (fun hHeld => ?_)
    · trivial
    clear hK K
    try simp only [Act.put, List.setIfInBounds_toArray, List.set_cons_zero, List.set_cons_succ]
    have h8 : Hid (Row (w3.alloc (.cells (madeCells #[.int .u8 0] m) 5)) A8 8 (putL b.length 8)) := (Row.of_own hown8).below ((Below.refl _ _).alloc (Nat.le_refl _) _)
    have hz8 : Hid (Row (w3.alloc (.cells (madeCells #[.int .u8 0] m) 5)) (some ⟨w3.heap.size, 0, none⟩) m (List.replicate m 0)) := HZR.out w3
    have hB8 : Hid (Below w.heap.size w (w3.alloc (.cells (madeCells #[.int .u8 0] m) 5))) := ((Below.refl w.heap.size w).drew.trans hb8).alloc (by have := hb8.size; exact this) _
    have hc8 := Lib.hid (own_capsO hown8 (by omega))
    clear hown8 hb8
    generalize w3.alloc (.cells (madeCells #[.int .u8 0] m) 5) = W8 at *
    generalize w3.heap.size = gm at *
    have HJ := Lib.hid (join23 h8.out hc8.out (HH.out.below hB8.out) hz8.out HM.out.symm hS1000 22)
    refine wpAnyH_ready (rs := [10]) (by kernel_rfl) (by simp) ?_
    refine AllReadyH.cons (o := { dst := some 26, op := _, type := _, pos := _, after := _, guard := _ }) rfl (fun K hK => ?_) AllReadyH.nil
    go_simp
    refine hK.out _ _ ?_ (fun hHeld => ?_)
    · trivial
    clear hK K
    try simp only [Act.put, List.setIfInBounds_toArray, List.set_cons_zero, List.set_cons_succ]
    refine wpAnyH_ready (rs := [11]) (by kernel_rfl) (by simp) ?_
    refine AllReadyH.cons (o := { dst := some 27, op := _, type := _, pos := _, after := _, guard := _ }) rfl (fun K hK => ?_) AllReadyH.nil
    go_simp
    go_at_call 24
    refine HJ.out.mono ?_
    rintro e w9 ⟨g9, c9, rfl, hown9, hb9⟩
    try go_wp2_with fail
    refine hK.out _ _ ?_ (fun hHeld => ?_)
    · trivial
    clear hK K
    try simp only [Act.put, List.setIfInBounds_toArray, List.set_cons_zero, List.set_cons_succ]
    refine wpAnyH_take (i := 12) (oi := { dst := some 4, op := _, type := _, pos := _, after := _, guard := _ }) (v := ?_) rfl (by kernel_rfl) (by kernel_rfl) (by kernel_rfl) (fun _ _ _ h => h) (Or.inl ⟨by rfl, ?_⟩) (by assumption) ?_
    rotate_left
    · intro w' hSw
      try dsimp only at hSw
      go_simp
      try with_reducible rfl
    try simp only [Act.put, List.setIfInBounds_toArray, List.set_cons_zero, List.set_cons_succ]
    refine wpAnyH_take (i := 13) (oi := { dst := some 5, op := _, type := _, pos := _, after := _, guard := _ }) (v := ?_) rfl (by kernel_rfl) (by kernel_rfl) (by kernel_rfl) (fun _ _ _ h => h) (Or.inl ⟨by rfl, ?_⟩) (by assumption) ?_
    rotate_left
    · intro w' hSw
      try dsimp only at hSw
      go_simp
      try with_reducible rfl
    try simp only [Act.put, List.setIfInBounds_toArray, List.set_cons_zero, List.set_cons_succ]
    refine wpAnyH_done (by kernel_rfl) ?_ _
    go_wp2
    go_ret2
    exact .inr (.inr ⟨S, g9, c9, rfl, by omega, by omega, by have := HM.out; have := HLEN.out; omega, rfl, hown9.mono hB8.out.size, hB8.out.trans (hb9.mono hB8.out.size)⟩)
  · skip
    go_simp
    refine hK.out _ _ ?_ (fun hHeld => ?_)
    · trivial
    clear hK K
    try simp only [Act.put, List.setIfInBounds_toArray, List.set_cons_zero, List.set_cons_succ]
    refine wpAnyH_ready (rs := [3]) (by kernel_rfl) (by simp) ?_
    refine AllReadyH.cons (o := { dst := some 19, op := _, type := _, pos := _, after := _, guard := _ }) rfl (fun K hK => ?_) (AllReadyH.nil)
    go_simp
    go_at_call 25
    refine (HPUT.out _).mono ?_
    rintro e w3 ⟨A8, c8, rfl, hown8, hb8⟩
    try go_wp2_with fail
    refine hK.out _ _ ?_ (fun hHeld => ?_)
    · trivial
    clear hK K
    try simp only [Act.put, List.setIfInBounds_toArray, List.set_cons_zero, List.set_cons_succ]
    have h8 : Hid (Row w3 A8 8 (putL b.length 8)) := Row.of_own hown8
    have hz8 : Hid (Row w3 (some ⟨w.drew.heap.size, 0, none⟩) m (List.replicate m 0)) := (HZR.out w.drew).below hb8
    have hB8 : Hid (Below w.heap.size w w3) := ((Below.refl w.heap.size w).drew.alloc (Nat.le_refl _) _).trans (hb8.mono (by simp [World.drew]))
    have hc8 := Lib.hid (own_capsO hown8 (by omega))
    clear hown8 hb8
    obtain ⟨W8, hW8⟩ : ∃ W, W = w3 := ⟨_, rfl⟩
    subst hW8
    obtain ⟨gm, hgm⟩ : ∃ x, x = w.drew.heap.size := ⟨_, rfl⟩
    have hgm2 : w.heap.size = gm := hgm.symm
    rw [← hgm] at hz8
    try rw [hgm2]
    clear hgm hgm2
    have HJ := Lib.hid (join23 h8.out hc8.out (HH.out.below hB8.out) hz8.out HM.out.symm hS1000 22)
    refine wpAnyH_ready (rs := [10]) (by kernel_rfl) (by simp) ?_
    refine AllReadyH.cons (o := { dst := some 26, op := _, type := _, pos := _, after := _, guard := _ }) rfl (fun K hK => ?_) AllReadyH.nil
    go_simp
    refine hK.out _ _ ?_ (fun hHeld => ?_)
    · trivial
    clear hK K
    try simp only [Act.put, List.setIfInBounds_toArray, List.set_cons_zero, List.set_cons_succ]
    refine wpAnyH_ready (rs := [11]) (by kernel_rfl) (by simp) ?_
    refine AllReadyH.cons (o := { dst := some 27, op := _, type := _, pos := _, after := _, guard := _ }) rfl (fun K hK => ?_) AllReadyH.nil
    go_simp
    go_at_call 24
    refine HJ.out.mono ?_
    rintro e w9 ⟨g9, c9, rfl, hown9, hb9⟩
    try go_wp2_with fail
    refine hK.out _ _ ?_ (fun hHeld => ?_)
    · trivial
    clear hK K
    try simp only [Act.put, List.setIfInBounds_toArray, List.set_cons_zero, List.set_cons_succ]
    refine wpAnyH_take (i := 12) (oi := { dst := some 4, op := _, type := _, pos := _, after := _, guard := _ }) (v := ?_) rfl (by kernel_rfl) (by kernel_rfl) (by kernel_rfl) (fun _ _ _ h => h) (Or.inl ⟨by rfl, ?_⟩) (by assumption) ?_
    rotate_left
    · intro w' hSw
      try dsimp only at hSw
      go_simp
      try with_reducible rfl
    try simp only [Act.put, List.setIfInBounds_toArray, List.set_cons_zero, List.set_cons_succ]
    refine wpAnyH_take (i := 13) (oi := { dst := some 5, op := _, type := _, pos := _, after := _, guard := _ }) (v := ?_) rfl (by kernel_rfl) (by kernel_rfl) (by kernel_rfl) (fun _ _ _ h => h) (Or.inl ⟨by rfl, ?_⟩) (by assumption) ?_
    rotate_left
    · intro w' hSw
      try dsimp only at hSw
      go_simp
      try with_reducible rfl
    try simp only [Act.put, List.setIfInBounds_toArray, List.set_cons_zero, List.set_cons_succ]
    refine wpAnyH_done (by kernel_rfl) ?_ _
    go_wp2
    go_ret2
    exact .inr (.inr ⟨S, g9, c9, rfl, by omega, by omega, by have := HM.out; have := HLEN.out; omega, rfl, hown9.mono hB8.out.size, hB8.out.trans (hb9.mono hB8.out.size)⟩)
end Go.Proofs.Ytbmkcnlcffnjgaa
