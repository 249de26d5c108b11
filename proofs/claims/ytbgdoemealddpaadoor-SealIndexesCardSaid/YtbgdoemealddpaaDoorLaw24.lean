/-
  LAW 24's EXAMPLE: 'alive' returns true. No conditions but that the table lies as the program's text lays it.
-/
import Derived.Test.YtbgdoemealddpaaDoorSlr
import Derived.Deep.RegionHeld3
namespace Go.Proofs.YtbgdoemealddpaaDoor
open Go.RowKit
set_option maxRecDepth 100000
set_option linter.unusedVariables false

theorem PrA.back {w w' : World} {n k s b i : Nat} {R : Nat → List G} {col : List F} (hr : RtS n k s b i) (hR : ∀ r, r < n + k → (R r).length = blkN s b) (hc : col.length = 8 + s) {e : Ending} (h : PrA w w' (slB n k s b i R (n + k) col) e) :
    ∃ A c RA RC C cc, e = .returned (.tuple #[.agg #[.int .i64 (n : Nat), .int .i64 (k : Nat), .int .i64 (s : Nat), .int .i64 (b : Nat), .int .i64 (i : Nat), .slice A (n + k) c], .slice C col.length cc, .int .i64 0]) ∧
      GIn w' A (n + k) c RA (fun _ => blkN s b) RC R ∧ RowIn w' C col.length cc col ∧ Below w.heap.size w w' := by
  have hbd := hr.bd
  have h0 := prE_slB hr hR hc
  have hfr := slB_front n k s b i R (n + k) col
  obtain ⟨_, _, _, v2, v3, v4, v5, v6⟩ := front_vals hfr (by omega) (by omega) (by omega) (by omega) (by omega)
  obtain ⟨_, hq, hh, _⟩ := prE_of hfr hr
  obtain ⟨_, _, hd, _⟩ := slB_parts (i := i) (col := col) hR
  have hz : ∀ x, pZ (slB n k s b i R (n + k) col) x = x := fun x => by unfold pZ; rw [h0, if_pos rfl]
  obtain ⟨A, c, RA, RC, C, cc, he, hG, hC, hb⟩ := h
  have e1 : pN (slB n k s b i R (n + k) col) = n := (hz _).trans v2
  have e2 : pK (slB n k s b i R (n + k) col) = k := (hz _).trans v3
  have e3 : pS (slB n k s b i R (n + k) col) = s := (hz _).trans v5
  have e4 : pB (slB n k s b i R (n + k) col) = b := (hz _).trans v6
  have e5 : pI (slB n k s b i R (n + k) col) = i := (hz _).trans v4
  have e6 : pM (slB n k s b i R (n + k) col) = n + k := by unfold pM; rw [e1, e2]
  have e7 : pC (slB n k s b i R (n + k) col) = col := by unfold pC; rw [h0, if_pos rfl, hh, hd]
  rw [e1, e2, e3, e4, e5, e6, e7, h0] at he
  rw [e6, hq] at hG
  rw [e7] at hC
  exact ⟨A, c, RA, RC, C, cc, he, hG.congr (fun r hr' => tdR_slB hR hr'), hC, hb⟩
theorem prE_cutS {n k s b i : Nat} {R : Nat → List G} {col : List F} (hr : RtS n k s b i) (hR : ∀ r, r < n + k → (R r).length = blkN s b) (hc : col.length = 8 + s) {m : Nat} (h1 : hdN n k (blkN s b) ≤ m) (h2 : m < hdN n k (blkN s b) + (8 + s)) : prE ((slB n k s b i R (n + k) col).take m) = 20 := by
  obtain ⟨p1, p2, _, p4⟩ := slB_parts (i := i) (col := col) hR
  have hh := smN_eq (blkN s b) n k
  have hl : ((slB n k s b i R (n + k) col).take m).length = m := by rw [List.length_take]; omega
  have hfr : ((slB n k s b i R (n + k) col).take m).take 20 = frB n k s b i := by
    rw [List.take_take, Nat.min_eq_left (by omega)]
    exact slB_front n k s b i R (n + k) col
  obtain ⟨_, _, _, hp⟩ := prE_of hfr hr
  rw [hp, hl, if_neg (by omega), atL_take _ _ _ _ (by omega), List.take_take, Nat.min_eq_left (by omega), p1, p2, if_neg (fun e => e rfl), if_pos h2]
theorem prE_none : prE [] = 44 := prE_fr (frE44 (.inl (by decide))) (by decide)
def z13 : List F := List.replicate 13 0
def al45 : List F := slB 1 1 5 13 0 (fun _ => [sum32 z13]) 2 z13
theorem al_rt : RtS 1 1 5 13 0 := ⟨by decide, by decide⟩
theorem al_R : ∀ r, r < 1 + 1 → ((fun _ => [sum32 z13]) r : List G).length = blkN 5 13 := fun _ _ => by show 1 = blkN 5 13; decide
theorem al_c : z13.length = 8 + 5 := by decide
theorem al_wf : Wf4 (1 : Nat) (1 : Nat) (5 : Nat) (13 : Nat) := ⟨by decide, by decide, by decide, by decide⟩
theorem aWrite {W : World} (ht : Tab W) {g cA : Nat} {RA : Nat → Option Addr} {RC : Nat → Nat} (hG : GIn W (some ⟨g, 0, none⟩) 2 2 RA (fun _ => 1) RC (fun _ => [sum32 z13])) (hC : RowIn W (some ⟨cA, 0, none⟩) 13 13 z13) :
    Calls Tryd.prog 9 #[.agg #[.int .i64 1, .int .i64 1, .int .i64 5, .int .i64 13, .int .i64 0, .slice (some ⟨g, 0, none⟩) 2 2], .slice (some ⟨cA, 0, none⟩) 13 13] W fun e w' => ∃ V c', e = .returned (.tuple #[.slice V 45 c', .int .i64 0]) ∧ w'.ownsRow (W.heap.size + 1) 5 1 (.slice V 45 c') 45 (cs al45) ∧ Below W.heap.size W w' :=
  Write_yes (n := 1) (k := 1) (s := 5) (b := 13) (i := 0) al_wf al_rt.r al_rt.ik ht hG rfl (fun _ _ => by decide) hC rfl (by decide) (by decide) (by decide)
theorem aWrite0 {W : World} {g : Nat} {RA : Nat → Option Addr} {RC : Nat → Nat} (hG : GIn W (some ⟨g, 0, none⟩) 2 2 RA (fun _ => 1) RC (fun _ => [sum32 z13])) :
    Calls Tryd.prog 9 #[.agg #[.int .i64 1, .int .i64 1, .int .i64 5, .int .i64 13, .int .i64 0, .slice (some ⟨g, 0, none⟩) 2 2], .slice none 0 0] W fun e w' => e = .returned (.tuple #[.slice none 0 0, .int .i64 1]) ∧ Below W.heap.size W w' :=
  Write_no al_wf hG none 0 0 (by decide) (.inr (by decide))
theorem aParse {W : World} (ht : Tab W) {A : Option Addr} {c : Nat} (h : RowIn W A 45 c al45) :
    Calls Tryd.prog 19 #[.slice A 45 c] W fun e w' => ∃ A' c' RA RC C cc, e = .returned (.tuple #[.agg #[.int .i64 1, .int .i64 1, .int .i64 5, .int .i64 13, .int .i64 0, .slice A' 2 c'], .slice C 13 cc, .int .i64 0]) ∧ GIn w' A' 2 c' RA (fun _ => 1) RC (fun _ => [sum32 z13]) ∧ RowIn w' C 13 cc z13 ∧ Below W.heap.size W w' :=
  (Parse_c ht h (by decide)).mono fun e w' hp => PrA.back al_rt al_R al_c hp
theorem PrA.code {w w' : World} {l : List F} {e : Ending} {er : Int} (h : PrA w w' l e) (he : prE l = er) : ∃ A m0 c C m cc, e = .returned (.tuple #[.agg #[.int .i64 (pN l : Nat), .int .i64 (pK l : Nat), .int .i64 (pS l : Nat), .int .i64 (pB l : Nat), .int .i64 (pI l : Nat), .slice A m0 c], .slice C m cc, .int .i64 er]) ∧ Below w.heap.size w w' := by
  obtain ⟨A, c, RA, RC, C, cc, h1, _, _, hb⟩ := h
  rw [he] at h1
  exact ⟨_, _, _, _, _, _, h1, hb⟩
theorem aParse0 {W : World} (ht : Tab W) :
    Calls Tryd.prog 19 #[.slice none 0 0] W fun e w' => ∃ a b c d f A0 m0 c0 C m cc, e = .returned (.tuple #[.agg #[.int .i64 a, .int .i64 b, .int .i64 c, .int .i64 d, .int .i64 f, .slice A0 m0 c0], .slice C m cc, .int .i64 44]) ∧ Below W.heap.size W w' :=
  (Parse_c ht (RowIn.nil_ W) (by decide)).mono fun e w' hp => by
    obtain ⟨A0, m0, c0, C, m, cc, h1, h3⟩ := hp.code prE_none
    exact ⟨_, _, _, _, _, A0, m0, c0, C, m, cc, h1, h3⟩
theorem aParse44 {W : World} (ht : Tab W) {b o c : Nat} (h : RowIn W (some ⟨b, o, none⟩) 45 c al45) :
    Calls Tryd.prog 19 #[.slice (some ⟨b, o, none⟩) 44 c] W fun e w' => ∃ a b c d f A0 m0 c0 C m cc, e = .returned (.tuple #[.agg #[.int .i64 a, .int .i64 b, .int .i64 c, .int .i64 d, .int .i64 f, .slice A0 m0 c0], .slice C m cc, .int .i64 20]) ∧ Below W.heap.size W w' :=
  (Parse_c ht (⟨h.row.take (by decide), by have := h.le; omega, h.max⟩ : RowIn W (some ⟨b, o, none⟩) 44 c (al45.take 44)) (by decide)).mono fun e w' hp => by
    obtain ⟨A0, m0, c0, C, m, cc, h1, h3⟩ := hp.code (prE_cutS al_rt al_R al_c (m := 44) (by decide) (by decide))
    exact ⟨_, _, _, _, _, A0, m0, c0, C, m, cc, h1, h3⟩
theorem aSums {W : World} (ht : Tab W) {x cA : Nat} (hM : MIn W (some ⟨x, 0, none⟩) 2 2 (fun _ => some ⟨cA, 0, none⟩) (fun _ => 13) (fun _ => 13) (fun _ => z13)) :
    Calls Tryd.prog 15 #[.slice (some ⟨x, 0, none⟩) 2 2, .agg #[.int .i64 1, .int .i64 1, .int .i64 5, .int .i64 13]] W fun e w' => ∃ g RA RC, e = .returned (.slice (some ⟨g, 0, none⟩) 2 2) ∧ GIn w' (some ⟨g, 0, none⟩) 2 2 RA (fun _ => 1) RC (fun _ => [sum32 z13]) ∧ Below W.heap.size W w' ∧ W.heap.size < g ∧ ∀ r, r < 2 → 0 < 1 → ∀ y, RA r = some y → g ≤ y.block := by
  have h := Sums_yes (n := 1) (k := 1) (s := 5) (b := 13) al_wf al_rt.r ht hM (by decide) (fun _ _ => by decide)
  refine Calls.mono (show Calls Tryd.prog 15 #[.slice (some ⟨x, 0, none⟩) 2 2, .agg #[.int .i64 1, .int .i64 1, .int .i64 5, .int .i64 13]] W _ from h) ?_
  rintro e w' ⟨g, RA, RC, he, hG, hb, h1, h2⟩
  have hct : ctS (fun _ => 13) 13 = fun _ => 1 := by funext r; show blkCount 13 13 = 1; decide
  rw [hct] at hG h2
  exact ⟨g, RA, RC, he, hG.congr (fun r hr => by
    have e : blkCount 13 13 = 1 := by decide
    show sums z13 13 (blkCount 13 13) = [sum32 z13]
    rw [e]
    rfl), hb, h1, h2⟩
theorem aHead (W : World) : Calls Tryd.prog 14 #[.agg #[.int .i64 1, .int .i64 1, .int .i64 5, .int .i64 13]] W fun e w' => e = .returned (.int .i64 32) ∧ Below W.heap.size W w' := Head_yes (n := 1) (k := 1) (s := 5) (b := 13) al_wf al_rt.r W
theorem aHead0 (W : World) : Calls Tryd.prog 14 #[.agg #[.int .i64 0, .int .i64 0, .int .i64 0, .int .i64 0]] W fun e w' => e = .returned (.int .i64 0) ∧ Below W.heap.size W w' := Head_no (N := 0) (K := 0) (S := 0) (B := 0) ⟨by decide, by decide, by decide, by decide⟩ (by decide) W
/-- the example's seal, laid -/
structure FinA (W0 W : World) (g p : Nat) : Prop where
  bel : Below W0.heap.size W0 W
  bx : Blk W p 26 #[.int .i64 1, .int .i64 1, .int .i64 5, .int .i64 13, .int .i64 0, .slice (some ⟨g, 0, none⟩) 2 2]
  hp : W0.heap.size ≤ p
  gin : ∃ RA RC, GIn W (some ⟨g, 0, none⟩) 2 2 RA (fun _ => 1) RC (fun _ => [sum32 z13])
set_option maxHeartbeats 8000000 in
theorem alive24_c (w : World) (ht : Tab w) : Calls Tryd.prog 7 #[] w fun e w' => e = .returned (.bool true) ∧ Below w.heap.size w w' := by
  obtain ⟨i0, hi, hz0, hz1, hz2⟩ := info_parts info_u8
  have HT := Lib.hid ht
  clear ht
  go_enter Tryd.func7, Tryd.ntmps7
  go_wp2_with (at_make; refine wpList_make_full _ rfl _ _ 27 rfl (w.heap.size + 1) 5 i0 (.int .u8 0) 1 Tryd.underlying27 hi hz0 hz1 _ _ _ _ 13 rfl rfl rfl rfl (by rw [hz2]; decide) (by unfold maxLen; decide) (by simp) ?_; intro w0 hown0 hgrow0)
  have hb1 := (Below.refl w.heap.size w).alloc (Nat.le_refl _) (.cells #[.int .i64 1, .int .i64 1, .int .i64 5, .int .i64 13] 23)
  have HB1 := Lib.hid (hb1.grown hgrow0 (by simp) (fun k h => by cases h))
  have HG1 := Lib.hid ((Blk.new w 23 #[.int .i64 1, .int .i64 1, .int .i64 5, .int .i64 13]).kept hgrow0 ⟨by simp, fun e => by cases e⟩)
  have hz : (madeCells (Value.int .u8 0).cells (13 * 1)).toList = cs z13 := by
    have e0 : madeCells (Value.int .u8 0).cells (13 * 1) = madeCells #[.int .u8 0] 13 := rfl
    rw [e0, toList_madeCells_one, ← cs_replicate]
    rfl
  rw [hz] at hown0
  rw [World.size_alloc] at hown0
  have HC1 := Lib.hid (own_in hown0)
  have hsz1 : w.heap.size + 2 ≤ w0.heap.size := by have h8 : w.heap.size + 1 < w0.heap.size := (hown0.lt _ rfl).2; omega
  have hcl : w.heap.size + 1 < w0.heap.size := by omega
  clear hb1 hz hown0 hgrow0
  have HTw := Lib.hid (HT.out.below HB1.out rfl)
  have y0 := (HG1.out.cell 0).trans (show _ = some (Value.int .i64 1) from rfl)
  have y1 := (HG1.out.cell 1).trans (show _ = some (Value.int .i64 1) from rfl)
  have y2 := (HG1.out.cell 2).trans (show _ = some (Value.int .i64 5) from rfl)
  have y3 := (HG1.out.cell 3).trans (show _ = some (Value.int .i64 13) from rfl)
  go_wp2_with fail
  obtain ⟨cA, hcA⟩ : ∃ cA, cA = w.heap.size + 1 := ⟨_, rfl⟩
  rw [← hcA] at HC1 hcl ⊢
  clear hcA
  refine cut_in (Z := ∀ (X g p : Nat) (W : World), FinA w0 W g p → (?G24 : Nat → Nat → Nat → World → Prop) X g p W) ?f24 ?z24
  case f24 =>
    intro hREST
    have hRESTo := Lib.hid hREST
    clear hREST
    refine wp_region_held_drew (S := fun W' => W'.cell? ⟨w.heap.size, 0, none⟩ = some (.int .i64 1) ∧ W'.cell? ⟨w.heap.size, 1, none⟩ = some (.int .i64 1) ∧ W'.cell? ⟨w.heap.size, 2, none⟩ = some (.int .i64 5) ∧ W'.cell? ⟨w.heap.size, 3, none⟩ = some (.int .i64 13)) (by kernel_rfl) ?_ (fun hHeld => ?_)
    · go_keep
    refine wpAnyH_take (i := 0) (oi := { dst := some 19, op := _, type := _, pos := _, after := _, guard := _ }) (v := ?_) rfl (by kernel_rfl) (by kernel_rfl) (by kernel_rfl) (fun _ _ _ h => h) (Or.inl ⟨by rfl, ?_⟩) (by assumption) ?_
    rotate_left
    · intro w' hSw
      try dsimp only at hSw
      go_simp
      try with_reducible rfl
    try simp only [Act.put, List.setIfInBounds_toArray, List.set_cons_zero, List.set_cons_succ]
    refine wpAnyH_take (i := 1) (oi := { dst := some 20, op := _, type := _, pos := _, after := _, guard := _ }) (v := ?_) rfl (by kernel_rfl) (by kernel_rfl) (by kernel_rfl) (fun _ _ _ h => h) (Or.inl ⟨by rfl, ?_⟩) (by assumption) ?_
    rotate_left
    · intro w' hSw
      try dsimp only at hSw
      go_simp
      try with_reducible rfl
    try simp only [Act.put, List.setIfInBounds_toArray, List.set_cons_zero, List.set_cons_succ]
    refine wpAnyH_take (i := 2) (oi := { dst := some 21, op := _, type := _, pos := _, after := _, guard := _ }) (v := ?_) rfl (by kernel_rfl) (by kernel_rfl) (by kernel_rfl) (fun _ _ _ h => h) (Or.inl ⟨by rfl, ?_⟩) (by assumption) ?_
    rotate_left
    · intro w' hSw
      try dsimp only at hSw
      go_simp
      try with_reducible rfl
    try simp only [Act.put, List.setIfInBounds_toArray, List.set_cons_zero, List.set_cons_succ]
    refine wpAnyH_take (i := 4) (oi := { dst := some 23, op := _, type := _, pos := _, after := _, guard := _ }) (v := ?_) rfl (by kernel_rfl) (by kernel_rfl) (by kernel_rfl) (fun _ _ _ h => h) (Or.inl ⟨by rfl, ?_⟩) (by assumption) ?_
    rotate_left
    · intro w' hSw
      try dsimp only at hSw
      go_simp
      try with_reducible rfl
    try simp only [Act.put, List.setIfInBounds_toArray, List.set_cons_zero, List.set_cons_succ]
    have hrow : RowIn w0.drew (some ⟨cA, 0, none⟩) 13 13 z13 := HC1.out.drewN 1
    have Hq0 : Blk w0.drew w.heap.size 23 #[.int .i64 1, .int .i64 1, .int .i64 5, .int .i64 13] := HG1.out
    have hTD : Tab w0.drew := HTw.out.drewN 1
    have hBD : Below w0.heap.size w0 w0.drew := below_drewN (Below.refl _ _) 1
    refine wpAnyH_ready (rs := [3, 7]) (by kernel_rfl) (by simp) ?_
    refine AllReadyH.cons (o := { dst := some 22, op := _, type := _, pos := _, after := _, guard := _ }) rfl (fun K hK => ?_) (AllReadyH.cons (o := { dst := some 3, op := _, type := _, pos := _, after := _, guard := _ }) rfl (fun K hK => ?_) (AllReadyH.nil))
    · skip
      go_simp
      have hbE := (Below.refl (w0.drew).heap.size (w0.drew)).alloc (Nat.le_refl _) (.cells #[.slice (some ⟨cA, 0, none⟩) 13 13, .slice (some ⟨cA, 0, none⟩) 13 13] 27)
      have HqE := Hq0.below Hq0.lt hbE
      refine hK.out _ _ ?_ (fun hHeld => ?_)
      · exact ⟨HqE.cell 0, HqE.cell 1, HqE.cell 2, HqE.cell 3⟩
      clear hK K
      try simp only [Act.put, List.setIfInBounds_toArray, List.set_cons_zero, List.set_cons_succ]
      have hM := rows_lit (w := w0.drew) (n := 2) (RA := fun _ => some ⟨cA, 0, none⟩) (RL := fun _ => 13) (RC := fun _ => 13) (R := fun _ => z13) (fun _ _ => hrow) #[.slice (some ⟨cA, 0, none⟩) 13 13, .slice (some ⟨cA, 0, none⟩) 13 13] (fun r hr => by rcases (show r = 0 ∨ r = 1 by omega) with rfl | rfl <;> rfl) 27 (by unfold maxLen; decide)
      have hTE := hTD.below hbE rfl
      have hBE := hBD.trans (hbE.mono (Nat.le_refl _))
      refine wpAnyH_ready (rs := [5, 7]) (by kernel_rfl) (by simp) ?_
      refine AllReadyH.cons (o := { dst := some 24, op := _, type := _, pos := _, after := _, guard := _ }) rfl (fun K hK => ?_) (AllReadyH.cons (o := { dst := some 3, op := _, type := _, pos := _, after := _, guard := _ }) rfl (fun K hK => ?_) (AllReadyH.nil))
      · skip
        go_simp
        go_at_call 15
        refine (aSums hTE hM).mono ?_
        rintro e W4 ⟨g, RA, RC, rfl, hgin, hb9, hg9, hr9⟩
        try go_wp2_with fail
        have Hq9 := HqE.below HqE.lt hb9
        refine hK.out _ _ ?_ (fun hHeld => ?_)
        · exact ⟨Hq9.cell 0, Hq9.cell 1, Hq9.cell 2, Hq9.cell 3⟩
        clear hK K
        try simp only [Act.put, List.setIfInBounds_toArray, List.set_cons_zero, List.set_cons_succ]
        refine wpAnyH_take (i := 6) (oi := { dst := some 25, op := _, type := _, pos := _, after := _, guard := _ }) (v := ?_) rfl (by kernel_rfl) (by kernel_rfl) (by kernel_rfl) (fun _ _ _ h => h) (Or.inl ⟨by rfl, ?_⟩) (by assumption) ?_
        rotate_left
        · intro w' hSw
          try dsimp only at hSw
          go_simp
          try with_reducible rfl
        try simp only [Act.put, List.setIfInBounds_toArray, List.set_cons_zero, List.set_cons_succ]
        refine wpAnyH_ready (rs := [7]) (by kernel_rfl) (by simp) ?_
        refine AllReadyH.cons (o := { dst := some 3, op := _, type := _, pos := _, after := _, guard := _ }) rfl (fun K hK => ?_) (AllReadyH.nil)
        go_simp
        have hbF := (Below.refl (W4).heap.size (W4)).alloc (Nat.le_refl _) (.cells #[.int .i64 0, .int .i64 0, .int .i64 0, .int .i64 0, .int .i64 0, .slice none 0 0] 26)
        have HqF := Hq9.below Hq9.lt hbF
        refine hK.out _ _ ?_ (fun hHeld => ?_)
        · exact ⟨HqF.cell 0, HqF.cell 1, HqF.cell 2, HqF.cell 3⟩
        clear hK K
        try simp only [Act.put, List.setIfInBounds_toArray, List.set_cons_zero, List.set_cons_succ]
        have t2 := st_sl (Blk.new W4 26 #[.int .i64 0, .int .i64 0, .int .i64 0, .int .i64 0, .int .i64 0, .slice none 0 0]) rfl #[.int .i64 1, .int .i64 1, .int .i64 5, .int .i64 13, .int .i64 0, .slice (some ⟨g, 0, none⟩) 2 2] rfl (by simp [Value.oneCell'])
        refine wpAnyH_ready (rs := [8]) (by kernel_rfl) (by simp) ?_
        refine AllReadyH.cons (o := { dst := none, op := _, type := _, pos := _, after := _, guard := _ }) rfl (fun K hK => ?_) (AllReadyH.nil)
        refine step_store_at rfl (.tmp 3) (.tmp 25) 26 rfl _ _ _ (by with_unfolding_all rfl) (by with_unfolding_all rfl) t2 ?_
        have GX := Blk.setRowO HqF (g := W4.heap.size) (by have := Hq9.lt; omega) #[.int .i64 1, .int .i64 1, .int .i64 5, .int .i64 13, .int .i64 0, .slice (some ⟨g, 0, none⟩) 2 2]
        refine hK.out _ _ ?_ (fun hHeld => ?_)
        · exact ⟨GX.cell 0, GX.cell 1, GX.cell 2, GX.cell 3⟩
        clear hK K
        try simp only [Act.put]
        refine wpAnyH_done (by kernel_rfl) ?_ _
        have hbX := below_setRowS hbF (Nat.le_refl _) #[.int .i64 1, .int .i64 1, .int .i64 5, .int .i64 13, .int .i64 0, .slice (some ⟨g, 0, none⟩) 2 2]
        have h9s := hb9.size
        have h9e := hbE.size
        have hfin : FinA w0 _ g W4.heap.size := ⟨(hBE.trans (hb9.mono (by simp))).trans (hbX.mono (by simp at h9s h9e; show w0.heap.size ≤ _; simp at *; omega)), (Blk.new W4 26 #[.int .i64 0, .int .i64 0, .int .i64 0, .int .i64 0, .int .i64 0, .slice none 0 0]).setRow #[.int .i64 1, .int .i64 1, .int .i64 5, .int .i64 13, .int .i64 0, .slice (some ⟨g, 0, none⟩) 2 2], (by simp at h9s; omega), RA, RC, hgin.below hbX⟩
        generalize (W4.alloc (.cells #[.int .i64 0, .int .i64 0, .int .i64 0, .int .i64 0, .int .i64 0, .slice none 0 0] 26)).setRow W4.heap.size #[.int .i64 1, .int .i64 1, .int .i64 5, .int .i64 13, .int .i64 0, .slice (some ⟨g, 0, none⟩) 2 2] = W9 at hfin ⊢
        generalize W4.heap.size = p9 at hfin ⊢
        generalize w0.heap.size = X9
        exact hRESTo.out.out X9 g p9 W9 hfin
      · skip
        go_simp
        have hbF := (Below.refl (w0.drew.alloc (.cells #[.slice (some ⟨cA, 0, none⟩) 13 13, .slice (some ⟨cA, 0, none⟩) 13 13] 27)).heap.size (w0.drew.alloc (.cells #[.slice (some ⟨cA, 0, none⟩) 13 13, .slice (some ⟨cA, 0, none⟩) 13 13] 27))).alloc (Nat.le_refl _) (.cells #[.int .i64 0, .int .i64 0, .int .i64 0, .int .i64 0, .int .i64 0, .slice none 0 0] 26)
        have HqF := HqE.below HqE.lt hbF
        refine hK.out _ _ ?_ (fun hHeld => ?_)
        · exact ⟨HqF.cell 0, HqF.cell 1, HqF.cell 2, HqF.cell 3⟩
        clear hK K
        try simp only [Act.put, List.setIfInBounds_toArray, List.set_cons_zero, List.set_cons_succ]
        refine wpAnyH_ready (rs := [5]) (by kernel_rfl) (by simp) ?_
        refine AllReadyH.cons (o := { dst := some 24, op := _, type := _, pos := _, after := _, guard := _ }) rfl (fun K hK => ?_) (AllReadyH.nil)
        go_simp
        go_at_call 15
        refine (aSums (hTE.below hbF rfl) (hM.below hbF)).mono ?_
        rintro e W4 ⟨g, RA, RC, rfl, hgin, hb9, hg9, hr9⟩
        try go_wp2_with fail
        have Hq9 := HqF.below HqF.lt hb9
        refine hK.out _ _ ?_ (fun hHeld => ?_)
        · exact ⟨Hq9.cell 0, Hq9.cell 1, Hq9.cell 2, Hq9.cell 3⟩
        clear hK K
        try simp only [Act.put, List.setIfInBounds_toArray, List.set_cons_zero, List.set_cons_succ]
        refine wpAnyH_take (i := 6) (oi := { dst := some 25, op := _, type := _, pos := _, after := _, guard := _ }) (v := ?_) rfl (by kernel_rfl) (by kernel_rfl) (by kernel_rfl) (fun _ _ _ h => h) (Or.inl ⟨by rfl, ?_⟩) (by assumption) ?_
        rotate_left
        · intro w' hSw
          try dsimp only at hSw
          go_simp
          try with_reducible rfl
        try simp only [Act.put, List.setIfInBounds_toArray, List.set_cons_zero, List.set_cons_succ]
        have HP := (Blk.new (w0.drew.alloc (.cells #[.slice (some ⟨cA, 0, none⟩) 13 13, .slice (some ⟨cA, 0, none⟩) 13 13] 27)) 26 #[.int .i64 0, .int .i64 0, .int .i64 0, .int .i64 0, .int .i64 0, .slice none 0 0]).below (by simp) hb9
        have eE : (w0.drew.alloc (.cells #[.slice (some ⟨cA, 0, none⟩) 13 13, .slice (some ⟨cA, 0, none⟩) 13 13] 27)).heap.size = w0.heap.size + 1 := by simp
        rw [eE] at HP
        have t2 := st_sl HP rfl #[.int .i64 1, .int .i64 1, .int .i64 5, .int .i64 13, .int .i64 0, .slice (some ⟨g, 0, none⟩) 2 2] rfl (by simp [Value.oneCell'])
        refine wpAnyH_ready (rs := [8]) (by kernel_rfl) (by simp) ?_
        refine AllReadyH.cons (o := { dst := none, op := _, type := _, pos := _, after := _, guard := _ }) rfl (fun K hK => ?_) (AllReadyH.nil)
        refine step_store_at rfl (.tmp 3) (.tmp 25) 26 rfl _ _ _ (by with_unfolding_all rfl) (by with_unfolding_all rfl) t2 ?_
        have GX := Blk.setRowO Hq9 (g := w0.heap.size + 1) (by omega) #[.int .i64 1, .int .i64 1, .int .i64 5, .int .i64 13, .int .i64 0, .slice (some ⟨g, 0, none⟩) 2 2]
        refine hK.out _ _ ?_ (fun hHeld => ?_)
        · exact ⟨GX.cell 0, GX.cell 1, GX.cell 2, GX.cell 3⟩
        clear hK K
        try simp only [Act.put]
        refine wpAnyH_done (by kernel_rfl) ?_ _
        have h9s := hb9.size
        have hfin : FinA w0 _ g (w0.heap.size + 1) := ⟨below_setRowS (hBE.trans ((hbF.trans (hb9.mono (by simp))).mono (by simp))) (by omega) #[.int .i64 1, .int .i64 1, .int .i64 5, .int .i64 13, .int .i64 0, .slice (some ⟨g, 0, none⟩) 2 2], HP.setRow #[.int .i64 1, .int .i64 1, .int .i64 5, .int .i64 13, .int .i64 0, .slice (some ⟨g, 0, none⟩) 2 2], by omega, RA, RC, hgin.keepS (lo := g) (by simp) (fun b hb _ => heap_setRowS _ _ (by simp at hg9; omega)) (fun b o e => by cases e; exact Nat.le_refl _) (fun r hr h0 x e => hr9 r hr h0 x e)⟩
        generalize W4.setRow (w0.heap.size + 1) #[.int .i64 1, .int .i64 1, .int .i64 5, .int .i64 13, .int .i64 0, .slice (some ⟨g, 0, none⟩) 2 2] = W9 at hfin ⊢
        generalize w0.heap.size + 1 = p9 at hfin ⊢
        generalize w0.heap.size = X9
        exact hRESTo.out.out X9 g p9 W9 hfin
    · skip
      go_simp
      have hbF := (Below.refl (w0.drew).heap.size (w0.drew)).alloc (Nat.le_refl _) (.cells #[.int .i64 0, .int .i64 0, .int .i64 0, .int .i64 0, .int .i64 0, .slice none 0 0] 26)
      have HqF := Hq0.below Hq0.lt hbF
      refine hK.out _ _ ?_ (fun hHeld => ?_)
      · exact ⟨HqF.cell 0, HqF.cell 1, HqF.cell 2, HqF.cell 3⟩
      clear hK K
      try simp only [Act.put, List.setIfInBounds_toArray, List.set_cons_zero, List.set_cons_succ]
      have hTF := hTD.below hbF rfl
      refine wpAnyH_ready (rs := [3]) (by kernel_rfl) (by simp) ?_
      refine AllReadyH.cons (o := { dst := some 22, op := _, type := _, pos := _, after := _, guard := _ }) rfl (fun K hK => ?_) (AllReadyH.nil)
      go_simp
      have hbE := (Below.refl (w0.drew.alloc (.cells #[.int .i64 0, .int .i64 0, .int .i64 0, .int .i64 0, .int .i64 0, .slice none 0 0] 26)).heap.size (w0.drew.alloc (.cells #[.int .i64 0, .int .i64 0, .int .i64 0, .int .i64 0, .int .i64 0, .slice none 0 0] 26))).alloc (Nat.le_refl _) (.cells #[.slice (some ⟨cA, 0, none⟩) 13 13, .slice (some ⟨cA, 0, none⟩) 13 13] 27)
      have HqE := HqF.below HqF.lt hbE
      refine hK.out _ _ ?_ (fun hHeld => ?_)
      · exact ⟨HqE.cell 0, HqE.cell 1, HqE.cell 2, HqE.cell 3⟩
      clear hK K
      try simp only [Act.put, List.setIfInBounds_toArray, List.set_cons_zero, List.set_cons_succ]
      have hM := rows_lit (w := w0.drew.alloc (.cells #[.int .i64 0, .int .i64 0, .int .i64 0, .int .i64 0, .int .i64 0, .slice none 0 0] 26)) (n := 2) (RA := fun _ => some ⟨cA, 0, none⟩) (RL := fun _ => 13) (RC := fun _ => 13) (R := fun _ => z13) (fun _ _ => hrow.below hbF) #[.slice (some ⟨cA, 0, none⟩) 13 13, .slice (some ⟨cA, 0, none⟩) 13 13] (fun r hr => by rcases (show r = 0 ∨ r = 1 by omega) with rfl | rfl <;> rfl) 27 (by unfold maxLen; decide)
      have eF : (w0.drew.alloc (.cells #[.int .i64 0, .int .i64 0, .int .i64 0, .int .i64 0, .int .i64 0, .slice none 0 0] 26)).heap.size = w0.heap.size + 1 := by simp
      rw [eF] at hM
      refine wpAnyH_ready (rs := [5]) (by kernel_rfl) (by simp) ?_
      refine AllReadyH.cons (o := { dst := some 24, op := _, type := _, pos := _, after := _, guard := _ }) rfl (fun K hK => ?_) (AllReadyH.nil)
      go_simp
      go_at_call 15
      refine (aSums (hTF.below hbE rfl) hM).mono ?_
      rintro e W4 ⟨g, RA, RC, rfl, hgin, hb9, hg9, hr9⟩
      try go_wp2_with fail
      have Hq9 := HqE.below HqE.lt hb9
      refine hK.out _ _ ?_ (fun hHeld => ?_)
      · exact ⟨Hq9.cell 0, Hq9.cell 1, Hq9.cell 2, Hq9.cell 3⟩
      clear hK K
      try simp only [Act.put, List.setIfInBounds_toArray, List.set_cons_zero, List.set_cons_succ]
      refine wpAnyH_take (i := 6) (oi := { dst := some 25, op := _, type := _, pos := _, after := _, guard := _ }) (v := ?_) rfl (by kernel_rfl) (by kernel_rfl) (by kernel_rfl) (fun _ _ _ h => h) (Or.inl ⟨by rfl, ?_⟩) (by assumption) ?_
      rotate_left
      · intro w' hSw
        try dsimp only at hSw
        go_simp
        try with_reducible rfl
      try simp only [Act.put, List.setIfInBounds_toArray, List.set_cons_zero, List.set_cons_succ]
      have HP := ((Blk.new w0.drew 26 #[.int .i64 0, .int .i64 0, .int .i64 0, .int .i64 0, .int .i64 0, .slice none 0 0]).below (by simp) hbE).below (by simp; try omega) hb9
      have t2 := st_sl HP rfl #[.int .i64 1, .int .i64 1, .int .i64 5, .int .i64 13, .int .i64 0, .slice (some ⟨g, 0, none⟩) 2 2] rfl (by simp [Value.oneCell'])
      refine wpAnyH_ready (rs := [8]) (by kernel_rfl) (by simp) ?_
      refine AllReadyH.cons (o := { dst := none, op := _, type := _, pos := _, after := _, guard := _ }) rfl (fun K hK => ?_) (AllReadyH.nil)
      refine step_store_at rfl (.tmp 3) (.tmp 25) 26 rfl _ _ _ (by with_unfolding_all rfl) (by with_unfolding_all rfl) t2 ?_
      have GX := Blk.setRowO Hq9 (g := w0.heap.size) (by omega) #[.int .i64 1, .int .i64 1, .int .i64 5, .int .i64 13, .int .i64 0, .slice (some ⟨g, 0, none⟩) 2 2]
      refine hK.out _ _ ?_ (fun hHeld => ?_)
      · exact ⟨GX.cell 0, GX.cell 1, GX.cell 2, GX.cell 3⟩
      clear hK K
      try simp only [Act.put]
      refine wpAnyH_done (by kernel_rfl) ?_ _
      have hfin : FinA w0 _ g w0.heap.size := ⟨below_setRowS (hBD.trans ((hbF.trans ((hbE.trans (hb9.mono (by simp))).mono (by simp))).mono (Nat.le_refl _))) (Nat.le_refl _) #[.int .i64 1, .int .i64 1, .int .i64 5, .int .i64 13, .int .i64 0, .slice (some ⟨g, 0, none⟩) 2 2], HP.setRow #[.int .i64 1, .int .i64 1, .int .i64 5, .int .i64 13, .int .i64 0, .slice (some ⟨g, 0, none⟩) 2 2], Nat.le_refl _, RA, RC, hgin.keepS (lo := g) (by simp) (fun b hb _ => heap_setRowS _ _ (by simp at hg9; omega)) (fun b o e => by cases e; exact Nat.le_refl _) (fun r hr h0 x e => hr9 r hr h0 x e)⟩
      have hWe : W4.setRow w0.drew.heap.size #[.int .i64 1, .int .i64 1, .int .i64 5, .int .i64 13, .int .i64 0, .slice (some ⟨g, 0, none⟩) 2 2] = W4.setRow w0.heap.size #[.int .i64 1, .int .i64 1, .int .i64 5, .int .i64 13, .int .i64 0, .slice (some ⟨g, 0, none⟩) 2 2] := rfl
      rw [hWe]
      generalize W4.setRow w0.heap.size #[.int .i64 1, .int .i64 1, .int .i64 5, .int .i64 13, .int .i64 0, .slice (some ⟨g, 0, none⟩) 2 2] = W9 at hfin ⊢
      generalize w0.heap.size + 1 = X9
      generalize w0.heap.size = p9 at hfin ⊢
      exact hRESTo.out.out X9 g p9 W9 hfin
  case z24 =>
    intro X g p W2 hfin
    obtain ⟨RA, RC, hgin⟩ := hfin.gin
    have HG2 := Lib.hid (HG1.out.below (by omega) hfin.bel)
    have HP2 := Lib.hid hfin.bx
    have hpw := hfin.hp
    have HB2 := Lib.hid (HB1.out.trans (hfin.bel.mono (by omega)))
    have HC2 := Lib.hid (HC1.out.below hfin.bel)
    have HI2 := Lib.hid hgin
    clear hgin hfin HG1 HB1 HC1 HTw y0 y1 y2 y3
    have z0 := (HP2.out.cell 0).trans (show _ = some (Value.int .i64 1) from rfl)
    have z1 := (HP2.out.cell 1).trans (show _ = some (Value.int .i64 1) from rfl)
    have z2 := (HP2.out.cell 2).trans (show _ = some (Value.int .i64 5) from rfl)
    have z3 := (HP2.out.cell 3).trans (show _ = some (Value.int .i64 13) from rfl)
    have z4 := (HP2.out.cell 4).trans (show _ = some (Value.int .i64 0) from rfl)
    have z5 := (HP2.out.cell 5).trans (show _ = some (Value.slice (some ⟨g, 0, none⟩) 2 2) from rfl)
    go_wp2_with fail
    refine (aWrite (HT.out.below HB2.out rfl) HI2.out HC2.out).mono ?_
    rintro e W3 ⟨V3, c3, rfl, hown3, hb3⟩
    have HG3 := Lib.hid (HG2.out.below HG2.out.lt hb3)
    have HP3 := Lib.hid (HP2.out.below HP2.out.lt hb3)
    have HB3 := Lib.hid (HB2.out.trans (hb3.mono HB2.out.size))
    have HC3 := Lib.hid (HC2.out.below hb3)
    have HI3 := Lib.hid (HI2.out.below hb3)
    have HW3 := Lib.hid (own_in hown3)
    obtain ⟨bV, oV, hV, _, _⟩ := (own_in hown3).row.2.2 (by omega : 0 < 45)
    subst hV
    clear hown3 hb3 z0 z1 z2 z3 z4 z5 HG2 HP2 HB2 HC2 HI2
    go_wp2_with fail
    refine (aParse (HT.out.below HB3.out rfl) HW3.out).mono ?_
    rintro e W4 ⟨A4, c4, RA4, RC4, C4, cc4, rfl, hI4, hD4, hb4⟩
    have ha4 := (Below.refl W4.heap.size W4).alloc (Nat.le_refl _) (.cells #[.int .i64 1, .int .i64 1, .int .i64 5, .int .i64 13, .int .i64 0, .slice A4 2 c4] 26)
    have hb4' := hb4.trans (ha4.mono hb4.size)
    have HX4 := Lib.hid (Blk.new W4 26 #[.int .i64 1, .int .i64 1, .int .i64 5, .int .i64 13, .int .i64 0, .slice A4 2 c4])
    have HJ4 := Lib.hid (hI4.below ha4)
    have HD4 := Lib.hid (hD4.below ha4)
    have HG4 := Lib.hid (HG3.out.below HG3.out.lt hb4')
    have HP4 := Lib.hid (HP3.out.below HP3.out.lt hb4')
    have HB4 := Lib.hid (HB3.out.trans (hb4'.mono HB3.out.size))
    have HC4 := Lib.hid (HC3.out.below hb4')
    have HI4 := Lib.hid (HI3.out.below hb4')
    have HW4 := Lib.hid (HW3.out.below hb4')
    clear hI4 hD4 hb4 hb4' ha4 HG3 HP3 HB3 HC3 HI3 HW3
    obtain ⟨x6, hx6⟩ : ∃ x6, x6 = W4.heap.size := ⟨_, rfl⟩
    rw [← hx6] at HX4
    have HX6E := Lib.hid hx6
    clear hx6
    have z0 := (HP4.out.cell 0).trans (show _ = some (Value.int .i64 1) from rfl)
    have z1 := (HP4.out.cell 1).trans (show _ = some (Value.int .i64 1) from rfl)
    have z2 := (HP4.out.cell 2).trans (show _ = some (Value.int .i64 5) from rfl)
    have z3 := (HP4.out.cell 3).trans (show _ = some (Value.int .i64 13) from rfl)
    have z4 := (HP4.out.cell 4).trans (show _ = some (Value.int .i64 0) from rfl)
    have z5 := (HP4.out.cell 5).trans (show _ = some (Value.slice (some ⟨g, 0, none⟩) 2 2) from rfl)
    go_wp2_with fail
    rw [← HX6E.out]
    refine (aWrite0 HI4.out).mono ?_
    rintro e W5 ⟨rfl, hb5⟩
    have HX5 := Lib.hid (HX4.out.below HX4.out.lt hb5)
    have HJ5 := Lib.hid (HJ4.out.below hb5)
    have HD5 := Lib.hid (HD4.out.below hb5)
    have HG5 := Lib.hid (HG4.out.below HG4.out.lt hb5)
    have HP5 := Lib.hid (HP4.out.below HP4.out.lt hb5)
    have HB5 := Lib.hid (HB4.out.trans (hb5.mono HB4.out.size))
    have HC5 := Lib.hid (HC4.out.below hb5)
    have HI5 := Lib.hid (HI4.out.below hb5)
    have HW5 := Lib.hid (HW4.out.below hb5)
    clear hb5 z0 z1 z2 z3 z4 z5 HX4 HJ4 HD4 HG4 HP4 HB4 HC4 HI4 HW4
    go_wp2_with fail
    refine (aParse0 (HT.out.below HB5.out rfl)).mono ?_
    rintro e W6 ⟨a1, a2, a3, a4, a5, A6, m6, c6, C6, l6, cc6, rfl, hb6⟩
    have hb6' := hb6.trans (((Below.refl W6.heap.size W6).alloc (Nat.le_refl _) (.cells #[.int .i64 a1, .int .i64 a2, .int .i64 a3, .int .i64 a4, .int .i64 a5, .slice A6 m6 c6] 26)).mono hb6.size)
    have HX6 := Lib.hid (HX5.out.below HX5.out.lt hb6')
    have HJ6 := Lib.hid (HJ5.out.below hb6')
    have HD6 := Lib.hid (HD5.out.below hb6')
    have HG6 := Lib.hid (HG5.out.below HG5.out.lt hb6')
    have HP6 := Lib.hid (HP5.out.below HP5.out.lt hb6')
    have HB6 := Lib.hid (HB5.out.trans (hb6'.mono HB5.out.size))
    have HC6 := Lib.hid (HC5.out.below hb6')
    have HI6 := Lib.hid (HI5.out.below hb6')
    have HW6 := Lib.hid (HW5.out.below hb6')
    clear hb6 hb6' HX5 HJ5 HD5 HG5 HP5 HB5 HC5 HI5 HW5
    have k44 : (44 : Int) ≤ (c3 : Int) := by have := HW6.out.le; omega
    go_wp2_with fail
    refine (aParse44 (HT.out.below HB6.out rfl) HW6.out).mono ?_
    rintro e W7 ⟨b1, b2, b3, b4, b5, A7, m7, c7, C7, l7, cc7, rfl, hb7⟩
    have hb7' := hb7.trans (((Below.refl W7.heap.size W7).alloc (Nat.le_refl _) (.cells #[.int .i64 b1, .int .i64 b2, .int .i64 b3, .int .i64 b4, .int .i64 b5, .slice A7 m7 c7] 26)).mono hb7.size)
    have HX7 := Lib.hid (HX6.out.below HX6.out.lt hb7')
    have HJ7 := Lib.hid (HJ6.out.below hb7')
    have HD7 := Lib.hid (HD6.out.below hb7')
    have HG7 := Lib.hid (HG6.out.below HG6.out.lt hb7')
    have HP7 := Lib.hid (HP6.out.below HP6.out.lt hb7')
    have HB7 := Lib.hid (HB6.out.trans (hb7'.mono HB6.out.size))
    have HC7 := Lib.hid (HC6.out.below hb7')
    have HI7 := Lib.hid (HI6.out.below hb7')
    clear hb7 hb7' HX6 HJ6 HD6 HG6 HP6 HB6 HC6 HI6 HW6
    have x1 := (HG7.out.cell 0).trans (show _ = some (Value.int .i64 1) from rfl)
    have x2 := (HG7.out.cell 1).trans (show _ = some (Value.int .i64 1) from rfl)
    have x3 := (HG7.out.cell 2).trans (show _ = some (Value.int .i64 5) from rfl)
    have x4 := (HG7.out.cell 3).trans (show _ = some (Value.int .i64 13) from rfl)
    go_wp2_with fail
    obtain ⟨W8, hW8⟩ : ∃ W8, W8 = W7.alloc (.cells #[.int .i64 b1, .int .i64 b2, .int .i64 b3, .int .i64 b4, .int .i64 b5, .slice A7 m7 c7] 26) := ⟨_, rfl⟩
    rw [← hW8] at HX7 HJ7 HD7 HG7 HP7 HB7 HC7 HI7 ⊢
    clear hW8 x1 x2 x3 x4
    have hbx : Below W8.heap.size W8 W8.drew := below_drewN (Below.refl _ _) 1
    have HGs := Lib.hid (HG7.out.below HG7.out.lt hbx)
    have HPs := Lib.hid (HP7.out.below HP7.out.lt hbx)
    have HXs := Lib.hid (HX7.out.below HX7.out.lt hbx)
    have HBs := Lib.hid (HB7.out.trans (hbx.mono HB7.out.size))
    have HIs := Lib.hid (HI7.out.below hbx)
    have HJs := Lib.hid (HJ7.out.below hbx)
    have HCs := Lib.hid (HC7.out.below hbx)
    have HDs := Lib.hid (HD7.out.below hbx)
    clear hbx
    refine wp_region_held_drew (S := fun W' => W'.cell? ⟨w.heap.size, 0, none⟩ = some (.int .i64 1) ∧ W'.cell? ⟨w.heap.size, 1, none⟩ = some (.int .i64 1) ∧ W'.cell? ⟨w.heap.size, 2, none⟩ = some (.int .i64 5) ∧ W'.cell? ⟨w.heap.size, 3, none⟩ = some (.int .i64 13) ∧ W'.cell? ⟨p, 0, none⟩ = some (.int .i64 1) ∧ W'.cell? ⟨p, 1, none⟩ = some (.int .i64 1) ∧ W'.cell? ⟨p, 2, none⟩ = some (.int .i64 5) ∧ W'.cell? ⟨p, 3, none⟩ = some (.int .i64 13) ∧ W'.cell? ⟨p, 4, none⟩ = some (.int .i64 0) ∧ W'.cell? ⟨p, 5, none⟩ = some (.slice (some ⟨g, 0, none⟩) 2 2) ∧ W'.cell? ⟨x6, 0, none⟩ = some (.int .i64 1) ∧ W'.cell? ⟨x6, 1, none⟩ = some (.int .i64 1) ∧ W'.cell? ⟨x6, 2, none⟩ = some (.int .i64 5) ∧ W'.cell? ⟨x6, 3, none⟩ = some (.int .i64 13) ∧ W'.cell? ⟨x6, 4, none⟩ = some (.int .i64 0) ∧ W'.cell? ⟨x6, 5, none⟩ = some (.slice A4 2 c4)) (by kernel_rfl) ?_ (fun hHeld => ?_)
    · exact ⟨HGs.out.cell 0, HGs.out.cell 1, HGs.out.cell 2, HGs.out.cell 3, HPs.out.cell 0, HPs.out.cell 1, HPs.out.cell 2, HPs.out.cell 3, HPs.out.cell 4, HPs.out.cell 5, HXs.out.cell 0, HXs.out.cell 1, HXs.out.cell 2, HXs.out.cell 3, HXs.out.cell 4, HXs.out.cell 5⟩
    refine wpAnyH_take (i := 0) (oi := { dst := some 58, op := _, type := _, pos := _, after := _, guard := _ }) (v := ?_) rfl (by kernel_rfl) (by kernel_rfl) (by kernel_rfl) (fun _ _ _ h => h) (Or.inl ⟨by rfl, ?_⟩) (by assumption) ?_
    rotate_left
    · intro w' hSw
      try dsimp only at hSw
      go_simp
      try with_reducible rfl
    try simp only [Act.put, List.setIfInBounds_toArray, List.set_cons_zero, List.set_cons_succ]
    refine wpAnyH_ready (rs := [1]) (by kernel_rfl) (by simp) ?_
    refine AllReadyH.cons (o := { dst := some 59, op := _, type := _, pos := _, after := _, guard := _ }) rfl (fun K hK => ?_) AllReadyH.nil
    go_simp
    go_at_call 14
    refine (aHead _).mono ?_
    rintro e Wt ⟨rfl, hb9⟩
    try go_wp2_with fail
    have hbx := hb9
    have HGt := Lib.hid (HGs.out.below HGs.out.lt hbx)
    have HPt := Lib.hid (HPs.out.below HPs.out.lt hbx)
    have HXt := Lib.hid (HXs.out.below HXs.out.lt hbx)
    have HBt := Lib.hid (HBs.out.trans (hbx.mono HBs.out.size))
    have HIt := Lib.hid (HIs.out.below hbx)
    have HJt := Lib.hid (HJs.out.below hbx)
    have HCt := Lib.hid (HCs.out.below hbx)
    have HDt := Lib.hid (HDs.out.below hbx)
    clear hbx
    clear hb9
    refine hK.out _ _ ?_ (fun hHeld => ?_)
    · exact ⟨HGt.out.cell 0, HGt.out.cell 1, HGt.out.cell 2, HGt.out.cell 3, HPt.out.cell 0, HPt.out.cell 1, HPt.out.cell 2, HPt.out.cell 3, HPt.out.cell 4, HPt.out.cell 5, HXt.out.cell 0, HXt.out.cell 1, HXt.out.cell 2, HXt.out.cell 3, HXt.out.cell 4, HXt.out.cell 5⟩
    clear hK K
    try simp only [Act.put, List.setIfInBounds_toArray, List.set_cons_zero, List.set_cons_succ]
    refine wpAnyH_take (i := 2) (oi := { dst := some 60, op := _, type := _, pos := _, after := _, guard := _ }) (v := ?_) rfl (by kernel_rfl) (by kernel_rfl) (by kernel_rfl) (fun _ _ _ h => h) (Or.inl ⟨by rfl, ?_⟩) (by assumption) ?_
    rotate_left
    · intro w' hSw
      try dsimp only at hSw
      go_simp
      try with_reducible rfl
    try simp only [Act.put, List.setIfInBounds_toArray, List.set_cons_zero, List.set_cons_succ]
    refine wpAnyH_take (i := 3) (oi := { dst := some 61, op := _, type := _, pos := _, after := _, guard := _ }) (v := ?_) rfl (by kernel_rfl) (by kernel_rfl) (by kernel_rfl) (fun _ _ _ h => h) (Or.inl ⟨by rfl, ?_⟩) (by assumption) ?_
    rotate_left
    · intro w' hSw
      try dsimp only at hSw
      go_simp
      try with_reducible rfl
    try simp only [Act.put, List.setIfInBounds_toArray, List.set_cons_zero, List.set_cons_succ]
    refine wpAnyH_take (i := 4) (oi := { dst := some 62, op := _, type := _, pos := _, after := _, guard := _ }) (v := ?_) rfl (by kernel_rfl) (by kernel_rfl) (by kernel_rfl) (fun _ _ _ h => h) (Or.inl ⟨by rfl, ?_⟩) (by assumption) ?_
    rotate_left
    · intro w' hSw
      try dsimp only at hSw
      go_simp
      try with_reducible rfl
    try simp only [Act.put, List.setIfInBounds_toArray, List.set_cons_zero, List.set_cons_succ]
    refine wpAnyH_take (i := 5) (oi := { dst := some 63, op := _, type := _, pos := _, after := _, guard := _ }) (v := ?_) rfl (by kernel_rfl) (by kernel_rfl) (by kernel_rfl) (fun _ _ _ h => h) (Or.inl ⟨by rfl, ?_⟩) (by assumption) ?_
    rotate_left
    · intro w' hSw
      try dsimp only at hSw
      go_simp
      try with_reducible rfl
    try simp only [Act.put, List.setIfInBounds_toArray, List.set_cons_zero, List.set_cons_succ]
    refine wpAnyH_take (i := 6) (oi := { dst := some 64, op := _, type := _, pos := _, after := _, guard := _ }) (v := ?_) rfl (by kernel_rfl) (by kernel_rfl) (by kernel_rfl) (fun _ _ _ h => h) (Or.inl ⟨by rfl, ?_⟩) (by assumption) ?_
    rotate_left
    · intro w' hSw
      try dsimp only at hSw
      go_simp
      try with_reducible rfl
    try simp only [Act.put, List.setIfInBounds_toArray, List.set_cons_zero, List.set_cons_succ]
    refine wpAnyH_take (i := 7) (oi := { dst := some 65, op := _, type := _, pos := _, after := _, guard := _ }) (v := ?_) rfl (by kernel_rfl) (by kernel_rfl) (by kernel_rfl) (fun _ _ _ h => h) (Or.inl ⟨by rfl, ?_⟩) (by assumption) ?_
    rotate_left
    · intro w' hSw
      try dsimp only at hSw
      go_simp
      try with_reducible rfl
    try simp only [Act.put, List.setIfInBounds_toArray, List.set_cons_zero, List.set_cons_succ]
    refine wpAnyH_take (i := 8) (oi := { dst := some 66, op := _, type := _, pos := _, after := _, guard := _ }) (v := ?_) rfl (by kernel_rfl) (by kernel_rfl) (by kernel_rfl) (fun _ _ _ h => h) (Or.inl ⟨by rfl, ?_⟩) (by assumption) ?_
    rotate_left
    · intro w' hSw
      try dsimp only at hSw
      go_simp
      try with_reducible rfl
    try simp only [Act.put, List.setIfInBounds_toArray, List.set_cons_zero, List.set_cons_succ]
    refine wpAnyH_take (i := 10) (oi := { dst := some 68, op := _, type := _, pos := _, after := _, guard := _ }) (v := ?_) rfl (by kernel_rfl) (by kernel_rfl) (by kernel_rfl) (fun _ _ _ h => h) (Or.inl ⟨by rfl, ?_⟩) (by assumption) ?_
    rotate_left
    · intro w' hSw
      try dsimp only at hSw
      go_simp
      try with_reducible rfl
    try simp only [Act.put, List.setIfInBounds_toArray, List.set_cons_zero, List.set_cons_succ]
    refine wpAnyH_ready (rs := [9]) (by kernel_rfl) (by simp) ?_
    refine AllReadyH.cons (o := { dst := some 67, op := _, type := _, pos := _, after := _, guard := _ }) rfl (fun K hK => ?_) AllReadyH.nil
    go_simp
    go_at_call 11
    refine (as_c 1 1 5 13 0 A4 2 c4 _).mono ?_
    rintro e Wu ⟨rfl, hb9⟩
    try go_wp2_with fail
    have hbx := hb9
    have HGu := Lib.hid (HGt.out.below HGt.out.lt hbx)
    have HPu := Lib.hid (HPt.out.below HPt.out.lt hbx)
    have HXu := Lib.hid (HXt.out.below HXt.out.lt hbx)
    have HBu := Lib.hid (HBt.out.trans (hbx.mono HBt.out.size))
    have HIu := Lib.hid (HIt.out.below hbx)
    have HJu := Lib.hid (HJt.out.below hbx)
    have HCu := Lib.hid (HCt.out.below hbx)
    have HDu := Lib.hid (HDt.out.below hbx)
    clear hbx
    clear hb9
    refine hK.out _ _ ?_ (fun hHeld => ?_)
    · exact ⟨HGu.out.cell 0, HGu.out.cell 1, HGu.out.cell 2, HGu.out.cell 3, HPu.out.cell 0, HPu.out.cell 1, HPu.out.cell 2, HPu.out.cell 3, HPu.out.cell 4, HPu.out.cell 5, HXu.out.cell 0, HXu.out.cell 1, HXu.out.cell 2, HXu.out.cell 3, HXu.out.cell 4, HXu.out.cell 5⟩
    clear hK K
    try simp only [Act.put, List.setIfInBounds_toArray, List.set_cons_zero, List.set_cons_succ]
    refine wpAnyH_ready (rs := [11]) (by kernel_rfl) (by simp) ?_
    refine AllReadyH.cons (o := { dst := some 69, op := _, type := _, pos := _, after := _, guard := _ }) rfl (fun K hK => ?_) AllReadyH.nil
    go_simp
    go_at_call 11
    refine (as_c 1 1 5 13 0 (some ⟨g, 0, none⟩) 2 2 _).mono ?_
    rintro e Wk ⟨rfl, hb9⟩
    try go_wp2_with fail
    have hbx := hb9
    have HGk := Lib.hid (HGu.out.below HGu.out.lt hbx)
    have HPk := Lib.hid (HPu.out.below HPu.out.lt hbx)
    have HXk := Lib.hid (HXu.out.below HXu.out.lt hbx)
    have HBk := Lib.hid (HBu.out.trans (hbx.mono HBu.out.size))
    have HIk := Lib.hid (HIu.out.below hbx)
    have HJk := Lib.hid (HJu.out.below hbx)
    have HCk := Lib.hid (HCu.out.below hbx)
    have HDk := Lib.hid (HDu.out.below hbx)
    clear hbx
    clear hb9
    refine hK.out _ _ ?_ (fun hHeld => ?_)
    · exact ⟨HGk.out.cell 0, HGk.out.cell 1, HGk.out.cell 2, HGk.out.cell 3, HPk.out.cell 0, HPk.out.cell 1, HPk.out.cell 2, HPk.out.cell 3, HPk.out.cell 4, HPk.out.cell 5, HXk.out.cell 0, HXk.out.cell 1, HXk.out.cell 2, HXk.out.cell 3, HXk.out.cell 4, HXk.out.cell 5⟩
    clear hK K
    try simp only [Act.put, List.setIfInBounds_toArray, List.set_cons_zero, List.set_cons_succ]
    refine wpAnyH_ready (rs := [12]) (by kernel_rfl) (by simp) ?_
    refine AllReadyH.cons (o := { dst := some 70, op := _, type := _, pos := _, after := _, guard := _ }) rfl (fun K hK => ?_) AllReadyH.nil
    go_simp
    go_at_call 21
    refine (same_c 1 1 5 13 0 HJk.out HIk.out (fun _ _ => rfl)).mono ?_
    rintro e Wv ⟨rfl, hb9⟩
    try go_wp2_with fail
    have hbx := hb9
    have HGv := Lib.hid (HGk.out.below HGk.out.lt hbx)
    have HPv := Lib.hid (HPk.out.below HPk.out.lt hbx)
    have HXv := Lib.hid (HXk.out.below HXk.out.lt hbx)
    have HBv := Lib.hid (HBk.out.trans (hbx.mono HBk.out.size))
    have HIv := Lib.hid (HIk.out.below hbx)
    have HJv := Lib.hid (HJk.out.below hbx)
    have HCv := Lib.hid (HCk.out.below hbx)
    have HDv := Lib.hid (HDk.out.below hbx)
    clear hbx
    clear hb9
    refine hK.out _ _ ?_ (fun hHeld => ?_)
    · exact ⟨HGv.out.cell 0, HGv.out.cell 1, HGv.out.cell 2, HGv.out.cell 3, HPv.out.cell 0, HPv.out.cell 1, HPv.out.cell 2, HPv.out.cell 3, HPv.out.cell 4, HPv.out.cell 5, HXv.out.cell 0, HXv.out.cell 1, HXv.out.cell 2, HXv.out.cell 3, HXv.out.cell 4, HXv.out.cell 5⟩
    clear hK K
    try simp only [Act.put, List.setIfInBounds_toArray, List.set_cons_zero, List.set_cons_succ]
    refine wpAnyH_take (i := 13) (oi := { dst := some 71, op := _, type := _, pos := _, after := _, guard := _ }) (v := ?_) rfl (by kernel_rfl) (by kernel_rfl) (by kernel_rfl) (fun _ _ _ h => h) (Or.inl ⟨by rfl, ?_⟩) (by assumption) ?_
    rotate_left
    · intro w' hSw
      try dsimp only at hSw
      go_simp
      try with_reducible rfl
    try simp only [Act.put, List.setIfInBounds_toArray, List.set_cons_zero, List.set_cons_succ]
    refine wpAnyH_take (i := 14) (oi := { dst := some 72, op := _, type := _, pos := _, after := _, guard := _ }) (v := ?_) rfl (by kernel_rfl) (by kernel_rfl) (by kernel_rfl) (fun _ _ _ h => h) (Or.inl ⟨by rfl, ?_⟩) (by assumption) ?_
    rotate_left
    · intro w' hSw
      try dsimp only at hSw
      go_simp
      try with_reducible rfl
    try simp only [Act.put, List.setIfInBounds_toArray, List.set_cons_zero, List.set_cons_succ]
    refine wpAnyH_take (i := 15) (oi := { dst := some 73, op := _, type := _, pos := _, after := _, guard := _ }) (v := ?_) rfl (by kernel_rfl) (by kernel_rfl) (by kernel_rfl) (fun _ _ _ h => h) (Or.inl ⟨by rfl, ?_⟩) (by assumption) ?_
    rotate_left
    · intro w' hSw
      try dsimp only at hSw
      go_simp
      try with_reducible rfl
    try simp only [Act.put, List.setIfInBounds_toArray, List.set_cons_zero, List.set_cons_succ]
    refine wpAnyH_take (i := 16) (oi := { dst := some 74, op := _, type := _, pos := _, after := _, guard := _ }) (v := ?_) rfl (by kernel_rfl) (by kernel_rfl) (by kernel_rfl) (fun _ _ _ h => h) (Or.inl ⟨by rfl, ?_⟩) (by assumption) ?_
    rotate_left
    · intro w' hSw
      try dsimp only at hSw
      go_simp
      try with_reducible rfl
    try simp only [Act.put, List.setIfInBounds_toArray, List.set_cons_zero, List.set_cons_succ]
    refine wpAnyH_ready (rs := [17]) (by kernel_rfl) (by simp) ?_
    refine AllReadyH.cons (o := { dst := some 75, op := _, type := _, pos := _, after := _, guard := _ }) rfl (fun K hK => ?_) AllReadyH.nil
    go_simp
    go_at_call 12
    refine (Same_c C4 (some ⟨cA, 0, none⟩) 13 cc4 13 z13 z13 _ HDv.out.row HCv.out.row rfl).mono ?_
    rintro e _ ⟨rfl, q17, rfl⟩
    try go_wp2_with fail
    have hbx := (below_drewN (Below.refl Wv.heap.size Wv) q17)
    have HGy := Lib.hid (HGv.out.below HGv.out.lt hbx)
    have HPy := Lib.hid (HPv.out.below HPv.out.lt hbx)
    have HXy := Lib.hid (HXv.out.below HXv.out.lt hbx)
    have HBy := Lib.hid (HBv.out.trans (hbx.mono HBv.out.size))
    have HIy := Lib.hid (HIv.out.below hbx)
    have HJy := Lib.hid (HJv.out.below hbx)
    have HCy := Lib.hid (HCv.out.below hbx)
    have HDy := Lib.hid (HDv.out.below hbx)
    clear hbx
    refine hK.out _ _ ?_ (fun hHeld => ?_)
    · exact ⟨HGy.out.cell 0, HGy.out.cell 1, HGy.out.cell 2, HGy.out.cell 3, HPy.out.cell 0, HPy.out.cell 1, HPy.out.cell 2, HPy.out.cell 3, HPy.out.cell 4, HPy.out.cell 5, HXy.out.cell 0, HXy.out.cell 1, HXy.out.cell 2, HXy.out.cell 3, HXy.out.cell 4, HXy.out.cell 5⟩
    clear hK K
    try simp only [Act.put, List.setIfInBounds_toArray, List.set_cons_zero, List.set_cons_succ]
    refine wpAnyH_take (i := 18) (oi := { dst := some 76, op := _, type := _, pos := _, after := _, guard := _ }) (v := ?_) rfl (by kernel_rfl) (by kernel_rfl) (by kernel_rfl) (fun _ _ _ h => h) (Or.inl ⟨by rfl, ?_⟩) (by assumption) ?_
    rotate_left
    · intro w' hSw
      try dsimp only at hSw
      go_simp
      try with_reducible rfl
    try simp only [Act.put, List.setIfInBounds_toArray, List.set_cons_zero, List.set_cons_succ]
    refine wpAnyH_take (i := 19) (oi := { dst := some 77, op := _, type := _, pos := _, after := _, guard := _ }) (v := ?_) rfl (by kernel_rfl) (by kernel_rfl) (by kernel_rfl) (fun _ _ _ h => h) (Or.inl ⟨by rfl, ?_⟩) (by assumption) ?_
    rotate_left
    · intro w' hSw
      try dsimp only at hSw
      go_simp
      try with_reducible rfl
    try simp only [Act.put, List.setIfInBounds_toArray, List.set_cons_zero, List.set_cons_succ]
    refine wpAnyH_take (i := 20) (oi := { dst := some 78, op := _, type := _, pos := _, after := _, guard := _ }) (v := ?_) rfl (by kernel_rfl) (by kernel_rfl) (by kernel_rfl) (fun _ _ _ h => h) (Or.inl ⟨by rfl, ?_⟩) (by assumption) ?_
    rotate_left
    · intro w' hSw
      try dsimp only at hSw
      go_simp
      try with_reducible rfl
    try simp only [Act.put, List.setIfInBounds_toArray, List.set_cons_zero, List.set_cons_succ]
    refine wpAnyH_take (i := 21) (oi := { dst := some 79, op := _, type := _, pos := _, after := _, guard := _ }) (v := ?_) rfl (by kernel_rfl) (by kernel_rfl) (by kernel_rfl) (fun _ _ _ h => h) (Or.inl ⟨by rfl, ?_⟩) (by assumption) ?_
    rotate_left
    · intro w' hSw
      try dsimp only at hSw
      go_simp
      try with_reducible rfl
    try simp only [Act.put, List.setIfInBounds_toArray, List.set_cons_zero, List.set_cons_succ]
    refine wpAnyH_take (i := 22) (oi := { dst := some 80, op := _, type := _, pos := _, after := _, guard := _ }) (v := ?_) rfl (by kernel_rfl) (by kernel_rfl) (by kernel_rfl) (fun _ _ _ h => h) (Or.inl ⟨by rfl, ?_⟩) (by assumption) ?_
    rotate_left
    · intro w' hSw
      try dsimp only at hSw
      go_simp
      try with_reducible rfl
    try simp only [Act.put, List.setIfInBounds_toArray, List.set_cons_zero, List.set_cons_succ]
    refine wpAnyH_take (i := 23) (oi := { dst := some 81, op := _, type := _, pos := _, after := _, guard := _ }) (v := ?_) rfl (by kernel_rfl) (by kernel_rfl) (by kernel_rfl) (fun _ _ _ h => h) (Or.inl ⟨by rfl, ?_⟩) (by assumption) ?_
    rotate_left
    · intro w' hSw
      try dsimp only at hSw
      go_simp
      try with_reducible rfl
    try simp only [Act.put, List.setIfInBounds_toArray, List.set_cons_zero, List.set_cons_succ]
    refine wpAnyH_take (i := 24) (oi := { dst := some 82, op := _, type := _, pos := _, after := _, guard := _ }) (v := ?_) rfl (by kernel_rfl) (by kernel_rfl) (by kernel_rfl) (fun _ _ _ h => h) (Or.inl ⟨by rfl, ?_⟩) (by assumption) ?_
    rotate_left
    · intro w' hSw
      try dsimp only at hSw
      go_simp
      try with_reducible rfl
    try simp only [Act.put, List.setIfInBounds_toArray, List.set_cons_zero, List.set_cons_succ]
    refine wpAnyH_take (i := 25) (oi := { dst := some 83, op := _, type := _, pos := _, after := _, guard := _ }) (v := ?_) rfl (by kernel_rfl) (by kernel_rfl) (by kernel_rfl) (fun _ _ _ h => h) (Or.inl ⟨by rfl, ?_⟩) (by assumption) ?_
    rotate_left
    · intro w' hSw
      try dsimp only at hSw
      go_simp
      try with_reducible rfl
    try simp only [Act.put, List.setIfInBounds_toArray, List.set_cons_zero, List.set_cons_succ]
    refine wpAnyH_take (i := 26) (oi := { dst := some 84, op := _, type := _, pos := _, after := _, guard := _ }) (v := ?_) rfl (by kernel_rfl) (by kernel_rfl) (by kernel_rfl) (fun _ _ _ h => h) (Or.inl ⟨by rfl, ?_⟩) (by assumption) ?_
    rotate_left
    · intro w' hSw
      try dsimp only at hSw
      go_simp
      try with_reducible rfl
    try simp only [Act.put, List.setIfInBounds_toArray, List.set_cons_zero, List.set_cons_succ]
    refine wpAnyH_take (i := 27) (oi := { dst := some 85, op := _, type := _, pos := _, after := _, guard := _ }) (v := ?_) rfl (by kernel_rfl) (by kernel_rfl) (by kernel_rfl) (fun _ _ _ h => h) (Or.inl ⟨by rfl, ?_⟩) (by assumption) ?_
    rotate_left
    · intro w' hSw
      try dsimp only at hSw
      go_simp
      try with_reducible rfl
    try simp only [Act.put, List.setIfInBounds_toArray, List.set_cons_zero, List.set_cons_succ]
    refine wpAnyH_take (i := 28) (oi := { dst := some 86, op := _, type := _, pos := _, after := _, guard := _ }) (v := ?_) rfl (by kernel_rfl) (by kernel_rfl) (by kernel_rfl) (fun _ _ _ h => h) (Or.inl ⟨by rfl, ?_⟩) (by assumption) ?_
    rotate_left
    · intro w' hSw
      try dsimp only at hSw
      go_simp
      try with_reducible rfl
    try simp only [Act.put, List.setIfInBounds_toArray, List.set_cons_zero, List.set_cons_succ]
    refine wpAnyH_take (i := 29) (oi := { dst := some 87, op := _, type := _, pos := _, after := _, guard := _ }) (v := ?_) rfl (by kernel_rfl) (by kernel_rfl) (by kernel_rfl) (fun _ _ _ h => h) (Or.inl ⟨by rfl, ?_⟩) (by assumption) ?_
    rotate_left
    · intro w' hSw
      try dsimp only at hSw
      go_simp
      try with_reducible rfl
    try simp only [Act.put, List.setIfInBounds_toArray, List.set_cons_zero, List.set_cons_succ]
    refine wpAnyH_take (i := 30) (oi := { dst := some 88, op := _, type := _, pos := _, after := _, guard := _ }) (v := ?_) rfl (by kernel_rfl) (by kernel_rfl) (by kernel_rfl) (fun _ _ _ h => h) (Or.inl ⟨by rfl, ?_⟩) (by assumption) ?_
    rotate_left
    · intro w' hSw
      try dsimp only at hSw
      go_simp
      try with_reducible rfl
    try simp only [Act.put, List.setIfInBounds_toArray, List.set_cons_zero, List.set_cons_succ]
    refine wpAnyH_take (i := 31) (oi := { dst := some 89, op := _, type := _, pos := _, after := _, guard := _ }) (v := ?_) rfl (by kernel_rfl) (by kernel_rfl) (by kernel_rfl) (fun _ _ _ h => h) (Or.inl ⟨by rfl, ?_⟩) (by assumption) ?_
    rotate_left
    · intro w' hSw
      try dsimp only at hSw
      go_simp
      try with_reducible rfl
    try simp only [Act.put, List.setIfInBounds_toArray, List.set_cons_zero, List.set_cons_succ]
    refine wpAnyH_take (i := 32) (oi := { dst := some 90, op := _, type := _, pos := _, after := _, guard := _ }) (v := ?_) rfl (by kernel_rfl) (by kernel_rfl) (by kernel_rfl) (fun _ _ _ h => h) (Or.inl ⟨by rfl, ?_⟩) (by assumption) ?_
    rotate_left
    · intro w' hSw
      try dsimp only at hSw
      go_simp
      try with_reducible rfl
    try simp only [Act.put, List.setIfInBounds_toArray, List.set_cons_zero, List.set_cons_succ]
    refine wpAnyH_take (i := 33) (oi := { dst := some 91, op := _, type := _, pos := _, after := _, guard := _ }) (v := ?_) rfl (by kernel_rfl) (by kernel_rfl) (by kernel_rfl) (fun _ _ _ h => h) (Or.inl ⟨by rfl, ?_⟩) (by assumption) ?_
    rotate_left
    · intro w' hSw
      try dsimp only at hSw
      go_simp
      try with_reducible rfl
    try simp only [Act.put, List.setIfInBounds_toArray, List.set_cons_zero, List.set_cons_succ]
    refine wpAnyH_take (i := 34) (oi := { dst := some 92, op := _, type := _, pos := _, after := _, guard := _ }) (v := ?_) rfl (by kernel_rfl) (by kernel_rfl) (by kernel_rfl) (fun _ _ _ h => h) (Or.inl ⟨by rfl, ?_⟩) (by assumption) ?_
    rotate_left
    · intro w' hSw
      try dsimp only at hSw
      go_simp
      try with_reducible rfl
    try simp only [Act.put, List.setIfInBounds_toArray, List.set_cons_zero, List.set_cons_succ]
    refine wpAnyH_take (i := 35) (oi := { dst := some 93, op := _, type := _, pos := _, after := _, guard := _ }) (v := ?_) rfl (by kernel_rfl) (by kernel_rfl) (by kernel_rfl) (fun _ _ _ h => h) (Or.inl ⟨by rfl, ?_⟩) (by assumption) ?_
    rotate_left
    · intro w' hSw
      try dsimp only at hSw
      go_simp
      try with_reducible rfl
    try simp only [Act.put, List.setIfInBounds_toArray, List.set_cons_zero, List.set_cons_succ]
    refine wpAnyH_take (i := 36) (oi := { dst := some 94, op := _, type := _, pos := _, after := _, guard := _ }) (v := ?_) rfl (by kernel_rfl) (by kernel_rfl) (by kernel_rfl) (fun _ _ _ h => h) (Or.inl ⟨by rfl, ?_⟩) (by assumption) ?_
    rotate_left
    · intro w' hSw
      try dsimp only at hSw
      go_simp
      try with_reducible rfl
    try simp only [Act.put, List.setIfInBounds_toArray, List.set_cons_zero, List.set_cons_succ]
    refine wpAnyH_ready (rs := [37]) (by kernel_rfl) (by simp) ?_
    refine AllReadyH.cons (o := { dst := some 95, op := _, type := _, pos := _, after := _, guard := _ }) rfl (fun K hK => ?_) AllReadyH.nil
    go_simp
    go_at_call 14
    refine (aHead0 _).mono ?_
    rintro e Wz ⟨rfl, hb9⟩
    try go_wp2_with fail
    have hbx := hb9
    have HGz := Lib.hid (HGy.out.below HGy.out.lt hbx)
    have HPz := Lib.hid (HPy.out.below HPy.out.lt hbx)
    have HXz := Lib.hid (HXy.out.below HXy.out.lt hbx)
    have HBz := Lib.hid (HBy.out.trans (hbx.mono HBy.out.size))
    have HIz := Lib.hid (HIy.out.below hbx)
    have HJz := Lib.hid (HJy.out.below hbx)
    have HCz := Lib.hid (HCy.out.below hbx)
    have HDz := Lib.hid (HDy.out.below hbx)
    clear hbx
    clear hb9
    refine hK.out _ _ ?_ (fun hHeld => ?_)
    · exact ⟨HGz.out.cell 0, HGz.out.cell 1, HGz.out.cell 2, HGz.out.cell 3, HPz.out.cell 0, HPz.out.cell 1, HPz.out.cell 2, HPz.out.cell 3, HPz.out.cell 4, HPz.out.cell 5, HXz.out.cell 0, HXz.out.cell 1, HXz.out.cell 2, HXz.out.cell 3, HXz.out.cell 4, HXz.out.cell 5⟩
    clear hK K
    try simp only [Act.put, List.setIfInBounds_toArray, List.set_cons_zero, List.set_cons_succ]
    refine wpAnyH_take (i := 38) (oi := { dst := some 96, op := _, type := _, pos := _, after := _, guard := _ }) (v := ?_) rfl (by kernel_rfl) (by kernel_rfl) (by kernel_rfl) (fun _ _ _ h => h) (Or.inl ⟨by rfl, ?_⟩) (by assumption) ?_
    rotate_left
    · intro w' hSw
      try dsimp only at hSw
      go_simp
      try with_reducible rfl
    try simp only [Act.put, List.setIfInBounds_toArray, List.set_cons_zero, List.set_cons_succ]
    refine wpAnyH_take (i := 39) (oi := { dst := some 97, op := _, type := _, pos := _, after := _, guard := _ }) (v := ?_) rfl (by kernel_rfl) (by kernel_rfl) (by kernel_rfl) (fun _ _ _ h => h) (Or.inl ⟨by rfl, ?_⟩) (by assumption) ?_
    rotate_left
    · intro w' hSw
      try dsimp only at hSw
      go_simp
      try with_reducible rfl
    try simp only [Act.put, List.setIfInBounds_toArray, List.set_cons_zero, List.set_cons_succ]
    refine wpAnyH_take (i := 40) (oi := { dst := some 0, op := _, type := _, pos := _, after := _, guard := _ }) (v := ?_) rfl (by kernel_rfl) (by kernel_rfl) (by kernel_rfl) (fun _ _ _ h => h) (Or.inl ⟨by rfl, ?_⟩) (by assumption) ?_
    rotate_left
    · intro w' hSw
      try dsimp only at hSw
      go_simp
      try with_reducible rfl
    try simp only [Act.put, List.setIfInBounds_toArray, List.set_cons_zero]
    refine wpAnyH_done (by kernel_rfl) ?_ _
    go_wp2
    go_ret
    exact ⟨rfl, HBz.out⟩
end Go.Proofs.YtbgdoemealddpaaDoor
