/-
  SPAN: put where a new volume is begun. Conditions: a writer of right volumes; from one byte to as many as a volume has.
-/
import Derived.Test.YtkijagodedmipaaSpe
namespace Go.Proofs.Ytkijagodedmipaa
open Go.RowKit
set_option maxRecDepth 100000
set_option linter.unusedVariables false

theorem vrow_upd_new (v : Vs) (b : List F) {r : Nat} (hr : r < v.P.length + 1 + 1) : vrow ⟨v.P ++ [v.q], b⟩ r = upd (upd (vrow v) (v.P.length + 1) []) (v.P.length + 1) b r := by
  rcases (show r < v.P.length + 1 ∨ r = v.P.length + 1 by omega) with h1 | h1
  · rw [upd_ne _ _ (by omega), upd_ne _ _ (by omega)]
    exact vrow_new v.P v.q b h1
  · subst h1
    rw [upd_at]
    have := vrow_last ⟨v.P ++ [v.q], b⟩
    simpa using this
theorem KeepF.drew {Fp : Nat → Prop} {w w' : World} (h : KeepF Fp w w') : KeepF Fp w w'.drew := ⟨h.os, h.tape, h.output, h.size, h.block⟩
theorem Row.blk {w w' : World} {A : Option Addr} {n : Nat} {l : List F} (h : Row w A n l) (hs : w.heap.size ≤ w'.heap.size) (hb : ∀ b o, A = some ⟨b, o, none⟩ → b < w.heap.size → w'.heap[b]? = w.heap[b]?) : Row w' A n l :=
  ⟨h.1, h.2.1, fun hn => by
    obtain ⟨b, off, e, hl, hc⟩ := h.2.2 hn
    exact ⟨b, off, e, by omega, fun i hi => (World.cell?_of_block (a := ⟨b, off + i, none⟩) (hb b off e hl)).trans (hc i hi)⟩⟩
set_option maxHeartbeats 4000000 in
theorem put_new {w : World} {base p S n c : Nat} {v : Vs} {Fp : Nat → Prop} {B : Option Addr} {b : List F} (h : Spw w base p S v Fp) (hv : VOk S v) (hS : S ≤ 16777216) (hm : v.P.length ≤ 1000000) (hb : Row w B n b) (h1 : 1 ≤ n) (hnS : n ≤ S) (hf : ¬ v.q.length + n ≤ S) (hBn : ∀ x o, B = some ⟨x, o, none⟩ → ¬ Fp x) :
    Calls Try.prog 26 #[.pointer (some ⟨p, 0, none⟩), .slice B n c] w fun e w' => PtR w base p S v Fp b e w' := by
  obtain ⟨i0, hi, hz0, hz1, hz2⟩ := info_parts info_u8
  obtain ⟨i1, hj, hy0, hy1, hy2⟩ := info_parts info_bsE
  obtain ⟨g, cT, RA, RC, hT⟩ := h
  have hlen := hb.len
  have hat : vat S v b.length = (v.P.length + 1, 0) := if_neg (by omega)
  have hput : vput S v b = ⟨v.P ++ [v.q], b⟩ := if_neg (by omega)
  have HAT := Lib.hid hat
  have HPUT := Lib.hid hput
  have hq1 := hv.q1
  have hqS := hv.qS
  have hS1 : 1 ≤ S := by omega
  have hb0 := (Below.refl w.heap.size w).alloc (Nat.le_refl _) (.cells (plC 0 0) 37)
  have hT0 := hT.below hb0
  have hR0 := hb.below hb0
  have hx0 : (w.alloc (.cells (plC 0 0) 37)).cell? ⟨g, v.P.length, none⟩ = some (.slice (RA v.P.length) v.q.length (RC v.P.length)) := by
    have := hT0.cell (r := v.P.length) (by omega)
    rw [vrow_last] at this
    exact this
  have hN := Next_c (x := (n : Int)) hT0.blk hx0 hT0.glt hS (by omega) hS1 hqS (by simp [Lit.wf, IntKind.min, IntKind.max, IntKind.bits, IntKind.signed]; omega)
  have HT0 := Lib.hid hT0
  have HR0 := Lib.hid hR0
  have HB0 := Lib.hid hb0
  have HN := Lib.hid hN
  have HT := Lib.hid hT
  have HLEN := Lib.hid hlen
  have HFN := Lib.hid hf
  clear hN hT0 hR0 hb0 hx0 hT hat hput hlen hb hf
  unfold plC at *
  go_enter Try.func26, Try.ntmps26
  go_wp2_with fail
  refine HN.out.mono ?_
  rintro e w1 ⟨d, o, rfl, hs, hb1⟩
  have hdo : d = v.P.length + 1 ∧ o = 0 := by
    have := HFN.out
    rcases hs with ⟨e1, _⟩ | ⟨_, e1, e2⟩
    · omega
    · exact ⟨e1, e2⟩
  have HD := Lib.hid hdo
  have hd0 : d ≤ 1000001 := by omega
  clear hs hdo
  unfold plV plC
  go_wp2_with fail
  have hba := (Below.refl w1.heap.size w1).alloc (Nat.le_refl _) (.cells #[.int .i64 (d : Int), .int .i64 (o : Int)] 37)
  have hT2 := (HT0.out.below hb1).below hba
  have hR2 := (HR0.out.below hb1).below hba
  have hK5 := Blk.new w1 37 #[.int .i64 (d : Int), .int .i64 (o : Int)]
  have hK4 := ((Blk.new w 37 #[.int .i64 0, .int .i64 0]).below (Blk.new w _ _).lt hb1).below (((Blk.new w _ _).below (Blk.new w _ _).lt hb1).lt) hba
  have hB1 := HB0.out.trans (hb1.mono HB0.out.size)
  have hB2 := hB1.trans (hba.mono hB1.size)
  have hsz : w.heap.size < w1.heap.size := by have := hb1.size; simp at this; omega
  have hq5 : w1.heap.size < (w1.alloc (.cells #[.int .i64 (d : Int), .int .i64 (o : Int)] 37)).heap.size := by simp
  have hpw := HT.out.plt
  have hgw := HT.out.glt
  have hfp5 : ∀ k, Fp k → k < w.heap.size := fun k hk => (HT.out.sub k hk).2
  rw [← HD.out.1] at hT2
  have HB2 := Lib.hid hB2
  have HT2 := Lib.hid hT2
  have HR2 := Lib.hid hR2
  have HK5 := Lib.hid hK5
  have HK4 := Lib.hid hK4
  have HF := Lib.hid hfp5
  clear hB1 hB2 hT2 hR2 hK5 hK4 hba hb1 HB0 HT0 HR0 HN hfp5
  generalize w1.alloc (.cells #[.int .i64 (d : Int), .int .i64 (o : Int)] 37) = W2 at *
  generalize w1.heap.size = q5 at *
  have z5 : W2.cell? ⟨q5, 0, none⟩ = some (.int .i64 d) := HK5.out.cell 0
  have zp : W2.cell? ⟨p, 1, none⟩ = some (.slice (some ⟨g, 0, none⟩) d cT) := HT2.out.blk.cell 1
  go_region_held3 (fun W' => W'.cell? ⟨q5, 0, none⟩ = some (.int .i64 d) ∧ W'.cell? ⟨p, 1, none⟩ = some (.slice (some ⟨g, 0, none⟩) d cT)) (go_keep) (fail)
  obtain ⟨b1, o1, rfl, _, _⟩ := HR2.out.at_ (k := 0) (by omega)
  have hgp := HT.out.pg
  have hTA := HT2.out.below ((Below.refl W2.heap.size W2).alloc (Nat.le_refl _) (.cells #[.slice none 0 0] 33))
  have HTA := Lib.hid hTA
  have HBASE0 : Hid (base ≤ W2.heap.size + 1) := by have := HT2.out.sub p HT2.out.fp; unfold Hid; omega
  have yp0 : (W2.alloc (.cells #[.slice none 0 0] 33)).cell? ⟨p, 1, none⟩ = some (.slice (some ⟨g, 0, none⟩) d cT) := HTA.out.blk.cell 1
  clear hTA
  go_wp2_with (at_builtin; refine wpList_append_lies _ rfl _ _ 29 rfl base 33 i1 (.slice none 0 0) 1 24 Try.underlying29 hj hy0 hy1 hy2 rfl (by decide) (.slice (some ⟨g, 0, none⟩) d cT) d (rcs RA (vrow v) RC d) rfl HTA.out.drew.tab ⟨W2.heap.size, 0, none⟩ 1 1 [.slice none 0 0] rfl rfl (one_cell W2 _ _) (by intro u hu; simp at hu; subst hu; rfl) (by decide) (by unfold maxLen; omega) (by omega) (by simp; exact HBASE0.out) (W2.heap.size + 1) (by simp) ?_; intro g3 c3 w3 hown3 hg3 hat3 hlt3; have yp3 : w3.cell? ⟨p, 1, none⟩ = some (.slice (some ⟨g, 0, none⟩) d cT) := hg3.cell yp0 (fun e => by injection e with e; exact hgp e.symm); have yf3 : w3.frozen? ⟨p, 1, none⟩ = false := (World.frozen?_of_block (hg3.block p (by simp; omega) (fun e => by injection e with e; exact hgp e.symm))).trans (HTA.out.blk.frozen 1))
  have hk3 : KeepF (fun k => k = g) (W2.alloc (.cells #[.slice none 0 0] 33)).drew w3 := ⟨hg3.os, hg3.tape, hg3.output, hg3.size, fun k hk hn => hg3.block k hk (fun e => by injection e with e; exact hn e)⟩
  have hT3 := HTA.out.drew.more (by simp : (W2.alloc (.cells #[.slice none 0 0] 33)).drew.heap.size ≤ W2.heap.size + 1) hown3 hk3 (hat3.imp (fun e => by injection e) id) hlt3
  have hK53 := ((((HK5.out.below HK5.out.lt ((Below.refl W2.heap.size W2).alloc (Nat.le_refl _) (.cells #[.slice none 0 0] 33))).drew).kept hg3 ⟨by simp; omega, fun e => by injection e with e; have e2 : g = _ := e; omega⟩).setOther (a := ⟨p, 1, none⟩) (by simp; omega) (.slice (some ⟨g3, 0, none⟩) (d + 1) c3))
  have hK43 := ((((HK4.out.below HK4.out.lt ((Below.refl W2.heap.size W2).alloc (Nat.le_refl _) (.cells #[.slice none 0 0] 33))).drew).kept hg3 ⟨by simp; omega, fun e => by injection e with e; have e2 : g = _ := e; omega⟩).setOther (a := ⟨p, 1, none⟩) (by simp; omega) (.slice (some ⟨g3, 0, none⟩) (d + 1) c3))
  have hKA := (KeepF.ofBelow (Fp := Fp) ((HB2.out.alloc HB2.out.size (.cells #[.slice none 0 0] 33)).drew))
  have hKF3 := (hKA.trans hk3 (fun i _ e => by subst e; exact HT.out.fg)).setCell (a := ⟨p, 1, none⟩) (fun _ => HT.out.fp) (.slice (some ⟨g3, 0, none⟩) (d + 1) c3)
  have hbn := hBn b1 o1 rfl
  have hR3 : Row (w3.setCell ⟨p, 1, none⟩ (.slice (some ⟨g3, 0, none⟩) (d + 1) c3)) (some ⟨b1, o1, none⟩) n b := by
    refine HR2.out.blk (by have := hg3.size; simp [World.setCell] at this ⊢; omega) fun x o e hx => ?_
    injection e with e
    injection e with e1 e2 e3
    subst e1
    rw [Below.heap_setCell _ _ _ _ (fun e => hbn (by rw [e]; exact HT.out.fp)), hk3.block _ (by simp; omega) (fun e => hbn (by rw [e]; exact HT.out.fg))]
    exact Below.heap_alloc _ _ _ hx
  have hsz3 : W2.heap.size < (w3.setCell ⟨p, 1, none⟩ (.slice (some ⟨g3, 0, none⟩) (d + 1) c3)).heap.size := by have := hg3.size; simp [World.setCell] at this ⊢; omega
  have hg3b : W2.heap.size < g3 ∨ g3 = g := hat3.elim (fun e => by injection e with e; exact .inr e.symm) (fun e => .inl (by omega))
  have HT3 := Lib.hid hT3
  have HK53 := Lib.hid hK53
  have HK43 := Lib.hid hK43
  have HKF3 := Lib.hid hKF3
  have HR3 := Lib.hid hR3
  have HG3 := Lib.hid hg3b
  have hF3 : ∀ k, Fgrow Fp (W2.alloc (.cells #[.slice none 0 0] 33)).drew.heap.size w3.heap.size k → k < w.heap.size ∨ W2.heap.size < k := fun k hk => by
    rcases hk with hk | hk
    · exact .inl (HF.out k hk)
    · simp at hk; omega
  have HF3 := Lib.hid hF3
  have HSW3 : Hid ((w3.setCell ⟨p, 1, none⟩ (.slice (some ⟨g3, 0, none⟩) (d + 1) c3)).heap.size = w3.heap.size) := by simp [Hid, World.setCell]
  have HA2 : Hid ((W2.alloc (.cells #[.slice none 0 0] 33)).drew.heap.size = W2.heap.size + 1) := by simp [Hid]
  clear hk3 hT3 hK53 hK43 hKA hKF3 hR3 hg3b hF3 hown3 hg3 hat3 yp3 yf3 HK5 HK4 HTA HR2 yp0 z5 zp
  generalize w3.setCell ⟨p, 1, none⟩ (.slice (some ⟨g3, 0, none⟩) (d + 1) c3) = W3 at *
  generalize w3.heap.size = s3 at *
  generalize (W2.alloc (.cells #[.slice none 0 0] 33)).drew.heap.size = a2 at *
  have z5 : W3.cell? ⟨q5, 0, none⟩ = some (.int .i64 d) := HK53.out.cell 0
  have zp : W3.cell? ⟨p, 1, none⟩ = some (.slice (some ⟨g3, 0, none⟩) (d + 1) c3) := HT3.out.blk.cell 1
  have zg : W3.cell? ⟨g3, d, none⟩ = some (.slice none 0 0) := by
    have := HT3.out.cell (r := d) (by omega)
    rw [upd_at, upd_at, upd_at] at this
    exact this
  have hg3p := HT3.out.pg
  have hg3l := HT3.out.glt
  have hp3l := HT3.out.plt
  have ix1 : (0 : Int) ≤ d := by omega
  have ix2 : (d : Int) < (d : Int) + 1 := by omega
  have HCELLS := Lib.hid HR3.out.cells
  have HBASE : Hid (base ≤ W3.heap.size) := by have := (HT3.out.sub p HT3.out.fp); unfold Hid; omega
  go_wp2_with fail
  refine wp_region_held_drew (S := fun W' => W'.cell? ⟨q5, 0, none⟩ = some (.int .i64 d) ∧ W'.cell? ⟨p, 1, none⟩ = some (.slice (some ⟨g3, 0, none⟩) (d + 1) c3)) (by kernel_rfl) ?_ (fun hHeld => ?_)
  · go_keep
  refine wpAnyH_take (i := 0) (oi := { dst := some 27, op := _, type := _, pos := _, after := _, guard := _ }) (v := ?_) rfl (by kernel_rfl) (by kernel_rfl) (by kernel_rfl) (fun _ _ _ h => h) (Or.inl ⟨by rfl, ?_⟩) (by assumption) ?_
  rotate_left
  · intro w' hSw
    try dsimp only at hSw
    go_simp
    try with_reducible rfl
  try simp only [Act.put, List.setIfInBounds_toArray, List.set_cons_zero, List.set_cons_succ]
  refine wpAnyH_take (i := 1) (oi := { dst := some 28, op := _, type := _, pos := _, after := _, guard := _ }) (v := ?_) rfl (by kernel_rfl) (by kernel_rfl) (by kernel_rfl) (fun _ _ _ h => h) (Or.inl ⟨by rfl, ?_⟩) (by assumption) ?_
  rotate_left
  · intro w' hSw
    try dsimp only at hSw
    go_simp
    try with_reducible rfl
  try simp only [Act.put, List.setIfInBounds_toArray, List.set_cons_zero, List.set_cons_succ]
  refine wpAnyH_take (i := 2) (oi := { dst := some 29, op := _, type := _, pos := _, after := _, guard := _ }) (v := ?_) rfl (by kernel_rfl) (by kernel_rfl) (by kernel_rfl) (fun _ _ _ h => h) (Or.inl ⟨by rfl, ?_⟩) (by assumption) ?_
  rotate_left
  · intro w' hSw
    try dsimp only at hSw
    go_simp
    try with_reducible rfl
  try simp only [Act.put, List.setIfInBounds_toArray, List.set_cons_zero, List.set_cons_succ]
  refine wpAnyH_take (i := 3) (oi := { dst := some 30, op := _, type := _, pos := _, after := _, guard := _ }) (v := ?_) rfl (by kernel_rfl) (by kernel_rfl) (by kernel_rfl) (fun _ _ _ h => h) (Or.inl ⟨by rfl, ?_⟩) (by assumption) ?_
  rotate_left
  · intro w' hSw
    try dsimp only at hSw
    go_simp
    try with_reducible rfl
  try simp only [Act.put, List.setIfInBounds_toArray, List.set_cons_zero, List.set_cons_succ]
  refine wpAnyH_take (i := 4) (oi := { dst := some 31, op := _, type := _, pos := _, after := _, guard := _ }) (v := ?_) rfl (by kernel_rfl) (by kernel_rfl) (by kernel_rfl) (fun _ _ _ h => h) (Or.inl ⟨by rfl, ?_⟩) (by assumption) ?_
  rotate_left
  · intro w' hSw
    try dsimp only at hSw
    go_simp
    try with_reducible rfl
  try simp only [Act.put, List.setIfInBounds_toArray, List.set_cons_zero, List.set_cons_succ]
  refine wpAnyH_take (i := 5) (oi := { dst := some 32, op := _, type := _, pos := _, after := _, guard := _ }) (v := ?_) rfl (by kernel_rfl) (by kernel_rfl) (by kernel_rfl) (fun _ _ _ h => h) (Or.inl ⟨by rfl, ?_⟩) (by assumption) ?_
  rotate_left
  · intro w' hSw
    try dsimp only at hSw
    go_simp
    try with_reducible rfl
  try simp only [Act.put, List.setIfInBounds_toArray, List.set_cons_zero, List.set_cons_succ]
  refine wpAnyH_take (i := 6) (oi := { dst := some 33, op := _, type := _, pos := _, after := _, guard := _ }) (v := ?_) rfl (by kernel_rfl) (by kernel_rfl) (by kernel_rfl) (fun _ _ _ h => h) (Or.inl ⟨by rfl, ?_⟩) (by assumption) ?_
  rotate_left
  · intro w' hSw
    try dsimp only at hSw
    go_simp
    try with_reducible rfl
  try simp only [Act.put, List.setIfInBounds_toArray, List.set_cons_zero, List.set_cons_succ]
  refine wpAnyH_take (i := 7) (oi := { dst := some 34, op := _, type := _, pos := _, after := _, guard := _ }) (v := ?_) rfl (by kernel_rfl) (by kernel_rfl) (by kernel_rfl) (fun _ _ _ h => h) (Or.inl ⟨by rfl, ?_⟩) (by assumption) ?_
  rotate_left
  · intro w' hSw
    try dsimp only at hSw
    go_simp
    try with_reducible rfl
  try simp only [Act.put, List.setIfInBounds_toArray, List.set_cons_zero, List.set_cons_succ]
  refine wpAnyH_take (i := 8) (oi := { dst := some 35, op := _, type := _, pos := _, after := _, guard := _ }) (v := ?_) rfl (by kernel_rfl) (by kernel_rfl) (by kernel_rfl) (fun _ _ _ h => h) (Or.inl ⟨by rfl, ?_⟩) (by assumption) ?_
  rotate_left
  · intro w' hSw
    try dsimp only at hSw
    go_simp
    try with_reducible rfl
  try simp only [Act.put, List.setIfInBounds_toArray, List.set_cons_zero, List.set_cons_succ]
  refine wpAnyH_take (i := 9) (oi := { dst := some 36, op := _, type := _, pos := _, after := _, guard := _ }) (v := ?_) rfl (by kernel_rfl) (by kernel_rfl) (by kernel_rfl) (fun _ _ _ h => h) (Or.inl ⟨by rfl, ?_⟩) (by assumption) ?_
  rotate_left
  · intro w' hSw
    try dsimp only at hSw
    go_simp
    try with_reducible rfl
  try simp only [Act.put, List.setIfInBounds_toArray, List.set_cons_zero, List.set_cons_succ]
  refine wpAnyH_take (i := 10) (oi := { dst := some 37, op := _, type := _, pos := _, after := _, guard := _ }) (v := ?_) rfl (by kernel_rfl) (by kernel_rfl) (by kernel_rfl) (fun _ _ _ h => h) (Or.inl ⟨by rfl, ?_⟩) (by assumption) ?_
  rotate_left
  · intro w' hSw
    try dsimp only at hSw
    go_simp
    try with_reducible rfl
  try simp only [Act.put, List.setIfInBounds_toArray, List.set_cons_zero, List.set_cons_succ]
  refine wpAnyH_take (i := 11) (oi := { dst := some 38, op := _, type := _, pos := _, after := _, guard := _ }) (v := ?_) rfl (by kernel_rfl) (by kernel_rfl) (by kernel_rfl) (fun _ _ _ h => h) (Or.inl ⟨by rfl, ?_⟩) (by assumption) ?_
  rotate_left
  · intro w' hSw
    try dsimp only at hSw
    go_simp
    try with_reducible rfl
  try simp only [Act.put, List.setIfInBounds_toArray, List.set_cons_zero, List.set_cons_succ]
  refine wpAnyH_take (i := 12) (oi := { dst := some 39, op := _, type := _, pos := _, after := _, guard := _ }) (v := ?_) rfl (by kernel_rfl) (by kernel_rfl) (by kernel_rfl) (fun _ _ _ h => h) (Or.inl ⟨by rfl, ?_⟩) (by assumption) ?_
  rotate_left
  · intro w' hSw
    try dsimp only at hSw
    go_simp
    try with_reducible rfl
  try simp only [Act.put, List.setIfInBounds_toArray, List.set_cons_zero, List.set_cons_succ]
  refine wpAnyH_take (i := 14) (oi := { dst := some 41, op := _, type := _, pos := _, after := _, guard := _ }) (v := ?_) rfl (by kernel_rfl) (by kernel_rfl) (by kernel_rfl) (fun _ _ _ h => h) (Or.inl ⟨by rfl, ?_⟩) (by assumption) ?_
  rotate_left
  · intro w' hSw
    try dsimp only at hSw
    go_simp
    try with_reducible rfl
  try simp only [Act.put, List.setIfInBounds_toArray, List.set_cons_zero, List.set_cons_succ]
  refine wpAnyH_ready (rs := [13]) (by kernel_rfl) (by simp) ?_
  refine AllReadyH.cons (o := { dst := some 40, op := _, type := _, pos := _, after := _, guard := _ }) rfl (fun K hK => ?_) AllReadyH.nil
  go_simp
  try go_wp2_with fail
  refine hK.out _ _ ?_ (fun hHeld => ?_)
  · exact hHeld
  clear hK K
  try simp only [Act.put, List.setIfInBounds_toArray, List.set_cons_zero, List.set_cons_succ]
  refine wpAnyH_ready (rs := [15]) (by kernel_rfl) (by simp) ?_
  refine AllReadyH.cons (o := { dst := some 42, op := _, type := _, pos := _, after := _, guard := _ }) rfl (fun K hK => ?_) AllReadyH.nil
  refine step_append_lies _ (by rfl) (.tmp 40) (.tmp 41) 33 (by rfl) base 5 i0 (.int .u8 0) 1 1 Try.underlying33 hi hz0 hz1 hz2 rfl (by decide) (.slice none 0 0) 0 [] (by rfl) (World.ownsRow_nil _ _ _ _) ⟨b1, o1, none⟩ n c (cs b) (by rfl) (by rw [cs_length, HLEN.out, Nat.mul_one]) HCELLS.out (cs_one b) (by omega) (by unfold maxLen; omega) (by omega) HBASE.out W3.heap.size (by rfl) ?_
  intro gg cap' w5 hown5 hg5 hat5 hlt5
  rw [Nat.zero_add, List.nil_append] at hown5
  rw [Nat.zero_add]
  have y5 : w5.cell? ⟨q5, 0, none⟩ = some (.int .i64 d) := hg5.cell z5 (fun e => by cases e)
  have yp : w5.cell? ⟨p, 1, none⟩ = some (.slice (some ⟨g3, 0, none⟩) (d + 1) c3) := hg5.cell zp (fun e => by cases e)
  have yg : w5.cell? ⟨g3, d, none⟩ = some (.slice none 0 0) := hg5.cell zg (fun e => by cases e)
  have yf : w5.frozen? ⟨g3, d, none⟩ = false := (World.frozen?_of_block (hg5.block g3 (by show g3 < W3.heap.size; omega) (fun e => by cases e))).trans (HT3.out.tab.frozenAt d)
  refine hK.out _ _ ?_ (fun hHeld => ?_)
  · exact ⟨y5, yp⟩
  clear hK K
  try simp only [Act.put, List.setIfInBounds_toArray, List.set_cons_zero, List.set_cons_succ]
  refine wpAnyH_take (i := 16) (oi := { dst := some 43, op := _, type := _, pos := _, after := _, guard := _ }) (v := ?_) rfl (by kernel_rfl) (by kernel_rfl) (by kernel_rfl) (fun _ _ _ h => h) (Or.inl ⟨by rfl, ?_⟩) (by assumption) ?_
  rotate_left
  · intro w' hSw
    try dsimp only at hSw
    go_simp
    try with_reducible rfl
  try simp only [Act.put, List.setIfInBounds_toArray, List.set_cons_zero, List.set_cons_succ]
  refine wpAnyH_ready (rs := [17]) (by kernel_rfl) (by simp) ?_
  refine AllReadyH.cons (o := { dst := none, op := _, type := _, pos := _, after := _, guard := _ }) rfl (fun K hK => ?_) AllReadyH.nil
  go_simp
  try go_wp2_with fail
  refine hK.out _ _ ?_ (fun hHeld => ?_)
  · exact ⟨(World.cell?_of_block (Below.heap_setCell _ _ _ _ (by have := HG3.out; simp; omega))).trans y5, (World.cell?_of_block (Below.heap_setCell _ _ _ _ (fun e => hg3p e.symm))).trans yp⟩
  clear hK K
  try simp only [Act.put, List.setIfInBounds_toArray, List.set_cons_zero, List.set_cons_succ]
  refine wpAnyH_done (by kernel_rfl) ?_ _
  have hg6 : W3.drew.grownBy w5 (obk (upd RA d none d)) := by rw [upd_at]; exact hg5
  have hS9 := HT3.out.drew.app (l := d) rfl (A' := some ⟨gg, 0, none⟩) (c' := cap') (b := b) (w1 := w5) (by rw [HLEN.out]; exact hown5) hg6 (fun k hk => by
    injection hk with hk
    subst hk
    rcases hat5 with e | e
    · cases e
    · right; exact Nat.le_of_eq e.symm)
  have hKF := HKF3.out.drew.trans (Fq := Fgrow Fp a2 s3) (HT3.out.drew.app_keep (l := d) rfl hg6 (.slice (some ⟨gg, 0, none⟩) n cap')) (fun i hi h => by
    rcases h with h | h
    · exact h
    · have := HA2.out; omega)
  rw [HLEN.out] at hS9
  have hb5 : w5.heap[q5]? = W3.heap[q5]? := hg5.block q5 (by show q5 < W3.heap.size; omega) (fun e => by cases e)
  have hb4 : w5.heap[w.heap.size]? = W3.heap[w.heap.size]? := hg5.block w.heap.size (by show _ < W3.heap.size; omega) (fun e => by cases e)
  have k5 : Blk w5 q5 37 #[.int .i64 (d : Int), .int .i64 (o : Int)] := hb5.trans HK53.out
  have k4 : Blk w5 w.heap.size 37 #[.int .i64 0, .int .i64 0] := hb4.trans HK43.out
  have hgn := HG3.out
  have k5' := k5.setOther (a := ⟨g3, d, none⟩) (by simp; omega) (.slice (some ⟨gg, 0, none⟩) n cap')
  have k4' := k4.setOther (a := ⟨g3, d, none⟩) (by simp; omega) (.slice (some ⟨gg, 0, none⟩) n cap')
  have hS10 : Spw (w5.setCell ⟨g3, d, none⟩ (.slice (some ⟨gg, 0, none⟩) n cap')) base p S ⟨v.P ++ [v.q], b⟩ (Fgrow (Fgrow Fp a2 s3) W3.heap.size w5.heap.size) := by
    have e : (Vs.mk (v.P ++ [v.q]) b).P.length + 1 = d + 1 := by rw [HD.out.1]; simp
    refine ⟨g3, c3, upd (upd RA d none) d (some ⟨gg, 0, none⟩), upd (upd RC d 0) d cap', ?_⟩
    rw [e]
    refine hS9.congr fun r hr => ?_
    rw [HD.out.1] at hr ⊢
    exact vrow_upd_new v b hr
  have hs9 : (w5.setCell ⟨g3, d, none⟩ (.slice (some ⟨gg, 0, none⟩) n cap')).heap.size = w5.heap.size := by simp [World.setCell]
  have hs5 : W3.heap.size ≤ w5.heap.size := hg5.size
  have HS10 := Lib.hid hS10
  have HKF := Lib.hid hKF
  have HAT2 : Hid (vat S v b.length = (d, o)) := by unfold Hid; rw [HAT.out, HD.out.1, HD.out.2]
  have HBP : Hid (base ≤ p) := (HT.out.sub p HT.out.fp).1
  clear hg6 hS9 hKF hb5 hb4 k5 k4 hS10 hown5 hg5 hat5 hlt5 y5 yp yg yf hHeld
  generalize w5.setCell ⟨g3, d, none⟩ (.slice (some ⟨gg, 0, none⟩) n cap') = W9 at *
  have tl := ld_pl k5' rfl
  have ts := st_pl k4' rfl (plC d o) rfl (by simp [plC, Value.oneCell'])
  have t3 := ld_pl (k4'.setRow (plC d o)) rfl
  unfold plC at ts t3
  go_wp2_with (first
    | (with_reducible refine wpList_load_var q5 _ rfl tl ?_)
    | (with_reducible refine wpList_store_var _ _ _ (by with_unfolding_all rfl) (by with_unfolding_all rfl) ts ?_))
  refine bodyPost_ret (v := .agg #[.int .i64 d, .int .i64 o]) ?_ rfl (PtR.of d o HAT2.out HPUT.out rfl (HKF.out.setRow (Nat.le_refl _) _) ?_)
  · rw [results_cell_oneV rfl]
    simp [asAddr, Result.andThen, Act.put, t3]
  · have ha2 := HA2.out
    have hsw := HSW3.out
    have h1 := HS10.out.setRow (q := w.heap.size) (fun e => by
      rcases e with (e | e) | e
      · exact absurd (HF.out _ e) (by omega)
      · omega
      · omega) #[.int .i64 d, .int .i64 o]
    refine h1.wider (fun k hk => ?_) (fun k hk => ?_)
    · rw [World.size_setRow]
      rcases hk with (hk | hk) | hk
      · exact .inl hk
      · exact .inr ⟨by omega, by omega⟩
      · exact .inr ⟨by omega, by omega⟩
    · rw [World.size_setRow] at hk ⊢
      rcases hk with hk | hk
      · have := HT.out.sub k hk; omega
      · have := HBP.out; omega
theorem put_c {w : World} {base p S n c : Nat} {v : Vs} {Fp : Nat → Prop} {B : Option Addr} {b : List F} (h : Spw w base p S v Fp) (hv : VOk S v) (hS : S ≤ 16777216) (hm : v.P.length ≤ 1000000) (hb : Row w B n b) (h1 : 1 ≤ n) (hnS : n ≤ S) (hBn : ∀ x o, B = some ⟨x, o, none⟩ → ¬ Fp x) :
    Calls Try.prog 26 #[.pointer (some ⟨p, 0, none⟩), .slice B n c] w fun e w' => PtR w base p S v Fp b e w' := by
  by_cases hf : v.q.length + n ≤ S
  · exact put_fits h hv hS hm hb h1 hf
  · exact put_new h hv hS hm hb h1 hnS hf hBn
end Go.Proofs.Ytkijagodedmipaa
