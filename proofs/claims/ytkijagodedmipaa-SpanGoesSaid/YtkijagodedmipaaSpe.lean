/-
  SPAN: put: bytes that fit in a volume are laid in one. Conditions: a writer of right volumes; from one byte to as many as a volume has.
-/
import Derived.Test.YtkijagodedmipaaSpd
namespace Go.Proofs.Ytkijagodedmipaa
open Go.RowKit
set_option maxRecDepth 100000
set_option linter.unusedVariables false

/-- what put answers, and does -/
def PtR (w : World) (base p S : Nat) (v : Vs) (Fp : Nat → Prop) (b : List F) (e : Ending) (w' : World) : Prop :=
  e = .returned (plV (((vat S v b.length).1 : Nat) : Int) (((vat S v b.length).2 : Nat) : Int)) ∧ KeepF Fp w w' ∧ Spw w' base p S (vput S v b) (Fgrow Fp w.heap.size w'.heap.size)
theorem PtR.of {w : World} {base p S : Nat} {v v' : Vs} {Fp : Nat → Prop} {b : List F} {e : Ending} {w' : World} (d o : Nat) (ha : vat S v b.length = (d, o)) (hp : vput S v b = v') (he : e = .returned (plV (d : Int) (o : Int))) (hk : KeepF Fp w w') (hs : Spw w' base p S v' (Fgrow Fp w.heap.size w'.heap.size)) : PtR w base p S v Fp b e w' := by
  unfold PtR
  rw [ha, hp]
  exact ⟨he, hk, hs⟩
theorem KeepF.setRow {Fp : Nat → Prop} {w w' : World} (h : KeepF Fp w w') {g : Nat} (hg : w.heap.size ≤ g) (D : Array Value) : KeepF Fp w (w'.setRow g D) :=
  ⟨h.os, h.tape, h.output, by simpa [World.setRow] using h.size, fun k hk hn => by
    have e : (w'.setRow g D).heap[k]? = w'.heap[k]? := by
      simp [World.setRow, Array.getElem?_modify]
      intro e
      omega
    exact e.trans (h.block k hk hn)⟩
theorem Spt.setRow {w : World} {base p S n g c : Nat} {R : Nat → List F} {Fp : Nat → Prop} {RA : Nat → Option Addr} {RC : Nat → Nat} (h : Spt w base p S n R Fp g c RA RC) {q : Nat} (hq : ¬ Fp q) (D : Array Value) : Spt (w.setRow q D) base p S n R Fp g c RA RC :=
  h.keep (by simp [World.setRow]) fun k hk => by
    simp [World.setRow, Array.getElem?_modify]
    intro e
    subst e
    exact absurd hk hq
theorem Spt.wider {w : World} {base p S n g c : Nat} {R : Nat → List F} {Fp Fq : Nat → Prop} {RA : Nat → Option Addr} {RC : Nat → Nat} (h : Spt w base p S n R Fp g c RA RC) (hq : ∀ k, Fp k → Fq k) (hs : ∀ k, Fq k → base ≤ k ∧ k < w.heap.size) : Spt w base p S n R Fq g c RA RC :=
  ⟨h.blk, h.tab, fun r hr => ⟨(h.rows r hr).1, fun b hb => ⟨hq b ((h.rows r hr).2 b hb).1, ((h.rows r hr).2 b hb).2⟩⟩, hq _ h.fp, hq _ h.fg, h.pg, hs⟩
theorem vrow_upd_fit (v : Vs) (b : List F) {r : Nat} (hr : r < v.P.length + 1) : vrow ⟨v.P, v.q ++ b⟩ r = upd (vrow v) v.P.length (v.q ++ b) r := by
  rcases (show r < v.P.length ∨ r = v.P.length by omega) with h1 | h1
  · rw [upd_ne _ _ (by omega)]
    exact vrow_fit v.P v.q (v.q ++ b) h1
  · subst h1
    rw [upd_at]
    exact vrow_last ⟨v.P, v.q ++ b⟩
theorem Spw.setRow {w : World} {base p S : Nat} {v : Vs} {Fp : Nat → Prop} (h : Spw w base p S v Fp) {q : Nat} (hq : ¬ Fp q) (D : Array Value) : Spw (w.setRow q D) base p S v Fp := by
  obtain ⟨g, c, RA, RC, h⟩ := h
  exact ⟨g, c, RA, RC, h.setRow hq D⟩
theorem Spw.wider {w : World} {base p S : Nat} {v : Vs} {Fp Fq : Nat → Prop} (h : Spw w base p S v Fp) (hq : ∀ k, Fp k → Fq k) (hs : ∀ k, Fq k → base ≤ k ∧ k < w.heap.size) : Spw w base p S v Fq := by
  obtain ⟨g, c, RA, RC, h⟩ := h
  exact ⟨g, c, RA, RC, h.wider hq hs⟩
theorem World.size_setRow (w : World) (g : Nat) (D : Array Value) : (w.setRow g D).heap.size = w.heap.size := by simp [World.setRow]
theorem info_bsE : (Try.prog.info? 33).map (fun i => (i.zero, i.size, i.bytes)) = some (some (.slice none 0 0), 1, 24) := by kernel_rfl
set_option maxHeartbeats 4000000 in
theorem put_fits {w : World} {base p S n c : Nat} {v : Vs} {Fp : Nat → Prop} {B : Option Addr} {b : List F} (h : Spw w base p S v Fp) (hv : VOk S v) (hS : S ≤ 16777216) (hm : v.P.length ≤ 1000000) (hb : Row w B n b) (h1 : 1 ≤ n) (hf : v.q.length + n ≤ S) :
    Calls Try.prog 26 #[.pointer (some ⟨p, 0, none⟩), .slice B n c] w fun e w' => PtR w base p S v Fp b e w' := by
  obtain ⟨i0, hi, hz0, hz1, hz2⟩ := info_parts info_u8
  obtain ⟨g, cT, RA, RC, hT⟩ := h
  have hlen := hb.len
  have hat : vat S v b.length = (v.P.length, v.q.length) := if_pos (by omega)
  have hput : vput S v b = ⟨v.P, v.q ++ b⟩ := if_pos (by omega)
  have HAT := Lib.hid hat
  have HPUT := Lib.hid hput
  have hq1 := hv.q1
  have hS1 : 1 ≤ S := by omega
  obtain ⟨l, hl⟩ : ∃ l, l = v.P.length := ⟨_, rfl⟩
  obtain ⟨L, hL⟩ : ∃ L, L = v.q.length := ⟨_, rfl⟩
  have hLS : L ≤ S := by omega
  have hLn : L + n ≤ S := by omega
  have hb0 := (Below.refl w.heap.size w).alloc (Nat.le_refl _) (.cells (plC 0 0) 37)
  have hT0 := hT.below hb0
  have hR0 := hb.below hb0
  have hx0 : (w.alloc (.cells (plC 0 0) 37)).cell? ⟨g, l, none⟩ = some (.slice (RA l) L (RC l)) := by
    have := hT0.cell (r := l) (by omega)
    rw [hl, vrow_last, ← hL, ← hl] at this
    exact this
  have hN := Next_c (x := (n : Int)) (by have h9 := hT0.blk; rw [← hl] at h9; exact h9) hx0 hT0.glt hS (by omega) hS1 hLS (by simp [Lit.wf, IntKind.min, IntKind.max, IntKind.bits, IntKind.signed]; omega)
  have HT0 := Lib.hid hT0
  have HR0 := Lib.hid hR0
  have HB0 := Lib.hid hb0
  have HN := Lib.hid hN
  have HL := Lib.hid (And.intro hl hL)
  have HT := Lib.hid hT
  have HLEN := Lib.hid hlen
  clear hN hT0 hR0 hb0 hx0 hl hL hT hat hput hlen hb
  unfold plC at *
  go_enter Try.func26, Try.ntmps26
  go_wp2_with fail
  refine HN.out.mono ?_
  rintro e w1 ⟨d, o, rfl, hs, hb1⟩
  have hdo : d = l ∧ o = L := by
    rcases hs with ⟨_, e1, e2⟩ | ⟨e1, _⟩
    · exact ⟨e1, e2⟩
    · omega
  obtain ⟨rfl, rfl⟩ := hdo
  clear hs
  unfold plV plC
  go_wp2_with fail
  have hba := (Below.refl w1.heap.size w1).alloc (Nat.le_refl _) (.cells #[.int .i64 (d : Int), .int .i64 (o : Int)] 37)
  have hT2 := (HT0.out.below hb1).below hba
  have hR2 := (HR0.out.below hb1).below hba
  have hK5 := Blk.new w1 37 #[.int .i64 (d : Int), .int .i64 (o : Int)]
  have hK4 := ((Blk.new w 37 #[.int .i64 0, .int .i64 0]).below (Blk.new w _ _).lt hb1).below (((Blk.new w _ _).below (Blk.new w _ _).lt hb1).lt) hba
  have hB1 := HB0.out.trans (hb1.mono HB0.out.size)
  have hB2 := hB1.trans (hba.mono hB1.size)
  have hsz : w.heap.size < w1.heap.size := by have := hb1.size; simp at this; omega
  have hq5 : w1.heap.size < (w1.alloc (.cells #[.int .i64 (d : Int), .int .i64 (o : Int)] 37)).heap.size := by simp
  have hpw := HT.out.plt
  have hgw := HT.out.glt
  have hgp := HT.out.pg
  have hfp5 : ∀ k, Fp k → k < w.heap.size := fun k hk => (HT.out.sub k hk).2
  have HB2 := Lib.hid hB2
  have HT2 := Lib.hid hT2
  have HR2 := Lib.hid hR2
  have HK5 := Lib.hid hK5
  have HK4 := Lib.hid hK4
  have HF := Lib.hid hfp5
  clear hB1 hB2 hT2 hR2 hK5 hK4 hba hb1 HB0 HT0 HR0 HN hfp5
  generalize w1.alloc (.cells #[.int .i64 (d : Int), .int .i64 (o : Int)] 37) = W2 at *
  generalize w1.heap.size = q5 at *
  have hne : ((d : Int) == (d : Int) + 1) = false := by rw [beq_eq_false_iff_ne]; omega
  have z5 : W2.cell? ⟨q5, 0, none⟩ = some (.int .i64 d) := HK5.out.cell 0
  have zp : W2.cell? ⟨p, 1, none⟩ = some (.slice (some ⟨g, 0, none⟩) (d + 1) cT) := by
    have := HT2.out.blk.cell 1
    rw [← HL.out.1] at this
    exact this
  have zg : W2.cell? ⟨g, d, none⟩ = some (.slice (RA d) o (RC d)) := by
    have := HT2.out.cell (r := d) (by have := HL.out.1; omega)
    rw [show vrow v d = v.q by rw [HL.out.1, vrow_last], ← HL.out.2] at this
    exact this
  go_region_held3 (fun W' => W'.cell? ⟨q5, 0, none⟩ = some (.int .i64 d) ∧ W'.cell? ⟨p, 1, none⟩ = some (.slice (some ⟨g, 0, none⟩) (d + 1) cT)) (go_keep) (fail)
  obtain ⟨b1, o1, rfl, _, _⟩ := HR2.out.at_ (k := 0) (by omega)
  have ix1 : (0 : Int) ≤ d := by omega
  have ix2 : (d : Int) < (d : Int) + 1 := by omega
  go_wp2_with fail
  have HOWN : Hid (W2.drew.drew.ownsRow base 5 1 (.slice (RA d) o (RC d)) o (cs v.q)) := by
    have h9 := (HT2.out.rows d (by have := HL.out.1; omega)).1
    rw [show vrow v d = v.q by rw [HL.out.1, vrow_last], ← HL.out.2] at h9
    exact h9
  have HCELLS := Lib.hid HR2.out.cells
  have HBASE : Hid (base ≤ W2.heap.size) := by have := (HT2.out.sub p HT2.out.fp); unfold Hid; omega
  have HNE := Lib.hid (fun k (hk : (Value.slice (RA d) o (RC d)).ownBlock = some k) => (HT2.out.rows d (by have := HL.out.1; omega)).2 k (by rw [← ownBlock_slice (RA d) o (RC d)]; exact hk))
  clear hne
  refine wp_region_held_drew (S := fun W' => W'.cell? ⟨q5, 0, none⟩ = some (.int .i64 d) ∧ W'.cell? ⟨p, 1, none⟩ = some (.slice (some ⟨g, 0, none⟩) (d + 1) cT)) (by kernel_rfl) ?_ (fun hHeld => ?_)
  · go_keep
  refine wpAnyH_take (i := 0) (oi := { dst := some 27, op := _, type := _, pos := _, after := _, guard := _ }) (v := ?_) rfl (by kernel_rfl) (by kernel_rfl) (by kernel_rfl) (fun _ _ _ h => h) (Or.inl ⟨by rfl, ?_⟩) (by assumption) ?_
  rotate_left
  · intro w' hSw
    try dsimp only at hSw
    go_simp
    try with_reducible rfl
  try simp only [Act.put, List.setIfInBounds_toArray, List.set_cons_zero, List.set_cons_succ]
  refine wpAnyH_take (i := 1) (oi := { dst := some 28, op := _, type := _, pos := _, after := _, guard := _ }) (v := ?_) rfl (by kernel_rfl) (by kernel_rfl) (by kernel_rfl) (fun _ _ _ h => h) (Or.inl ⟨by rfl, ?_⟩) (by assumption) ?_
  rotate_left
  · intro w' hSw
    try dsimp only at hSw
    go_simp
    try with_reducible rfl
  try simp only [Act.put, List.setIfInBounds_toArray, List.set_cons_zero, List.set_cons_succ]
  refine wpAnyH_take (i := 2) (oi := { dst := some 29, op := _, type := _, pos := _, after := _, guard := _ }) (v := ?_) rfl (by kernel_rfl) (by kernel_rfl) (by kernel_rfl) (fun _ _ _ h => h) (Or.inl ⟨by rfl, ?_⟩) (by assumption) ?_
  rotate_left
  · intro w' hSw
    try dsimp only at hSw
    go_simp
    try with_reducible rfl
  try simp only [Act.put, List.setIfInBounds_toArray, List.set_cons_zero, List.set_cons_succ]
  refine wpAnyH_take (i := 3) (oi := { dst := some 30, op := _, type := _, pos := _, after := _, guard := _ }) (v := ?_) rfl (by kernel_rfl) (by kernel_rfl) (by kernel_rfl) (fun _ _ _ h => h) (Or.inl ⟨by rfl, ?_⟩) (by assumption) ?_
  rotate_left
  · intro w' hSw
    try dsimp only at hSw
    go_simp
    try with_reducible rfl
  try simp only [Act.put, List.setIfInBounds_toArray, List.set_cons_zero, List.set_cons_succ]
  refine wpAnyH_take (i := 4) (oi := { dst := some 31, op := _, type := _, pos := _, after := _, guard := _ }) (v := ?_) rfl (by kernel_rfl) (by kernel_rfl) (by kernel_rfl) (fun _ _ _ h => h) (Or.inl ⟨by rfl, ?_⟩) (by assumption) ?_
  rotate_left
  · intro w' hSw
    try dsimp only at hSw
    go_simp
    try with_reducible rfl
  try simp only [Act.put, List.setIfInBounds_toArray, List.set_cons_zero, List.set_cons_succ]
  refine wpAnyH_take (i := 5) (oi := { dst := some 32, op := _, type := _, pos := _, after := _, guard := _ }) (v := ?_) rfl (by kernel_rfl) (by kernel_rfl) (by kernel_rfl) (fun _ _ _ h => h) (Or.inl ⟨by rfl, ?_⟩) (by assumption) ?_
  rotate_left
  · intro w' hSw
    try dsimp only at hSw
    go_simp
    try with_reducible rfl
  try simp only [Act.put, List.setIfInBounds_toArray, List.set_cons_zero, List.set_cons_succ]
  refine wpAnyH_take (i := 6) (oi := { dst := some 33, op := _, type := _, pos := _, after := _, guard := _ }) (v := ?_) rfl (by kernel_rfl) (by kernel_rfl) (by kernel_rfl) (fun _ _ _ h => h) (Or.inl ⟨by rfl, ?_⟩) (by assumption) ?_
  rotate_left
  · intro w' hSw
    try dsimp only at hSw
    go_simp
    try with_reducible rfl
  try simp only [Act.put, List.setIfInBounds_toArray, List.set_cons_zero, List.set_cons_succ]
  refine wpAnyH_take (i := 7) (oi := { dst := some 34, op := _, type := _, pos := _, after := _, guard := _ }) (v := ?_) rfl (by kernel_rfl) (by kernel_rfl) (by kernel_rfl) (fun _ _ _ h => h) (Or.inl ⟨by rfl, ?_⟩) (by assumption) ?_
  rotate_left
  · intro w' hSw
    try dsimp only at hSw
    go_simp
    try with_reducible rfl
  try simp only [Act.put, List.setIfInBounds_toArray, List.set_cons_zero, List.set_cons_succ]
  refine wpAnyH_take (i := 8) (oi := { dst := some 35, op := _, type := _, pos := _, after := _, guard := _ }) (v := ?_) rfl (by kernel_rfl) (by kernel_rfl) (by kernel_rfl) (fun _ _ _ h => h) (Or.inl ⟨by rfl, ?_⟩) (by assumption) ?_
  rotate_left
  · intro w' hSw
    try dsimp only at hSw
    go_simp
    try with_reducible rfl
  try simp only [Act.put, List.setIfInBounds_toArray, List.set_cons_zero, List.set_cons_succ]
  refine wpAnyH_take (i := 9) (oi := { dst := some 36, op := _, type := _, pos := _, after := _, guard := _ }) (v := ?_) rfl (by kernel_rfl) (by kernel_rfl) (by kernel_rfl) (fun _ _ _ h => h) (Or.inl ⟨by rfl, ?_⟩) (by assumption) ?_
  rotate_left
  · intro w' hSw
    try dsimp only at hSw
    go_simp
    try with_reducible rfl
  try simp only [Act.put, List.setIfInBounds_toArray, List.set_cons_zero, List.set_cons_succ]
  refine wpAnyH_take (i := 10) (oi := { dst := some 37, op := _, type := _, pos := _, after := _, guard := _ }) (v := ?_) rfl (by kernel_rfl) (by kernel_rfl) (by kernel_rfl) (fun _ _ _ h => h) (Or.inl ⟨by rfl, ?_⟩) (by assumption) ?_
  rotate_left
  · intro w' hSw
    try dsimp only at hSw
    go_simp
    try with_reducible rfl
  try simp only [Act.put, List.setIfInBounds_toArray, List.set_cons_zero, List.set_cons_succ]
  refine wpAnyH_take (i := 11) (oi := { dst := some 38, op := _, type := _, pos := _, after := _, guard := _ }) (v := ?_) rfl (by kernel_rfl) (by kernel_rfl) (by kernel_rfl) (fun _ _ _ h => h) (Or.inl ⟨by rfl, ?_⟩) (by assumption) ?_
  rotate_left
  · intro w' hSw
    try dsimp only at hSw
    go_simp
    try with_reducible rfl
  try simp only [Act.put, List.setIfInBounds_toArray, List.set_cons_zero, List.set_cons_succ]
  refine wpAnyH_take (i := 12) (oi := { dst := some 39, op := _, type := _, pos := _, after := _, guard := _ }) (v := ?_) rfl (by kernel_rfl) (by kernel_rfl) (by kernel_rfl) (fun _ _ _ h => h) (Or.inl ⟨by rfl, ?_⟩) (by assumption) ?_
  rotate_left
  · intro w' hSw
    try dsimp only at hSw
    go_simp
    try with_reducible rfl
  try simp only [Act.put, List.setIfInBounds_toArray, List.set_cons_zero, List.set_cons_succ]
  refine wpAnyH_take (i := 14) (oi := { dst := some 41, op := _, type := _, pos := _, after := _, guard := _ }) (v := ?_) rfl (by kernel_rfl) (by kernel_rfl) (by kernel_rfl) (fun _ _ _ h => h) (Or.inl ⟨by rfl, ?_⟩) (by assumption) ?_
  rotate_left
  · intro w' hSw
    try dsimp only at hSw
    go_simp
    try with_reducible rfl
  try simp only [Act.put, List.setIfInBounds_toArray, List.set_cons_zero, List.set_cons_succ]
  refine wpAnyH_ready (rs := [13]) (by kernel_rfl) (by simp) ?_
  refine AllReadyH.cons (o := { dst := some 40, op := _, type := _, pos := _, after := _, guard := _ }) rfl (fun K hK => ?_) AllReadyH.nil
  go_simp
  try go_wp2_with fail
  refine hK.out _ _ ?_ (fun hHeld => ?_)
  · exact hHeld
  clear hK K
  try simp only [Act.put, List.setIfInBounds_toArray, List.set_cons_zero, List.set_cons_succ]
  refine wpAnyH_ready (rs := [15]) (by kernel_rfl) (by simp) ?_
  refine AllReadyH.cons (o := { dst := some 42, op := _, type := _, pos := _, after := _, guard := _ }) rfl (fun K hK => ?_) AllReadyH.nil
  refine step_append_lies _ (by rfl) (.tmp 40) (.tmp 41) 33 (by rfl) base 5 i0 (.int .u8 0) 1 1 Try.underlying33 hi hz0 hz1 hz2 rfl (by decide) (.slice (RA d) o (RC d)) o (cs v.q) (by rfl) HOWN.out ⟨b1, o1, none⟩ n c (cs b) (by rfl) (by rw [cs_length, HLEN.out, Nat.mul_one]) HCELLS.out (cs_one b) (by omega) (by unfold maxLen; omega) (by omega) HBASE.out W2.heap.size (by rfl) ?_
  intro gg cap' w5 hown5 hg5 hat5 hlt5
  have y5 : w5.cell? ⟨q5, 0, none⟩ = some (.int .i64 d) := hg5.cell z5 (fun e => by have h9 := HF.out q5 (HNE.out q5 e.symm).1; omega)
  have yp : w5.cell? ⟨p, 1, none⟩ = some (.slice (some ⟨g, 0, none⟩) (d + 1) cT) := hg5.cell zp (fun e => (HNE.out p e.symm).2.1 rfl)
  have yg : w5.cell? ⟨g, d, none⟩ = some (.slice (RA d) o (RC d)) := hg5.cell zg (fun e => (HNE.out g e.symm).2.2.1 rfl)
  have yf : w5.frozen? ⟨g, d, none⟩ = false := (World.frozen?_of_block (hg5.block g (by show g < W2.heap.size; omega) (fun e => (HNE.out g e.symm).2.2.1 rfl))).trans (HT2.out.tab.frozenAt d)
  refine hK.out _ _ ?_ (fun hHeld => ?_)
  · exact ⟨y5, yp⟩
  clear hK K
  try simp only [Act.put, List.setIfInBounds_toArray, List.set_cons_zero, List.set_cons_succ]
  refine wpAnyH_take (i := 16) (oi := { dst := some 43, op := _, type := _, pos := _, after := _, guard := _ }) (v := ?_) rfl (by kernel_rfl) (by kernel_rfl) (by kernel_rfl) (fun _ _ _ h => h) (Or.inl ⟨by rfl, ?_⟩) (by assumption) ?_
  rotate_left
  · intro w' hSw
    try dsimp only at hSw
    go_simp
    try with_reducible rfl
  try simp only [Act.put, List.setIfInBounds_toArray, List.set_cons_zero, List.set_cons_succ]
  refine wpAnyH_ready (rs := [17]) (by kernel_rfl) (by simp) ?_
  refine AllReadyH.cons (o := { dst := none, op := _, type := _, pos := _, after := _, guard := _ }) rfl (fun K hK => ?_) AllReadyH.nil
  go_simp
  try go_wp2_with fail
  refine hK.out _ _ ?_ (fun hHeld => ?_)
  · exact ⟨(World.cell?_of_block (Below.heap_setCell _ _ _ _ (by simp; omega))).trans y5, (World.cell?_of_block (Below.heap_setCell _ _ _ _ (fun e => hgp e.symm))).trans yp⟩
  clear hK K
  try simp only [Act.put, List.setIfInBounds_toArray, List.set_cons_zero, List.set_cons_succ]
  refine wpAnyH_done (by kernel_rfl) ?_ _
  have HX : Hid ((v.q ++ b).length = o + n) := by unfold Hid; rw [List.length_append, HLEN.out, HL.out.2]
  have hdl : v.P.length + 1 = d + 1 := by rw [HL.out.1]
  have hg6 : W2.drew.drew.grownBy w5 (obk (RA d)) := by rw [← ownBlock_slice (RA d) o (RC d)]; exact hg5
  have hS9 := HT2.out.drew.drew.app (l := d) hdl (A' := some ⟨gg, 0, none⟩) (c' := cap') (b := v.q ++ b) (w1 := w5) (by rw [HX.out, cs_append]; exact hown5) hg6 (fun k hk => by
    injection hk with hk
    subst hk
    rcases hat5 with e | e
    · left; rw [← ownBlock_slice (RA d) o (RC d)]; exact e
    · right; exact Nat.le_of_eq e.symm)
  have hKF := ((KeepF.ofBelow (Fp := Fp) HB2.out.drew.drew).trans (HT2.out.drew.drew.app_keep hdl hg6 (.slice (some ⟨gg, 0, none⟩) (o + n) cap')) (fun _ _ h => h))
  rw [HX.out] at hS9
  have hb5 : w5.heap[q5]? = W2.heap[q5]? := hg5.block q5 hq5 (fun e => by have h9 := HF.out q5 (HNE.out q5 e.symm).1; omega)
  have hb4 : w5.heap[w.heap.size]? = W2.heap[w.heap.size]? := hg5.block w.heap.size (by show _ < W2.heap.size; omega) (fun e => by have h9 := HF.out _ (HNE.out _ e.symm).1; omega)
  have k5 : Blk w5 q5 37 #[.int .i64 (d : Int), .int .i64 (o : Int)] := hb5.trans HK5.out
  have k4 : Blk w5 w.heap.size 37 #[.int .i64 0, .int .i64 0] := hb4.trans HK4.out
  have k5' := k5.setOther (a := ⟨g, d, none⟩) (by simp; omega) (.slice (some ⟨gg, 0, none⟩) (o + n) cap')
  have k4' := k4.setOther (a := ⟨g, d, none⟩) (by simp; omega) (.slice (some ⟨gg, 0, none⟩) (o + n) cap')
  have hS10 : Spw (w5.setCell ⟨g, d, none⟩ (.slice (some ⟨gg, 0, none⟩) (o + n) cap')) base p S ⟨v.P, v.q ++ b⟩ (Fgrow Fp W2.heap.size w5.heap.size) := ⟨g, cT, _, _, hS9.congr fun r hr => by rw [HL.out.1]; exact vrow_upd_fit v b hr⟩
  have hs9 : (w5.setCell ⟨g, d, none⟩ (.slice (some ⟨gg, 0, none⟩) (o + n) cap')).heap.size = w5.heap.size := by simp [World.setCell]
  have hs5 : W2.heap.size ≤ w5.heap.size := hg5.size
  have HS10 := Lib.hid hS10
  have HKF := Lib.hid hKF
  have HAT2 : Hid (vat S v b.length = (d, o)) := by unfold Hid; rw [HAT.out, HL.out.1, HL.out.2]
  have HBP : Hid (base ≤ p) := (HT.out.sub p HT.out.fp).1
  clear hg6 hS9 hKF hb5 hb4 k5 k4 hS10 hown5 hg5 hat5 hlt5 y5 yp yg yf hHeld
  generalize w5.setCell ⟨g, d, none⟩ (.slice (some ⟨gg, 0, none⟩) (o + n) cap') = W9 at *
  have tl := ld_pl k5' rfl
  have ts := st_pl k4' rfl (plC d o) rfl (by simp [plC, Value.oneCell'])
  have t3 := ld_pl (k4'.setRow (plC d o)) rfl
  unfold plC at ts t3
  go_wp2_with (first
    | (with_reducible refine wpList_load_var q5 _ rfl tl ?_)
    | (with_reducible refine wpList_store_var _ _ _ (by with_unfolding_all rfl) (by with_unfolding_all rfl) ts ?_))
  refine bodyPost_ret (v := .agg #[.int .i64 d, .int .i64 o]) ?_ rfl (PtR.of d o HAT2.out HPUT.out rfl (HKF.out.setRow (Nat.le_refl _) _) ?_)
  · rw [results_cell_oneV rfl]
    simp [asAddr, Result.andThen, Act.put, t3]
  · have h1 := HS10.out.setRow (q := w.heap.size) (fun e => by
      rcases e with e | e
      · exact absurd (HF.out _ e) (by omega)
      · omega) #[.int .i64 d, .int .i64 o]
    refine h1.wider (fun k hk => ?_) (fun k hk => ?_)
    · rw [World.size_setRow]
      rcases hk with hk | hk
      · exact .inl hk
      · exact .inr ⟨by omega, by omega⟩
    · rw [World.size_setRow] at hk ⊢
      rcases hk with hk | hk
      · have := HT.out.sub k hk; omega
      · have := HBP.out; omega
end Go.Proofs.Ytkijagodedmipaa
